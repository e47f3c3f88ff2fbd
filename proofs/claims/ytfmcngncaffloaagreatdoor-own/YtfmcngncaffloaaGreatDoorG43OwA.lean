import Derived.Test.YtfmcngncaffloaaGreatDoorG08ObjW
namespace Go.Proofs.YtfmcngncaffloaaGreatDoor
open Go.RowKit
set_option maxRecDepth 100000

/-! One writer's lists: all dots are older than the next one. -/
/-- A dot of replica r, older than the one of batch s, effect i. -/
structure Old (r s i : Int) (d : Wv.Dt) : Prop where
  o : d.o = r
  s1 : 1 ≤ d.s
  i0 : 0 ≤ d.i
  i5 : d.i < 5
  lt : d.s < s ∨ d.s = s ∧ d.i < i
theorem Old.next {r s i : Int} {d : Wv.Dt} (h : Old r s i d) : Old r s (i + 1) d := ⟨h.o, h.s1, h.i0, h.i5, by have := h.lt; omega⟩
theorem Old.mono {r s i s' i' : Int} {d : Wv.Dt} (h : Old r s i d) (hs : s < s' ∨ s = s' ∧ i ≤ i') : Old r s' i' d := ⟨h.o, h.s1, h.i0, h.i5, by have := h.lt; omega⟩
theorem Old.self {r s i : Int} (h1 : 1 ≤ s) (h0 : 0 ≤ i) (h5 : i < 5) : Old r s (i + 1) ⟨r, s, i⟩ := ⟨rfl, h1, h0, h5, .inr ⟨rfl, by show i < i + 1; omega⟩⟩
theorem Old.ne {r s i : Int} {d : Wv.Dt} (h : Old r s i d) : d ≠ ⟨r, s, i⟩ := by
  rintro rfl
  have := h.lt
  simp at this
structure LsO (r s i : Int) (ls : List El) : Prop where
  old : ∀ e ∈ ls, Old r s i e.s.d
  t : ∀ e ∈ ls, e.s.t = e.s.d.s
  nd : (ls.map (fun e => e.s.d)).Nodup
theorem LsO.next {r s i : Int} {ls : List El} (h : LsO r s i ls) : LsO r s (i + 1) ls := ⟨fun e he => (h.old e he).next, h.t, h.nd⟩
theorem LsO.mono {r s i s' i' : Int} {ls : List El} (h : LsO r s i ls) (hs : s < s' ∨ s = s' ∧ i ≤ i') : LsO r s' i' ls := ⟨fun e he => (h.old e he).mono hs, h.t, h.nd⟩
theorem dotIs_iff (d : Wv.Dt) (e : El) : dotIs d e = true ↔ e.s.d = d := by
  unfold dotIs eq3
  obtain ⟨⟨⟨o, s, i⟩, t⟩, v, x⟩ := e
  obtain ⟨o', s', i'⟩ := d
  simp [and_assoc]
theorem later_not {r s i : Int} {e : El} (h : Old r s i e.s.d) (ht : e.s.t = e.s.d.s) : laterE ⟨⟨r, s, i⟩, s⟩ e = false := by
  unfold laterE laterS
  have h1 := h.o; have h2 := h.lt
  rw [ht]
  simp only [decide_eq_false_iff_not]
  unfold orI cmpI
  (repeat' split) <;> omega
theorem firstI_app {f : El → Bool} {l1 l2 : List El} {e : El} (h1 : ∀ x ∈ l1, f x = false) (he : f e = true) : firstI f (l1 ++ e :: l2) = l1.length := by
  unfold firstI
  rw [List.findIdx?_append, List.findIdx?_eq_none_iff.2 h1, List.findIdx?_cons, he]
  simp
theorem firstI_out {f : El → Bool} {l : List El} (h : ∀ x ∈ l, f x = false) : firstI f l = -1 := by
  unfold firstI
  rw [List.findIdx?_eq_none_iff.2 h]
/-- The element number k that stands. -/
theorem stands_split : ∀ (ls : List El) (k : Nat) (hk : k < (stands ls).length), ∃ l1 e l2, ls = l1 ++ e :: l2 ∧ e.x = false ∧ (stands l1).length = k ∧ (stands ls)[k] = e
  | [], k, hk => by simp [stands] at hk
  | a :: ls, k, hk => by
    cases hx : a.x with
    | true =>
      have e1 : stands (a :: ls) = stands ls := by simp [stands, hx]
      simp only [e1] at hk ⊢
      obtain ⟨l1, e, l2, h1, h2, h3, h4⟩ := stands_split ls k hk
      exact ⟨a :: l1, e, l2, by rw [h1]; rfl, h2, by rw [show stands (a :: l1) = stands l1 by simp [stands, hx]]; exact h3, h4⟩
    | false =>
      have e1 : stands (a :: ls) = a :: stands ls := by simp [stands, hx]
      simp only [e1] at hk ⊢
      match k with
      | 0 => exact ⟨[], a, ls, rfl, hx, rfl, rfl⟩
      | k + 1 =>
        obtain ⟨l1, e, l2, h1, h2, h3, h4⟩ := stands_split ls k (by simpa using hk)
        exact ⟨a :: l1, e, l2, by rw [h1]; rfl, h2, by rw [show stands (a :: l1) = a :: stands l1 by simp [stands, hx]]; simp [h3], by simpa using h4⟩
theorem stands_app (a b : List El) : stands (a ++ b) = stands a ++ stands b := by simp [stands]
theorem stands_yes {e : El} (l : List El) (h : e.x = false) : stands (e :: l) = e :: stands l := by simp [stands, h]
theorem stands_no {e : El} (l : List El) (h : e.x = true) : stands (e :: l) = stands l := by simp [stands, h]
/-- The list with v as its element number n. -/
def insV (l : List Int) (n : Nat) (v : Int) : List Int := l.take n ++ v :: l.drop n
def delV (l : List Int) (n : Nat) : List Int := l.take n ++ l.drop (n + 1)
theorem LsO.apart {r s i : Int} {l1 l2 : List El} {e : El} (h : LsO r s i (l1 ++ e :: l2)) : (∀ x ∈ l1, dotIs e.s.d x = false) ∧ (∀ x ∈ l2, dotIs e.s.d x = false) := by
  have hn := h.nd
  rw [List.map_append, List.map_cons, List.nodup_append] at hn
  obtain ⟨_, h2, h3⟩ := hn
  rw [List.nodup_cons] at h2
  refine ⟨fun x hx => ?_, fun x hx => ?_⟩
  · rw [← Bool.not_eq_true, dotIs_iff]
    exact h3 _ (List.mem_map.2 ⟨x, hx, rfl⟩) _ (List.mem_cons_self ..)
  · rw [← Bool.not_eq_true, dotIs_iff]
    intro q
    exact h2.1 (List.mem_map.2 ⟨x, hx, q⟩)
theorem take_none {r s i : Int} {l : List El} (h1 : ∀ e ∈ l, Old r s i e.s.d) (h2 : ∀ e ∈ l, e.s.t = e.s.d.s) : l.takeWhile (laterE ⟨⟨r, s, i⟩, s⟩) = [] := by
  match l with
  | [] => rfl
  | a :: l => rw [List.takeWhile_cons, later_not (h1 a (List.mem_cons_self ..)) (h2 a (List.mem_cons_self ..))]; rfl
theorem LsO.ins {r s i : Int} {l1 l2 : List El} {x : El} (h : LsO r s i (l1 ++ l2)) (hx : x.s = ⟨⟨r, s, i⟩, s⟩) (h1 : 1 ≤ s) (h0 : 0 ≤ i) (h5 : i < 5) : LsO r s (i + 1) (l1 ++ x :: l2) := by
  have hm : ∀ e, e ∈ l1 ++ x :: l2 ↔ e = x ∨ e ∈ l1 ++ l2 := fun e => by simp only [List.mem_append, List.mem_cons]; exact ⟨fun q => by rcases q with q | q | q <;> simp [q], fun q => by rcases q with q | q | q <;> simp [q]⟩
  refine ⟨fun e he => ?_, fun e he => ?_, ?_⟩
  · rcases (hm e).1 he with rfl | he
    · rw [hx]; exact Old.self h1 h0 h5
    · exact (h.old e he).next
  · rcases (hm e).1 he with rfl | he
    · rw [hx]
    · exact h.t e he
  · have hp : ((l1 ++ x :: l2).map (fun e => e.s.d)).Perm ((x :: (l1 ++ l2)).map (fun e => e.s.d)) := List.Perm.map _ List.perm_middle
    rw [hp.nodup_iff, List.map_cons, List.nodup_cons]
    refine ⟨fun hq => ?_, h.nd⟩
    obtain ⟨e, he, q⟩ := List.mem_map.1 hq
    rw [hx] at q
    exact (h.old e he).ne q
/-- A Put at place n. -/
theorem put_own {r s i : Int} {ls : List El} (h : LsO r s i ls) (h1 : 1 ≤ s) (h0 : 0 ≤ i) (h5 : i < 5) (n : Nat) (v : Int) (hn : n ≤ (stands ls).length) :
    ∃ d, putA ls n v = (v, d, 0) ∧ (n = 0 ∧ d = ⟨0, 0, 0⟩ ∨ Old r s i d) ∧ LsO r s (i + 1) (putL ls ⟨⟨⟨r, s, i⟩, s⟩, v, false⟩ d) ∧ (stands (putL ls ⟨⟨⟨r, s, i⟩, s⟩, v, false⟩ d)).map El.v = insV ((stands ls).map El.v) n v := by
  match n with
  | 0 =>
    refine ⟨⟨0, 0, 0⟩, rfl, .inl ⟨rfl, rfl⟩, ?_⟩
    have e0 : firstI (dotIs ⟨0, 0, 0⟩) ls = -1 := firstI_out (fun x hx => by
      rw [← Bool.not_eq_true, dotIs_iff]
      intro q
      have := (h.old x hx).s1
      rw [q] at this
      simp at this)
    have e1 : putL ls ⟨⟨⟨r, s, i⟩, s⟩, v, false⟩ ⟨0, 0, 0⟩ = ⟨⟨⟨r, s, i⟩, s⟩, v, false⟩ :: ls := by
      unfold putL placeL headL
      rw [e0]
      simp [take_none h.old h.t, insL]
    rw [e1]
    exact ⟨LsO.ins (l1 := []) h rfl h1 h0 h5, by rw [stands_yes _ rfl]; simp [insV]⟩
  | k + 1 =>
    obtain ⟨l1, e, l2, rfl, hx, hk, he⟩ := stands_split ls k (by omega)
    refine ⟨e.s.d, ?_, .inr (h.old e (by simp)), ?_⟩
    · have := putA_yes (l1 ++ e :: l2) k v (by omega)
      rw [he] at this
      exact this
    have ha := h.apart
    have e0 : firstI (dotIs e.s.d) (l1 ++ e :: l2) = l1.length := firstI_app ha.1 ((dotIs_iff _ _).2 rfl)
    have e1 : putL (l1 ++ e :: l2) ⟨⟨⟨r, s, i⟩, s⟩, v, false⟩ e.s.d = (l1 ++ [e]) ++ ⟨⟨⟨r, s, i⟩, s⟩, v, false⟩ :: l2 := by
      have hd : (l1 ++ e :: l2).drop (l1.length + 1) = l2 := by
        rw [show l1 ++ e :: l2 = (l1 ++ [e]) ++ l2 by simp, show l1.length + 1 = (l1 ++ [e]).length by simp]
        exact List.drop_left
      have ht : (l1 ++ e :: l2).take (l1.length + 1) = l1 ++ [e] := by
        rw [show l1 ++ e :: l2 = (l1 ++ [e]) ++ l2 by simp, show l1.length + 1 = (l1 ++ [e]).length by simp]
        exact List.take_left
      have hh : headL (l1 ++ e :: l2) e.s.d = l1.length + 1 := by unfold headL; rw [e0]; omega
      unfold putL placeL
      rw [hh, hd, take_none (fun x hx => h.old x (by simp [hx])) (fun x hx => h.t x (by simp [hx]))]
      unfold insL
      simp only [List.length_nil, Nat.add_zero]
      rw [hd, ht]
    rw [e1]
    refine ⟨LsO.ins (l1 := l1 ++ [e]) (by simpa using h) rfl h1 h0 h5, ?_⟩
    rw [stands_app, stands_app, stands_yes _ hx, stands_yes _ rfl, stands_app, stands_yes _ hx]
    unfold insV
    have hk' : ((stands l1).map El.v).length = k := by rw [List.length_map, hk]
    simp only [List.map_append, List.map_cons, List.append_assoc]
    generalize (stands l1).map El.v = q at hk'
    subst hk'
    simp [List.take_append, List.drop_append, stands]
    rw [List.take_of_length_le (by omega), List.drop_eq_nil_of_le (by omega)]
    rfl
/-- An Erase at place n. -/
theorem erase_own {r s i : Int} {ls : List El} (h : LsO r s i ls) (n : Nat) (hn : n < (stands ls).length) :
    ∃ d, eraseA ls n = (d, 0) ∧ Old r s i d ∧ LsO r s (i + 1) (ls.map (markE d)) ∧ (stands (ls.map (markE d))).map El.v = delV ((stands ls).map El.v) n := by
  have he' : eraseA ls n = ((stands ls)[n].s.d, 0) := by
    unfold eraseA
    rw [dif_pos ⟨by omega, by simpa using hn⟩]
    simp
  obtain ⟨l1, e, l2, rfl, hx, hk, he⟩ := stands_split ls n hn
  rw [he] at he'
  have ha := h.apart
  have m1 : ∀ l : List El, (∀ x ∈ l, dotIs e.s.d x = false) → l.map (markE e.s.d) = l := fun l hl => by
    rw [List.map_congr_left (g := id) (fun x hx => by unfold markE; rw [hl x hx]; rfl)]
    exact List.map_id l
  have e1 : (l1 ++ e :: l2).map (markE e.s.d) = l1 ++ { e with x := true } :: l2 := by
    rw [List.map_append, List.map_cons, m1 l1 ha.1, m1 l2 ha.2]
    unfold markE
    rw [if_pos ((dotIs_iff _ _).2 rfl)]
  refine ⟨e.s.d, he', h.old e (by simp), ?_, ?_⟩
  · have hd : ((l1 ++ e :: l2).map (markE e.s.d)).map (fun e => e.s.d) = (l1 ++ e :: l2).map (fun e => e.s.d) := by
      rw [e1]; simp
    have hm : ∀ x ∈ (l1 ++ e :: l2).map (markE e.s.d), ∃ y ∈ l1 ++ e :: l2, x.s = y.s := fun x hx => by
      obtain ⟨y, hy, rfl⟩ := List.mem_map.1 hx
      exact ⟨y, hy, by unfold markE; split <;> rfl⟩
    refine ⟨fun x hx => ?_, fun x hx => ?_, by rw [hd]; exact h.nd⟩
    · obtain ⟨y, hy, q⟩ := hm x hx
      rw [q]; exact (h.old y hy).next
    · obtain ⟨y, hy, q⟩ := hm x hx
      rw [q]; exact h.t y hy
  · rw [e1, stands_app, stands_app, stands_no _ rfl, stands_yes _ hx]
    unfold delV
    have hk' : ((stands l1).map El.v).length = n := by rw [List.length_map, hk]
    simp only [List.map_append, List.map_cons]
    generalize (stands l1).map El.v = q at hk'
    subst hk'
    simp [List.drop_append]

end Go.Proofs.YtfmcngncaffloaaGreatDoor
