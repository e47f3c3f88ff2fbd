import Derived.Test.YtfmcngncaffloaaGreatDoorG40QsE
import Derived.Test.YtfmcngncaffloaaGreatDoorG41CsB
import Derived.Maps.AppendAt
namespace Go.Proofs.YtfmcngncaffloaaGreatDoor
open Go.RowKit
set_option maxRecDepth 100000

/-- So many times the first message arrives, if there is one. -/
def Dels (w0 : World) (eb ef : Addr) : Nat → Sto → Sto → Prop
  | 0, S, S' => S' = S
  | n + 1, S, S' => (S.msgs = [] ∧ Dels w0 eb ef n S S') ∨ ∃ f t l sp R R', S.msgs[0]? = some ⟨1, f, (t : Nat), l, sp⟩ ∧ S.reps[t]? = some R ∧ R.st ≠ 2 ∧ TFrame w0 eb ef R l R' ∧ Dels w0 eb ef n ⟨S.reps.set t R', S.msgs.eraseIdx 0⟩ S'
theorem Sy.then {w0 w w1 w2 : World} {eb ef : Addr} {s : Nat} {S S1 : Sto} {P : Nat → Prop} (h : Sy w0 w eb ef s S P w1) (h2 : Sy w0 w1 eb ef s S1 P w2) : Sy w0 w eb ef s S1 P w2 := ⟨h2.1, fun g hg => (h2.2 g hg).trans (h.2 g hg)⟩
end Go.Proofs.YtfmcngncaffloaaGreatDoor

namespace Go.Proofs.YtfmcngncaffloaaGreatDoor
open Go.RowKit
set_option maxRecDepth 100000

theorem x_readAll {w0 w : World} {eb ef : Addr} {s : Nat} {S : Sto} {P : Nat → Prop} (h : Sx w0 w eb ef s S P) (r k : Nat) (R : Rp) (o : Ob) (l : List Int) (hR : S.reps[r]? = some R) (hup : Rup R) (hk : R.obs[k]? = some o) (hl : (seeTo (pendB R) k o R.effs.length).tells = l) :
    Calls Tryz.prog 31 #[.pointer (some ⟨s, 0, none⟩), I r, I k] w fun e w' => ReadOk w l e w' := by
  obtain ⟨own, rg, cc, pp, ch, pv, prs, hS, hen, hp⟩ := h
  rw [← hl]
  exact wread_all own s rg cc pp ch pv prs S r R k o w hS hR hup hk
end Go.Proofs.YtfmcngncaffloaaGreatDoor

namespace Go.Proofs.YtfmcngncaffloaaGreatDoor
open Go.RowKit
set_option maxRecDepth 100000

/-- An append of a list that may be nil, onto a row of the call's own. -/
theorem run_append_optw {P : Program} (w : World) (base : Nat) (t ty e : TypeId) (i : TypeInfo) (z : Value) (size bytes : Nat) (ht : P.underlying t = some (.slice e)) (hi : P.info? e = some i) (hz : i.zero = some z)
    (hsize : i.size = size) (hby : i.bytes = bytes) (hzs : z.cells.size = size) (hsz : 0 < size)
    (v : Value) (n : Nat) (xs : List Value) (hown : w.ownsRow base e size v n xs)
    (ad : Option Addr) (m c : Nat) (news : List Value) (hl : news.length = m * size) (hnil : ad = none → m = 0) (hnews : ∀ a, ad = some a → ∀ j u, news[j]? = some u → w.cell? (a.add j) = some u) (h1 : ∀ u ∈ news, u.oneCell' = true)
    (h63 : n + m ≤ maxLen) (hbytes : (n + m) * bytes ≤ 140737488355328) (hbase : base ≤ w.heap.size) :
    ∃ v' w', (Builtin.append_ #[t, t] ty #[v, .slice ad m c]).run P w = .ok v' w' ∧ w'.ownsRow base e size v' (n + m) (xs ++ news) ∧ w.grownBy w' v.ownBlock := by
  cases ad with
  | some a =>
    obtain ⟨v', w', h, h2, h3, _, _⟩ := run_append_own_at w base t ty e i z size bytes ht hi hz hsize hby hzs hsz v n xs hown a m c news hl (hnews a rfl) h1 h63 hbytes hbase
    exact ⟨v', w', h, h2, h3⟩
  | none =>
    obtain rfl : m = 0 := hnil rfl
    obtain rfl : news = [] := List.eq_nil_of_length_eq_zero (by simpa using hl)
    refine ⟨v, w, ?_, by simpa using hown, ⟨rfl, rfl, rfl, Nat.le_refl _, fun _ _ _ => rfl⟩⟩
    rcases hown.2 with ⟨rfl, rfl⟩ | ⟨g, cap, cur, rfl, hbg, hg, hnc, hcm, hcs, htake⟩
    · simp [Builtin.append_, run_underlying ht, sizeOf, typeInfo, hi, Builtin.lenOf, Builtin.firstCells]
    · simp [Builtin.append_, run_underlying ht, sizeOf, typeInfo, hi, Builtin.lenOf, Builtin.firstCells, hnc, storeCells]
theorem wpList_append_optw {P : Program} {w : World} {ops : Array Oper} {rest : List Oper} {o : Oper} {a : Act} {Q : Exit → Act → World → Prop} (hgd : o.guard = none) (s x : Operand) (t : TypeId)
    (ho : o.op = .call { callee := .builtin .append, args := #[s, x], argTypes := #[t, t] })
    (base : Nat) (e : TypeId) (i : TypeInfo) (z : Value) (size bytes : Nat) (ht : P.underlying t = some (.slice e)) (hi : P.info? e = some i) (hz : i.zero = some z)
    (hsize : i.size = size) (hby : i.bytes = bytes) (hzs : z.cells.size = size) (hsz : 0 < size)
    (v : Value) (n : Nat) (xs : List Value) (hs : a.eval s = v) (hown : w.ownsRow base e size v n xs)
    (ad : Option Addr) (m c : Nat) (news : List Value) (hx : a.eval x = .slice ad m c) (hl : news.length = m * size) (hnil : ad = none → m = 0) (hnews : ∀ a, ad = some a → ∀ j u, news[j]? = some u → w.cell? (a.add j) = some u) (h1 : ∀ u ∈ news, u.oneCell' = true)
    (h63 : n + m ≤ maxLen) (hbytes : (n + m) * bytes ≤ 140737488355328) (hbase : base ≤ w.heap.size)
    (h : ∀ v' w', w'.ownsRow base e size v' (n + m) (xs ++ news) → w.grownBy w' v.ownBlock → wpList P ops Q rest (a.put o.dst v') w') :
    wpList P ops Q (o :: rest) a w := by
  refine wpList_plain hgd fun K hK => ?_
  obtain ⟨v', w', hr, h2, h3⟩ := run_append_optw (P := P) w base t o.type e i z size bytes ht hi hz hsize hby hzs hsz v n xs hown ad m c news hl hnil hnews h1 h63 hbytes hbase
  unfold Oper.wp execOp
  simp only [ho, resolve, invoke, builtin, Sem.run_bind, Sem.run_pure, Result.andThen_ok, List.map_toArray, List.map_cons, List.map_nil, hs, hx, hr]
  exact hK _ _ (h v' w' h2 h3)
theorem At.addw {w : World} {ra : Option Addr} {cs : List Value} (h : At w ra cs) : ∀ a, ra = some a → ∀ j u, cs[j]? = some u → w.cell? (a.add j) = some u := by
  rintro a rfl j u hj
  obtain ⟨b, o, e, hc⟩ := h j u hj
  cases e
  rw [Addr.add_lit]
  exact hc
theorem ints_onew (l : List Int) : ∀ u ∈ l.map I, u.oneCell' = true := by
  intro u hu
  obtain ⟨_, _, rfl⟩ := List.mem_map.1 hu
  rfl
theorem rowAtw {w' : World} {base : Nat} {e : TypeId} {z n m c : Nat} {a : Option Addr} {xs : List Value} (h : w'.ownsRow base e z (.slice a m c) n xs) : At w' a xs := (own_at0 (own := fun _ => 0) h).at
/-- A list of numbers that may be nil; nobody writes it. -/
def Lst (w : World) (v : Value) (l : List Int) : Prop := (v = .slice none 0 0 ∧ l = []) ∨ ∃ p q c, v = .slice (some ⟨p, q, none⟩) l.length c ∧ l.length ≤ c ∧ At w (some ⟨p, q, none⟩) (l.map I)
theorem Lst.nil (w : World) : Lst w (.slice none 0 0) [] := .inl ⟨rfl, rfl⟩
theorem Lst.kept {w w' : World} {v : Value} {l : List Int} (h : Lst w v l) (hb : Below w.heap.size w w') : Lst w' v l := by
  rcases h with h | ⟨p, q, c, e, hc, hA⟩
  · exact .inl h
  · exact .inr ⟨p, q, c, e, hc, hA.kept hb⟩
theorem Lst.own {w : World} {base : Nat} {v : Value} {l : List Int} {n : Nat} (h : w.ownsRow base 3 1 v n (l.map I)) : Lst w v l := by
  have hl : l.length = n := by have := h.1; simpa using this
  subst hl
  rcases h.2 with ⟨rfl, e⟩ | ⟨g, cap, cur, rfl, _, hg, hn, _⟩
  · exact .inl ⟨rfl, List.eq_nil_of_length_eq_zero e⟩
  · exact .inr ⟨g, 0, cap, rfl, hn, rowAtw h⟩
theorem At.sub {w : World} {p q : Nat} {l : List Int} (h : At w (some ⟨p, q, none⟩) (l.map I)) (i : Nat) : At w (some ⟨p, q, none⟩) ((l.take i).map I) ∧ At w (some ⟨p, q + i, none⟩) ((l.drop i).map I) := by
  constructor
  · intro j u hj
    rw [List.map_take] at hj
    have hlt : j < i := by
      have := (List.getElem?_eq_some_iff.1 hj).1
      rw [List.length_take] at this
      omega
    rw [List.getElem?_take_of_lt hlt] at hj
    exact h j u hj
  · intro j u hj
    rw [List.map_drop, List.getElem?_drop] at hj
    obtain ⟨b, o, e, hc⟩ := h (i + j) u hj
    cases e
    exact ⟨p, q + i, rfl, by rw [Nat.add_assoc]; exact hc⟩
set_option maxHeartbeats 1600000 in
theorem at_any (lv : Value) (l : List Int) (i : Nat) (v : Int) (w : World) (h : Lst w lv l) (hi : i ≤ l.length) (hl : l.length ≤ 1048576) :
    Calls Tryz.prog 41 #[lv, I i, I v] w fun e w' => ∃ v', e = .returned v' ∧ w'.ownsRow w.heap.size 3 1 v' (l.length + 1) ((l.take i ++ v :: l.drop i).map I) ∧ Below w.heap.size w w' := by
  obtain ⟨i1, HI1⟩ : ∃ i, Hid (Tryz.prog.info? 3 = some i ∧ i.zero = some (.int .i64 0) ∧ i.size = 1 ∧ i.bytes = 8) := by obtain ⟨i, h⟩ := info_parts infoIn; exact ⟨i, h⟩
  rcases h with ⟨rfl, rfl⟩ | ⟨p, q, c, rfl, hc, hA⟩
  · obtain rfl : i = 0 := by simpa using hi
    clear hi hl
    have hone1 : ∀ u ∈ [I v], u.oneCell' = true := ints_onew [v]
    go_enter Tryz.func41, Tryz.ntmps41
    go_wp2_with (first
      | (at_builtin; refine wpList_append_own_at _ rfl _ _ _ rfl w.heap.size 3 i1 (.int .i64 0) 1 8 Tryz.underlying34 HI1.out.1 HI1.out.2.1 HI1.out.2.2.1 HI1.out.2.2.2 rfl (by decide) (.slice none 0 0) 0 [] rfl ⟨rfl, .inl ⟨rfl, rfl⟩⟩ ⟨w.heap.size, 0, none⟩ 1 1 [I v] rfl rfl (lit_any w [I v] _) hone1 (by decide) (by decide) (by simp) ?_; intro v5 w5 hown5 hgrow5 hnil5 hat5; obtain ⟨g5, c5, rfl⟩ := row_some hown5 (by omega); have HO5 : Hid (w5.ownsRow w.heap.size 3 1 (.slice (some ⟨g5, 0, none⟩) (0 + 1) c5) (0 + 1) ([] ++ [I v])) := hown5; have HB5 : Hid (Below w.heap.size w w5) := ((Below.refl _ _).alloc (Nat.le_refl _) _).grown hgrow5 (by simp) (fun b e => by cases e); have hz5 : w.heap.size ≤ w5.heap.size := HB5.out.size; clear hown5 hgrow5 hnil5 hat5)
      | (at_builtin; refine wpList_append_optw rfl _ _ _ rfl w.heap.size 3 i1 (.int .i64 0) 1 8 Tryz.underlying34 HI1.out.1 HI1.out.2.1 HI1.out.2.2.1 HI1.out.2.2.2 rfl (by decide) (.slice (some ⟨g5, 0, none⟩) 1 c5) (0 + 1) ([] ++ [I v]) rfl HO5.out none 0 0 [] rfl rfl (fun _ => rfl) (fun a e => by cases e) (fun u hu => by cases hu) (by decide) (by decide) hz5 ?_; intro v7 w7 hown7 hgrow7; have HO7 : Hid (w7.ownsRow w.heap.size 3 1 v7 1 [I v]) := hown7; have HB7 : Hid (Below w.heap.size w w7) := HB5.out.grown hgrow7 hz5 (fun b e => (HO5.out.lt b e).1); clear hown7 hgrow7))
    go_wp2
    go_ret
    exact ⟨v7, rfl, HO7.out, HB7.out⟩
  · obtain ⟨hA1, hA2⟩ := hA.sub i
    have HA1 : Hid (At w (some ⟨p, q, none⟩) ((l.take i).map I)) := hA1
    have HA2 : Hid (At w (some ⟨p, q + i, none⟩) ((l.drop i).map I)) := hA2
    have HL : Hid ((l.take i).length = i ∧ (l.drop i).length = l.length - i) := ⟨by rw [List.length_take]; omega, by rw [List.length_drop]⟩
    have n1 : 0 + i ≤ maxLen := by unfold maxLen; omega
    have n2 : (0 + i) * 8 ≤ 140737488355328 := by omega
    have n3 : 0 + i + 1 ≤ maxLen := by unfold maxLen; omega
    have n4 : (0 + i + 1) * 8 ≤ 140737488355328 := by omega
    have n5 : 0 + i + 1 + (l.length - i) ≤ maxLen := by unfold maxLen; omega
    have n6 : (0 + i + 1 + (l.length - i)) * 8 ≤ 140737488355328 := by omega
    have hone1 : ∀ u ∈ [I v], u.oneCell' = true := ints_onew [v]
    clear hA hA1 hA2
    by_cases hci : c = i
    · obtain rfl : i = c := hci.symm
      have hli : l.length = i := by omega
      have HDR : Hid (l.drop i = []) := List.drop_eq_nil_of_le (by omega)
      rw [hli]
      clear hli hi hc n5 n6 HA2 hl hci
      go_enter Tryz.func41, Tryz.ntmps41
      go_wp2_with (first
        | (at_builtin; refine wpList_append_optw rfl _ _ _ rfl w.heap.size 3 i1 (.int .i64 0) 1 8 Tryz.underlying34 HI1.out.1 HI1.out.2.1 HI1.out.2.2.1 HI1.out.2.2.2 rfl (by decide) (.slice none 0 0) 0 [] rfl ⟨rfl, .inl ⟨rfl, rfl⟩⟩ (some ⟨p, q, none⟩) i i ((l.take i).map I) rfl (by rw [List.length_map, HL.out.1]; omega) (fun e => by cases e) HA1.out.addw (ints_onew _) n1 n2 (Nat.le_refl _) ?_; intro v5 w5 hown5 hgrow5; have HO5 : Hid (w5.ownsRow w.heap.size 3 1 v5 (0 + i) ([] ++ (l.take i).map I)) := hown5; have HB5 : Hid (Below w.heap.size w w5) := (Below.refl _ _).grown hgrow5 (Nat.le_refl _) (fun b e => by cases e); have hz5 : w.heap.size ≤ w5.heap.size := HB5.out.size; clear hown5 hgrow5)
        | (at_builtin; refine wpList_append_own_at _ rfl _ _ _ rfl w.heap.size 3 i1 (.int .i64 0) 1 8 Tryz.underlying34 HI1.out.1 HI1.out.2.1 HI1.out.2.2.1 HI1.out.2.2.2 rfl (by decide) v5 (0 + i) ([] ++ (l.take i).map I) rfl (HO5.out.alloc _) ⟨w5.heap.size, 0, none⟩ 1 1 [I v] rfl rfl (lit_any w5 [I v] _) hone1 n3 n4 (by simp; omega) ?_; intro v6 w6 hown6 hgrow6 hnil6 hat6; have HO6 : Hid (w6.ownsRow w.heap.size 3 1 v6 (0 + i + 1) ([] ++ (l.take i).map I ++ [I v])) := hown6; have HB6 : Hid (Below w.heap.size w w6) := (HB5.out.alloc hz5 _).grown hgrow6 (by simp; omega) (fun b e => (HO5.out.lt b e).1); have hz6 : w.heap.size ≤ w6.heap.size := HB6.out.size; clear hown6 hgrow6 hnil6 hat6)
        | (at_builtin; refine wpList_append_optw rfl _ _ _ rfl w.heap.size 3 i1 (.int .i64 0) 1 8 Tryz.underlying34 HI1.out.1 HI1.out.2.1 HI1.out.2.2.1 HI1.out.2.2.2 rfl (by decide) v6 (0 + i + 1) ([] ++ (l.take i).map I ++ [I v]) rfl HO6.out (some ⟨p, q, none⟩) 0 0 [] rfl rfl (fun e => by cases e) (fun a e j u hj => by simp at hj) (fun u hu => by cases hu) n3 n4 hz6 ?_; intro v7 w7 hown7 hgrow7; have HO7 : Hid (w7.ownsRow w.heap.size 3 1 v7 (0 + i + 1 + 0) ([] ++ (l.take i).map I ++ [I v] ++ [])) := hown7; have HB7 : Hid (Below w.heap.size w w7) := HB6.out.grown hgrow7 hz6 (fun b e => (HO6.out.lt b e).1); clear hown7 hgrow7))
      have HE : Hid (w7.ownsRow w.heap.size 3 1 v7 (i + 1) ((l.take i ++ v :: l.drop i).map I)) := by
        show World.ownsRow _ _ _ _ _ _ _
        have := HO7.out
        rw [show 0 + i + 1 + 0 = i + 1 by omega] at this
        rw [HDR.out]
        simpa using this
      clear HO7 HO6 HO5
      go_wp2
      go_ret
      exact ⟨v7, rfl, HE.out, HB7.out⟩
    · have hci' : ¬ i = c := fun e => hci e.symm
      go_enter Tryz.func41, Tryz.ntmps41
      go_wp2_with (first
        | (at_builtin; refine wpList_append_optw rfl _ _ _ rfl w.heap.size 3 i1 (.int .i64 0) 1 8 Tryz.underlying34 HI1.out.1 HI1.out.2.1 HI1.out.2.2.1 HI1.out.2.2.2 rfl (by decide) (.slice none 0 0) 0 [] rfl ⟨rfl, .inl ⟨rfl, rfl⟩⟩ (some ⟨p, q, none⟩) i c ((l.take i).map I) rfl (by rw [List.length_map, HL.out.1]; omega) (fun e => by cases e) HA1.out.addw (ints_onew _) n1 n2 (Nat.le_refl _) ?_; intro v5 w5 hown5 hgrow5; have HO5 : Hid (w5.ownsRow w.heap.size 3 1 v5 (0 + i) ([] ++ (l.take i).map I)) := hown5; have HB5 : Hid (Below w.heap.size w w5) := (Below.refl _ _).grown hgrow5 (Nat.le_refl _) (fun b e => by cases e); have hz5 : w.heap.size ≤ w5.heap.size := HB5.out.size; clear hown5 hgrow5)
        | (at_builtin; refine wpList_append_own_at _ rfl _ _ _ rfl w.heap.size 3 i1 (.int .i64 0) 1 8 Tryz.underlying34 HI1.out.1 HI1.out.2.1 HI1.out.2.2.1 HI1.out.2.2.2 rfl (by decide) v5 (0 + i) ([] ++ (l.take i).map I) rfl (HO5.out.alloc _) ⟨w5.heap.size, 0, none⟩ 1 1 [I v] rfl rfl (lit_any w5 [I v] _) hone1 n3 n4 (by simp; omega) ?_; intro v6 w6 hown6 hgrow6 hnil6 hat6; have HO6 : Hid (w6.ownsRow w.heap.size 3 1 v6 (0 + i + 1) ([] ++ (l.take i).map I ++ [I v])) := hown6; have HB6 : Hid (Below w.heap.size w w6) := (HB5.out.alloc hz5 _).grown hgrow6 (by simp; omega) (fun b e => (HO5.out.lt b e).1); have hz6 : w.heap.size ≤ w6.heap.size := HB6.out.size; clear hown6 hgrow6 hnil6 hat6)
        | (at_builtin; refine wpList_append_optw rfl _ _ _ rfl w.heap.size 3 i1 (.int .i64 0) 1 8 Tryz.underlying34 HI1.out.1 HI1.out.2.1 HI1.out.2.2.1 HI1.out.2.2.2 rfl (by decide) v6 (0 + i + 1) ([] ++ (l.take i).map I ++ [I v]) rfl HO6.out (some ⟨p, q + i, none⟩) (l.length - i) (c - i) ((l.drop i).map I) rfl (by rw [List.length_map, HL.out.2]; omega) (fun e => by cases e) (HA2.out.kept HB6.out).addw (ints_onew _) n5 n6 hz6 ?_; intro v7 w7 hown7 hgrow7; have HO7 : Hid (w7.ownsRow w.heap.size 3 1 v7 (0 + i + 1 + (l.length - i)) ([] ++ (l.take i).map I ++ [I v] ++ (l.drop i).map I)) := hown7; have HB7 : Hid (Below w.heap.size w w7) := HB6.out.grown hgrow7 hz6 (fun b e => (HO6.out.lt b e).1); clear hown7 hgrow7))
      have HE : Hid (w7.ownsRow w.heap.size 3 1 v7 (l.length + 1) ((l.take i ++ v :: l.drop i).map I)) := by
        show World.ownsRow _ _ _ _ _ _ _
        have := HO7.out
        rw [show 0 + i + 1 + (l.length - i) = l.length + 1 by omega] at this
        simpa using this
      clear HO7 HO6 HO5
      go_wp2
      go_ret
      exact ⟨v7, rfl, HE.out, HB7.out⟩

end Go.Proofs.YtfmcngncaffloaaGreatDoor

namespace Go.Proofs.YtfmcngncaffloaaGreatDoor
open Go.RowKit
set_option maxRecDepth 100000

set_option maxHeartbeats 1600000 in
theorem without_any (lv : Value) (l : List Int) (i : Nat) (w : World) (h : Lst w lv l) (hi : i < l.length) (hl : l.length ≤ 1048576) :
    Calls Tryz.prog 42 #[lv, I i] w fun e w' => ∃ v', e = .returned v' ∧ w'.ownsRow w.heap.size 3 1 v' (l.length - 1) ((l.take i ++ l.drop (i + 1)).map I) ∧ Below w.heap.size w w' := by
  obtain ⟨i1, HI1⟩ : ∃ i, Hid (Tryz.prog.info? 3 = some i ∧ i.zero = some (.int .i64 0) ∧ i.size = 1 ∧ i.bytes = 8) := by obtain ⟨i, h⟩ := info_parts infoIn; exact ⟨i, h⟩
  rcases h with ⟨rfl, rfl⟩ | ⟨p, q, c, rfl, hc, hA⟩
  · simp at hi
  · have hA1 := (hA.sub i).1
    have hA2 := (hA.sub (i + 1)).2
    have HA1 : Hid (At w (some ⟨p, q, none⟩) ((l.take i).map I)) := hA1
    have HA2 : Hid (At w (some ⟨p, q + (i + 1), none⟩) ((l.drop (i + 1)).map I)) := hA2
    have HL : Hid ((l.take i).length = i ∧ (l.drop (i + 1)).length = l.length - (i + 1)) := ⟨by rw [List.length_take]; omega, by rw [List.length_drop]⟩
    have n1 : 0 + i ≤ maxLen := by unfold maxLen; omega
    have n2 : (0 + i) * 8 ≤ 140737488355328 := by omega
    have n5 : 0 + i + (l.length - (i + 1)) ≤ maxLen := by unfold maxLen; omega
    have n6 : (0 + i + (l.length - (i + 1))) * 8 ≤ 140737488355328 := by omega
    clear hA hA1 hA2
    by_cases hci : c = i + 1
    · subst hci
      have hli : l.length = i + 1 := by omega
      have HDR : Hid (l.drop (i + 1) = []) := List.drop_eq_nil_of_le (by omega)
      rw [hli]
      have hl' : i ≤ 1048576 := by omega
      clear hli hi hc n5 n6 HA2 hl
      go_enter Tryz.func42, Tryz.ntmps42
      go_wp2_with (first
        | (at_builtin; refine wpList_append_optw rfl _ _ _ rfl w.heap.size 3 i1 (.int .i64 0) 1 8 Tryz.underlying34 HI1.out.1 HI1.out.2.1 HI1.out.2.2.1 HI1.out.2.2.2 rfl (by decide) (.slice none 0 0) 0 [] rfl ⟨rfl, .inl ⟨rfl, rfl⟩⟩ (some ⟨p, q, none⟩) i (i + 1) ((l.take i).map I) rfl (by rw [List.length_map, HL.out.1]; omega) (fun e => by cases e) HA1.out.addw (ints_onew _) n1 n2 (Nat.le_refl _) ?_; intro v5 w5 hown5 hgrow5; have HO5 : Hid (w5.ownsRow w.heap.size 3 1 v5 (0 + i) ([] ++ (l.take i).map I)) := hown5; have HB5 : Hid (Below w.heap.size w w5) := (Below.refl _ _).grown hgrow5 (Nat.le_refl _) (fun b e => by cases e); have hz5 : w.heap.size ≤ w5.heap.size := HB5.out.size; clear hown5 hgrow5)
        | (at_builtin; refine wpList_append_optw rfl _ _ _ rfl w.heap.size 3 i1 (.int .i64 0) 1 8 Tryz.underlying34 HI1.out.1 HI1.out.2.1 HI1.out.2.2.1 HI1.out.2.2.2 rfl (by decide) v5 (0 + i) ([] ++ (l.take i).map I) rfl HO5.out (some ⟨p, q, none⟩) 0 0 [] rfl rfl (fun e => by cases e) (fun a e j u hj => by simp at hj) (fun u hu => by cases hu) n1 n2 hz5 ?_; intro v7 w7 hown7 hgrow7; have HO7 : Hid (w7.ownsRow w.heap.size 3 1 v7 (0 + i + 0) ([] ++ (l.take i).map I ++ [])) := hown7; have HB7 : Hid (Below w.heap.size w w7) := HB5.out.grown hgrow7 hz5 (fun b e => (HO5.out.lt b e).1); clear hown7 hgrow7))
      have HE : Hid (w7.ownsRow w.heap.size 3 1 v7 (i + 1 - 1) ((l.take i ++ l.drop (i + 1)).map I)) := by
        show World.ownsRow _ _ _ _ _ _ _
        have := HO7.out
        rw [show 0 + i + 0 = i by omega] at this
        rw [HDR.out, show i + 1 - 1 = i by omega]
        simpa using this
      clear HO7 HO5
      go_wp2
      go_ret
      exact ⟨v7, rfl, HE.out, HB7.out⟩
    · have hci' : ¬ i + 1 = c := fun e => hci e.symm
      go_enter Tryz.func42, Tryz.ntmps42
      go_wp2_with (first
        | (at_builtin; refine wpList_append_optw rfl _ _ _ rfl w.heap.size 3 i1 (.int .i64 0) 1 8 Tryz.underlying34 HI1.out.1 HI1.out.2.1 HI1.out.2.2.1 HI1.out.2.2.2 rfl (by decide) (.slice none 0 0) 0 [] rfl ⟨rfl, .inl ⟨rfl, rfl⟩⟩ (some ⟨p, q, none⟩) i c ((l.take i).map I) rfl (by rw [List.length_map, HL.out.1]; omega) (fun e => by cases e) HA1.out.addw (ints_onew _) n1 n2 (Nat.le_refl _) ?_; intro v5 w5 hown5 hgrow5; have HO5 : Hid (w5.ownsRow w.heap.size 3 1 v5 (0 + i) ([] ++ (l.take i).map I)) := hown5; have HB5 : Hid (Below w.heap.size w w5) := (Below.refl _ _).grown hgrow5 (Nat.le_refl _) (fun b e => by cases e); have hz5 : w.heap.size ≤ w5.heap.size := HB5.out.size; clear hown5 hgrow5)
        | (at_builtin; refine wpList_append_optw rfl _ _ _ rfl w.heap.size 3 i1 (.int .i64 0) 1 8 Tryz.underlying34 HI1.out.1 HI1.out.2.1 HI1.out.2.2.1 HI1.out.2.2.2 rfl (by decide) v5 (0 + i) ([] ++ (l.take i).map I) rfl HO5.out (some ⟨p, q + (i + 1), none⟩) (l.length - (i + 1)) (c - (i + 1)) ((l.drop (i + 1)).map I) rfl (by rw [List.length_map, HL.out.2]; omega) (fun e => by cases e) (HA2.out.kept HB5.out).addw (ints_onew _) n5 n6 hz5 ?_; intro v7 w7 hown7 hgrow7; have HO7 : Hid (w7.ownsRow w.heap.size 3 1 v7 (0 + i + (l.length - (i + 1))) ([] ++ (l.take i).map I ++ (l.drop (i + 1)).map I)) := hown7; have HB7 : Hid (Below w.heap.size w w7) := HB5.out.grown hgrow7 hz5 (fun b e => (HO5.out.lt b e).1); clear hown7 hgrow7))
      have HE : Hid (w7.ownsRow w.heap.size 3 1 v7 (l.length - 1) ((l.take i ++ l.drop (i + 1)).map I)) := by
        show World.ownsRow _ _ _ _ _ _ _
        have := HO7.out
        rw [show 0 + i + (l.length - (i + 1)) = l.length - 1 by omega] at this
        simpa using this
      clear HO7 HO5
      go_wp2
      go_ret
      exact ⟨v7, rfl, HE.out, HB7.out⟩

end Go.Proofs.YtfmcngncaffloaaGreatDoor
