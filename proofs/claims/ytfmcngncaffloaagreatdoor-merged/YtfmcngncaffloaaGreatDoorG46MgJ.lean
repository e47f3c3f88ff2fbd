import Derived.Test.YtfmcngncaffloaaGreatDoorG44MgH
import Derived.Test.YtfmcngncaffloaaGreatDoorG45CsC
namespace Go.Proofs.YtfmcngncaffloaaGreatDoor
open Go.RowKit
set_option maxRecDepth 100000

def acC (a : Ac) : List Value := [I a.op, I a.ob, I a.x, I a.y, I 0]
theorem infoAc : (Tryz.prog.info? 41).map (fun i => (i.zero, i.size, i.bytes)) = some (some (.agg #[.int .i64 0, .int .i64 0, .int .i64 0, .int .i64 0, .int .i64 0]), 5, 40) := by kernel_rfl
/-- The first two numbers of a list, each as a byte. -/
def pkL (l : List Int) : List Int := (l.take 2).map (fun z => Wv.pk z 256)
theorem pkL_sml (l : List Int) : Sml (pkL l) := by
  unfold pkL
  refine ⟨by rw [List.length_map, List.length_take]; omega, fun a ha => ?_⟩
  obtain ⟨z, _, rfl⟩ := List.mem_map.1 ha
  have := Wv.pk_lt z 256 (by decide)
  omega
theorem pkL_len (l : List Int) : (pkL l).length = min 2 l.length := by unfold pkL; rw [List.length_map, List.length_take]
theorem pkL_at (l : List Int) (k : Nat) (hk : k < l.length) (h2 : k < 2) : (pkL l).take (k + 1) = (pkL l).take k ++ [Wv.pk l[k] 256] := by
  have hl : k < (pkL l).length := by rw [pkL_len]; omega
  rw [List.take_succ_eq_append_getElem hl]
  have e : (pkL l)[k]? = some (Wv.pk l[k] 256) := by
    unfold pkL
    rw [List.getElem?_map, List.getElem?_take_of_lt h2, List.getElem?_eq_getElem hk]
    rfl
  rw [List.getElem?_eq_getElem hl] at e
  rw [Option.some.inj e]
theorem mA_at (l : List Int) (k : Nat) (hk : k < l.length) (h2 : k < 2) : mA ((pkL l).take (k + 1)) = mA ((pkL l).take k) ++ [⟨5, 3, k, Wv.pk l[k] 256⟩] := by
  rw [pkL_at l k hk h2]
  have hl : k < (pkL l).length := by rw [pkL_len]; omega
  have hq : ((pkL l).take k).length = k := by rw [List.length_take]; omega
  generalize (pkL l).take k = q at hq
  match k, q, hq with
  | 0, [], _ => rfl
  | 1, [a], _ => rfl
  | n + 2, _, _ => omega
theorem flat_snocA (l : List Ac) (x : Ac) : flat acC (l ++ [x]) = flat acC l ++ acC x := by
  rw [flat_append]
  simp [flat]
/-- Lists that the law makes: acts, numbers. -/
structure Rws (w1 w : World) (v : Value) (acs : List Ac) (lv : Value) (ls : List Int) : Prop where
  acts : w.ownsRow w1.heap.size 41 5 v acs.length (flat acC acs)
  nums : w.ownsRow w1.heap.size 3 1 lv ls.length (ls.map I)
  bel : Below w1.heap.size w1 w
theorem own_apart {w : World} {b1 b2 : Nat} {e1 e2 : TypeId} {s1 s2 n1 n2 : Nat} {v1 v2 : Value} {x1 x2 : List Value} (h1 : w.ownsRow b1 e1 s1 v1 n1 x1) (h2 : w.ownsRow b2 e2 s2 v2 n2 x2) (hne : e1 ≠ e2) : v1.ownBlock = none ∨ v1.ownBlock ≠ v2.ownBlock := by
  rcases h1.2 with ⟨rfl, _⟩ | ⟨g, cap, cur, rfl, _, hg, _⟩
  · exact .inl rfl
  · right
    rcases h2.2 with ⟨rfl, _⟩ | ⟨g2, cap2, cur2, rfl, _, hg2, _⟩
    · simp [Value.ownBlock]
    · intro e
      have : g = g2 := by simpa [Value.ownBlock] using e
      subst this
      rw [hg] at hg2
      have := (Obj.cells.inj (Option.some.inj hg2)).2.1
      exact hne this
theorem mA_len (l : List Int) (k : Nat) (h : k ≤ 2) (hk : k ≤ l.length) : (mA ((pkL l).take k)).length = k ∧ ((pkL l).take k).length = k := by
  have hl := pkL_len l
  have hq : ((pkL l).take k).length = k := by rw [List.length_take]; omega
  refine ⟨?_, hq⟩
  generalize (pkL l).take k = q at hq
  match k, q, hq with
  | 0, [], _ => rfl
  | 1, [a], _ => rfl
  | 2, [a, b], _ => rfl
  | n + 3, _, _ => omega
theorem ints_cell {w : World} {a : Option Addr} {l : List Int} (h : At w a (l.map I)) (hl : 0 < l.length) : ∃ p q, a = some ⟨p, q, none⟩ ∧ ∀ k (hk : k < l.length), w.cell? ⟨p, q + k, none⟩ = some (I l[k]) := by
  obtain ⟨p, q, e, hc⟩ := h 0 (I l[0]) (by simp [hl])
  refine ⟨p, q, e, fun k hk => ?_⟩
  obtain ⟨p2, q2, e2, hc2⟩ := h k (I l[k]) (by simp [hk])
  rw [e] at e2
  cases e2
  exact hc2

/-- The lists under way in the second loop. -/
structure Rw3 (w1 w : World) (ov : Value) (one : List Ac) (tv : Value) (two : List Ac) (lv : Value) (ls : List Int) : Prop where
  one : w.ownsRow w1.heap.size 41 5 ov one.length (flat acC one)
  two : w.ownsRow w1.heap.size 41 5 tv two.length (flat acC two)
  nums : w.ownsRow w1.heap.size 3 1 lv ls.length (ls.map I)
  bel : Below w1.heap.size w1 w
  apart : tv.ownBlock = none ∨ tv.ownBlock ≠ ov.ownBlock
theorem apart_new {w : World} {b1 : Nat} {e1 : TypeId} {s1 n1 : Nat} {tv ov v' : Value} {x1 : List Value} (h : w.ownsRow b1 e1 s1 tv n1 x1) (ha : tv.ownBlock = none ∨ tv.ownBlock ≠ ov.ownBlock) {o : Obj} (hat : v'.ownBlock = ov.ownBlock ∨ v'.ownBlock = some (w.alloc o).heap.size) : tv.ownBlock = none ∨ tv.ownBlock ≠ v'.ownBlock := by
  rcases ha with ha | ha
  · exact .inl ha
  · right
    rcases hat with e | e
    · rw [e]; exact ha
    · rw [e]
      intro e2
      have := (h.lt _ e2).2
      simp at this
      omega

end Go.Proofs.YtfmcngncaffloaaGreatDoor

namespace Go.Proofs.YtfmcngncaffloaaGreatDoor
open Go.RowKit
set_option maxRecDepth 100000

theorem acs_row {w : World} {base : Nat} {e : TypeId} {g n m c : Nat} {acs : List Ac} (h : w.ownsRow base e 5 (.slice (some ⟨g, 0, none⟩) n c) m (flat acC acs)) : AcsAt w g acs := by
  intro i hi
  have hc : ∀ (j : Nat) (u : Value), j < 5 → (acC acs[i])[j]? = some u → w.cell? ⟨g, i * 5 + j, none⟩ = some u := fun j u hj hu => by
    have := h.cells (g := g) rfl (i * 5 + j) u (by rw [flat_get acC 5 (fun _ => rfl) acs i hi j hj]; exact hu)
    rw [Addr.add_lit, Nat.zero_add] at this
    exact this
  exact ⟨hc 0 _ (by omega) rfl, hc 1 _ (by omega) rfl, hc 2 _ (by omega) rfl, hc 3 _ (by omega) rfl⟩
theorem AcsAt.same {w w' : World} {g : Nat} {acs : List Ac} (h : AcsAt w g acs) (hb : w'.heap[g]? = w.heap[g]?) : AcsAt w' g acs := fun i hi => ⟨cell_same (h i hi).1 hb, cell_same (h i hi).2.1 hb, cell_same (h i hi).2.2.1 hb, cell_same (h i hi).2.2.2 hb⟩
theorem At.same {w w' : World} {a : Option Addr} {xs : List Value} (h : At w a xs) (hb : ∀ p, a = some p → w'.heap[p.block]? = w.heap[p.block]?) : At w' a xs := fun j u hj => by
  obtain ⟨b, o, e, hc⟩ := h j u hj
  exact ⟨b, o, e, cell_same hc (hb ⟨b, o, none⟩ e)⟩
theorem acts1_flat (A : List Int) (x : Int) : flat acC (mA A) ++ [I 4, I 2, I x, I 0, I 0, I 1, I 0, I x, I 0, I 0, I 2, I 1, I x, I 0, I 0] = flat acC (acts1 A x) := by unfold acts1; rw [flat_append]; rfl
theorem acts2_flat (B : List Int) (y : Int) : flat acC (mA B) ++ [I 4, I 2, I y, I 0, I 0, I 1, I 0, I (-y), I 0, I 0] = flat acC (acts2 B y) := by unfold acts2; rw [flat_append]; rfl
theorem acts1_len (A : List Int) (x : Int) : (acts1 A x).length = (mA A).length + 3 := by unfold acts1; rw [List.length_append]; rfl
theorem acts2_len (B : List Int) (y : Int) : (acts2 B y).length = (mA B).length + 2 := by unfold acts2; rw [List.length_append]; rfl
/-- Blocks of the law's own. -/
def Pn (a b : Nat) (g : Nat) : Prop := a ≤ g ∧ g < b
theorem apart_sym {w : World} {b1 : Nat} {e1 : TypeId} {s1 n1 : Nat} {u v : Value} {x1 : List Value} (h : w.ownsRow b1 e1 s1 v n1 x1) (hn : 0 < n1) (ha : u.ownBlock = none ∨ u.ownBlock ≠ v.ownBlock) : v.ownBlock = none ∨ v.ownBlock ≠ u.ownBlock := by
  right
  obtain ⟨g, c, rfl⟩ := row_some h hn
  rcases ha with e | e
  · rw [e]; simp [Value.ownBlock]
  · exact fun q => e q.symm
/-- The law's three lists, behind the loops. -/
structure Rw8 (w1 w : World) (A B : List Int) (x y : Int) (ga ca gb cb : Nat) (la : Option Addr) (ls : List Int) : Prop where
  one : AcsAt w ga (acts1 A x)
  two : AcsAt w gb (acts2 B y)
  pa : Pn w1.heap.size w.heap.size ga
  pb : Pn w1.heap.size w.heap.size gb
  nums : At w la (ls.map I)
  pl : ∀ p, la = some p → Pn w1.heap.size w.heap.size p.block
  bel : Below w1.heap.size w1 w
theorem rw8 {w1 w : World} {A B ls : List Int} {x y : Int} {v7 v8 lv : Value} (h1 : w.ownsRow w1.heap.size 41 5 v7 ((mA A).length + 3) (flat acC (mA A) ++ [I 4, I 2, I x, I 0, I 0, I 1, I 0, I x, I 0, I 0, I 2, I 1, I x, I 0, I 0])) (h2 : w.ownsRow w1.heap.size 41 5 v8 ((mA B).length + 2) (flat acC (mA B) ++ [I 4, I 2, I y, I 0, I 0, I 1, I 0, I (-y), I 0, I 0])) (h3 : w.ownsRow w1.heap.size 3 1 lv ls.length (ls.map I)) (hb : Below w1.heap.size w1 w) :
    ∃ ga ca gb cb la lc ln, v7 = .slice (some ⟨ga, 0, none⟩) ((mA A).length + 3) ca ∧ v8 = .slice (some ⟨gb, 0, none⟩) ((mA B).length + 2) cb ∧ lv = .slice la ln lc ∧ ls.length = ln ∧ Rw8 w1 w A B x y ga ca gb cb la ls := by
  obtain ⟨ga, ca, rfl⟩ := row_some h1 (by omega)
  obtain ⟨gb, cb, rfl⟩ := row_some h2 (by omega)
  obtain ⟨la, lc, rfl, hAt, hla⟩ := own_list h3
  rw [acts1_flat] at h1
  rw [acts2_flat] at h2
  refine ⟨ga, ca, gb, cb, la, lc, _, rfl, rfl, rfl, rfl, acs_row h1, acs_row h2, h1.lt ga rfl, h2.lt gb rfl, hAt, ?_, hb⟩
  rcases hla with rfl | ⟨p, q, rfl⟩
  · intro p hp; cases hp
  · intro r hr
    cases hr
    rcases h3.2 with ⟨e, _⟩ | ⟨g, cap, cur, e, _⟩
    · cases e
    · have := h3.lt p (by cases e; rfl)
      exact this
section
variable {A B ls : List Int} {x y : Int} {w1 w0 w : World} {eb ef : Addr} {s : Nat} {P : Nat → Prop} {ga ca gb cb : Nat} {la : Option Addr}
theorem Rw8.same {w' : World} (h : Rw8 w1 w A B x y ga ca gb cb la ls) (hb : ∀ g, Pn w1.heap.size w.heap.size g → w'.heap[g]? = w.heap[g]?) : AcsAt w' ga (acts1 A x) ∧ AcsAt w' gb (acts2 B y) ∧ At w' la (ls.map I) := ⟨h.one.same (hb _ h.pa), h.two.same (hb _ h.pb), h.nums.same (fun p hp => hb _ (h.pl p hp))⟩
theorem Sx.fresh {S : Sto} (h : Sx w0 w1 eb ef s S P) (hb : Below w1.heap.size w1 w) : Sx w0 w eb ef s S (Pn w1.heap.size w.heap.size) := (h.below hb).mono (fun _ hg => Or.inr hg)
theorem Sx.toSy {w' : World} {S : Sto} (h : Sx w0 w eb ef s S P) (hb : Below w.heap.size w w') : Sy w0 w eb ef s S P w' := ⟨(h.below hb).mono (fun _ hg => Or.inl hg), fun g hg => by
  obtain ⟨own, rg, cc, pp, ch, pv, prs, hS, hen, hp⟩ := h
  exact hb.block g (hp g hg).2⟩
theorem reads_at {S : Sto} (h : Sx w0 w eb ef s S P) (k : Nat) (R0 R1 : Rp) (o0 o1 : Ob) (want : List Int) (a : Option Addr) (c : Nat) (hR0 : S.reps[0]? = some R0) (hR1 : S.reps[1]? = some R1) (hw : Whl S) (hs0 : R0.st = 0) (hs1 : R1.st = 0) (he0 : R0.effs = []) (he1 : R1.effs = []) (hk0 : R0.obs[k]? = some o0) (hk1 : R1.obs[k]? = some o1) (ht0 : o0.tells = want) (ht1 : o1.tells = want) (hA : At w a (want.map I)) (hl : want.length ≤ 1048576) :
    Calls Tryz.prog 25 #[.pointer (some ⟨s, 0, none⟩), I k, .slice a want.length c] w fun e w' => e = .returned (.bool true) ∧ Sy w0 w eb ef s S P w' :=
  (x_reads h k R0 R1 o0 o1 want a c hR0 hR1 ((hw.at hR0).up0 hs0 he0) ((hw.at hR1).up0 hs1 he1) hk0 hk1 (by rw [he0]; exact ht0) (by rw [he1]; exact ht1) hA hl).mono (fun e w' hh => ⟨hh.1, h.toSy hh.2⟩)
theorem reads_lit {S : Sto} (h : Sx w0 w eb ef s S P) (k : Nat) (R0 R1 : Rp) (o0 o1 : Ob) (want : List Int) (c : Nat) (hR0 : S.reps[0]? = some R0) (hR1 : S.reps[1]? = some R1) (hw : Whl S) (hs0 : R0.st = 0) (hs1 : R1.st = 0) (he0 : R0.effs = []) (he1 : R1.effs = []) (hk0 : R0.obs[k]? = some o0) (hk1 : R1.obs[k]? = some o1) (ht0 : o0.tells = want) (ht1 : o1.tells = want) (hl : want.length ≤ 1048576) :
    Calls Tryz.prog 25 #[.pointer (some ⟨s, 0, none⟩), I k, .slice (some ⟨w.heap.size, 0, none⟩) want.length c] (w.alloc (.cells (want.map I).toArray 3)) fun e w' => e = .returned (.bool true) ∧ Sy w0 w eb ef s S P w' := by
  have hb : Below w.heap.size w (w.alloc (.cells (want.map I).toArray 3)) := (Below.refl _ _).alloc (Nat.le_refl _) _
  have hs := h.toSy hb
  exact (reads_at hs.1 k R0 R1 o0 o1 want _ c hR0 hR1 hw hs0 hs1 he0 he1 hk0 hk1 ht0 ht1 (lit_At w _ _) hl).mono (fun e w' hh => ⟨hh.1, hs.then hh.2⟩)
/-- What the law's state says, once all is delivered. -/
structure Vok (v : Mv) (x y : Int) (ls : List Int) : Prop where
  ok : v.Ok
  vx : v.x = x
  vy : v.y = y
  c0 : Ob.tells (.counter v.c0) = [x - y]
  c1 : Ob.tells (.counter v.c1) = [x - y]
  l : Ob.tells (.list v.l) = ls
theorem k1 {n : Nat} (hI : ItoaSaid) (h : Sx w0 w eb ef s (newS 2) P) (hA : Sml A) (h0 : 0 ≤ x) (h1 : x ≤ 255) (cp : Nat) (ha : AcsAt w ga (acts1 A x)) (hg : P ga) (hn : (mA A).length + 3 = n) :
    Calls Tryz.prog 23 #[.pointer (some ⟨s, 0, none⟩), I 0, .slice (some ⟨ga, 0, none⟩) n cp] w fun e w' => e = .returned (.bool true) ∧ Sy w0 w eb ef s (M1 A x) P w' := by
  subst hn
  rw [← acts1_len A x]
  exact g1 hI h hA h0 h1 ga cp ha hg
theorem k2 {n : Nat} (hI : ItoaSaid) (h : Sx w0 w eb ef s (M1 A x) P) (hB : Sml B) (h0 : 0 ≤ y) (h1 : y ≤ 255) (cp : Nat) (ha : AcsAt w gb (acts2 B y)) (hg : P gb) (hn : (mA B).length + 2 = n) :
    Calls Tryz.prog 23 #[.pointer (some ⟨s, 0, none⟩), I 1, .slice (some ⟨gb, 0, none⟩) n cp] w fun e w' => e = .returned (.bool true) ∧ Sy w0 w eb ef s (M2 A B x y) P w' := by
  subst hn
  rw [← acts2_len B y]
  exact g2 hI h hB h0 h1 gb cp ha hg
theorem mN_two (h : Sml A) : Two (mN A) := by
  rcases h.cases with rfl | ⟨a, rfl, _⟩ | ⟨a, b, rfl, _⟩
  · exact .inl rfl
  · exact .inr (.inl rfl)
  · exact .inr (.inr rfl)
/-- What stands behind a call: the state and both replicas whole. -/
def St3 (w0 w : World) (eb ef : Addr) (s : Nat) (v : Mv) (P : Nat → Prop) (w' : World) : Prop := ∃ L0 L1 z0 z1, Whl (N3 v L0 L1 z0 z1) ∧ Sy w0 w eb ef s (N3 v L0 L1 z0 z1) P w'
theorem k3 (hI : ItoaSaid) (hgd : Gd w0) (h : Sx w0 w eb ef s (M2 A B x y) P) (hA : Sml A) (hB : Sml B) (hx0 : 0 ≤ x) (hx1 : x ≤ 255) (hy0 : 0 ≤ y) (hy1 : y ≤ 255) :
    Calls Tryz.prog 24 #[.pointer (some ⟨s, 0, none⟩)] w fun e w' => e = .returned (.tuple #[]) ∧ ∃ v, Vok v x y (B ++ A) ∧ St3 w0 w eb ef s v P w' :=
  (g3 hI hgd h hA hB hx0 hx1 hy0 hy1).mono (fun _ _ hh => ⟨hh.1, ⟨mN A, mN B, x, y, 0 + x + -y, 0 + -y + x, mL 1 B ++ mL 0 A⟩, ⟨⟨mN_two hA, mN_two hB, hx0, hx1, hy0, hy1⟩, rfl, rfl, tell_cnt0 x y, tell_cnt1 x y, tell_list hA hB⟩, _, _, _, _, Whl.two (restD0 hA hB hx0 hx1 hy0 hy1) (restD1 hA hB hx0 hx1 hy0 hy1), hh.2⟩)
variable {v : Mv} {L0 L1 : List UInt8} {z0 z1 : Int}
theorem k3q (h : Sx w0 w eb ef s (N3 v L0 L1 z0 z1) P) (hw : Whl (N3 v L0 L1 z0 z1)) (hv : Vok v x y ls) :
    Calls Tryz.prog 25 #[.pointer (some ⟨s, 0, none⟩), I 2, .slice (some ⟨w.heap.size, 0, none⟩) 2 2] (w.alloc (.cells #[I x, I y] 3)) fun e w' => e = .returned (.bool true) ∧ Sy w0 w eb ef s (N3 v L0 L1 z0 z1) P w' := by
  obtain ⟨ok, rfl, rfl, _, _, _⟩ := hv
  exact reads_lit h 2 _ _ (.reg (mQ v.n v.k v.x v.y)) (.reg (mQ' v.n v.k v.x v.y)) [v.x, v.y] 2 rfl rfl hw rfl rfl rfl rfl rfl rfl (tell_regQ v.x v.y ok.n ok.k) (tell_regQ' v.x v.y ok.n ok.k) (of_decide_eq_true rfl)
theorem k3c (h : Sx w0 w eb ef s (N3 v L0 L1 z0 z1) P) (hw : Whl (N3 v L0 L1 z0 z1)) (hv : Vok v x y ls) :
    Calls Tryz.prog 25 #[.pointer (some ⟨s, 0, none⟩), I 0, .slice (some ⟨w.heap.size, 0, none⟩) 1 1] (w.alloc (.cells #[I (x - y)] 3)) fun e w' => e = .returned (.bool true) ∧ Sy w0 w eb ef s (N3 v L0 L1 z0 z1) P w' :=
  reads_lit h 0 _ _ (.counter v.c0) (.counter v.c1) [x - y] 1 rfl rfl hw rfl rfl rfl rfl rfl rfl hv.c0 hv.c1 (of_decide_eq_true rfl)
theorem k3l {c n : Nat} (h : Sx w0 w eb ef s (N3 v L0 L1 z0 z1) P) (hw : Whl (N3 v L0 L1 z0 z1)) (hv : Vok v x y ls) (hA : At w la (ls.map I)) (hl : ls.length ≤ 1048576) (hn : ls.length = n) :
    Calls Tryz.prog 25 #[.pointer (some ⟨s, 0, none⟩), I 3, .slice la n c] w fun e w' => e = .returned (.bool true) ∧ Sy w0 w eb ef s (N3 v L0 L1 z0 z1) P w' := by
  subst hn
  exact reads_at h 3 _ _ (.list v.l) (.list v.l) ls la c rfl rfl hw rfl rfl rfl rfl rfl rfl hv.l hv.l hA hl
theorem k4 (hI : ItoaSaid) (h : Sx w0 w eb ef s (N3 v L0 L1 z0 z1) P) (hw : Whl (N3 v L0 L1 z0 z1)) (hv : Vok v x y ls) :
    Calls Tryz.prog 23 #[.pointer (some ⟨s, 0, none⟩), I 0, .slice (some ⟨w.heap.size, 0, none⟩) 2 2] (w.alloc (.cells #[I 3, I 1, I x, I 0, I 0, I 4, I 2, I y, I 0, I 0] 41)) fun e w' => e = .returned (.bool true) ∧ ∃ L z, Whl (N4 v L L1 z z1) ∧ Sx w0 w' eb ef s (N4 v L L1 z z1) (fun _ => False) := by
  have hb : Below w.heap.size w (w.alloc (.cells #[I 3, I 1, I x, I 0, I 0, I 4, I 2, I y, I 0, I 0] 41)) := (Below.refl _ _).alloc (Nat.le_refl _) _
  refine (g4 hI (h.below hb) hw hv.ok w.heap.size 2 ?_ (Or.inr ⟨Nat.le_refl _, by simp⟩)).mono ?_
  · rw [hv.vx, hv.vy]; exact acs_lit2 w 3 1 x 0 0 4 2 y 0 0 1 2 rfl rfl
  · rintro e w' ⟨rfl, L, z, hW, hS⟩
    exact ⟨rfl, L, z, hW, hS.1.mono (fun _ q => q.elim)⟩
theorem k5 (hI : ItoaSaid) (h : Sx w0 w eb ef s (N4 v L0 L1 z0 z1) P) (hw : Whl (N4 v L0 L1 z0 z1)) (hv : Vok v x y ls) :
    Calls Tryz.prog 23 #[.pointer (some ⟨s, 0, none⟩), I 1, .slice (some ⟨w.heap.size, 0, none⟩) 1 1] (w.alloc (.cells #[I 2, I 1, I x, I 0, I 0] 41)) fun e w' => e = .returned (.bool true) ∧ ∃ L z, Whl (N5 v L0 L z0 z) ∧ Sx w0 w' eb ef s (N5 v L0 L z0 z) (fun _ => False) := by
  have hb : Below w.heap.size w (w.alloc (.cells #[I 2, I 1, I x, I 0, I 0] 41)) := (Below.refl _ _).alloc (Nat.le_refl _) _
  refine (g5 hI (h.below hb) hw hv.ok w.heap.size 1 ?_ (Or.inr ⟨Nat.le_refl _, by simp⟩)).mono ?_
  · rw [hv.vx]; exact acs_lit1 w 2 1 x 0 0 1 rfl
  · rintro e w' ⟨rfl, L, z, hW, hS⟩
    exact ⟨rfl, L, z, hW, hS.1.mono (fun _ q => q.elim)⟩
theorem k6 (hI : ItoaSaid) (hgd : Gd w0) (h : Sx w0 w eb ef s (N5 v L0 L1 z0 z1) P) (hw : Whl (N5 v L0 L1 z0 z1)) (hv : Vok v x y ls) :
    Calls Tryz.prog 24 #[.pointer (some ⟨s, 0, none⟩)] w fun e w' => e = .returned (.tuple #[]) ∧ ∃ L L', Whl (N6 v L L' z0 z1) ∧ Sx w0 w' eb ef s (N6 v L L' z0 z1) (fun _ => False) :=
  (g6 hI hgd h hw hv.ok).mono (by rintro e w' ⟨rfl, L, L', hW, hS⟩; exact ⟨rfl, L, L', hW, hS.1.mono (fun _ q => q.elim)⟩)
theorem k6s (h : Sx w0 w eb ef s (N6 v L0 L1 z0 z1) P) (hw : Whl (N6 v L0 L1 z0 z1)) (hv : Vok v x y ls) :
    Calls Tryz.prog 25 #[.pointer (some ⟨s, 0, none⟩), I 1, .slice (some ⟨w.heap.size, 0, none⟩) 1 1] (w.alloc (.cells #[I x] 3)) fun e w' => e = .returned (.bool true) ∧ Sy w0 w eb ef s (N6 v L0 L1 z0 z1) P w' := by
  obtain ⟨ok, rfl, rfl, _, _, _⟩ := hv
  exact reads_lit h 1 _ _ (.set [(⟨1, 2, 0⟩, v.x)]) (.set [(⟨1, 2, 0⟩, v.x)]) [v.x] 1 rfl rfl hw rfl rfl rfl rfl rfl rfl (tell_set _ _) (tell_set _ _) (of_decide_eq_true rfl)
theorem k6q (h : Sx w0 w eb ef s (N6 v L0 L1 z0 z1) P) (hw : Whl (N6 v L0 L1 z0 z1)) (hv : Vok v x y ls) :
    Calls Tryz.prog 25 #[.pointer (some ⟨s, 0, none⟩), I 2, .slice (some ⟨w.heap.size, 0, none⟩) 1 1] (w.alloc (.cells #[I y] 3)) fun e w' => e = .returned (.bool true) ∧ Sy w0 w eb ef s (N6 v L0 L1 z0 z1) P w' := by
  obtain ⟨ok, rfl, rfl, _, _, _⟩ := hv
  exact reads_lit h 2 _ _ (.reg [(⟨0, 2, 1⟩, v.y)]) (.reg [(⟨0, 2, 1⟩, v.y)]) [v.y] 1 rfl rfl hw rfl rfl rfl rfl rfl rfl (tell_reg1 _ _) (tell_reg1 _ _) (of_decide_eq_true rfl)
theorem k7 (hI : ItoaSaid) (h : Sx w0 w eb ef s (N6 v L0 L1 z0 z1) P) (hw : Whl (N6 v L0 L1 z0 z1)) (hv : Vok v x y ls) :
    Calls Tryz.prog 23 #[.pointer (some ⟨s, 0, none⟩), I 1, .slice (some ⟨w.heap.size, 0, none⟩) 1 1] (w.alloc (.cells #[I 3, I 1, I x, I 0, I 0] 41)) fun e w' => e = .returned (.bool true) ∧ ∃ L z, Whl (N7 v L0 L z0 z) ∧ Sx w0 w' eb ef s (N7 v L0 L z0 z) (fun _ => False) := by
  have hb : Below w.heap.size w (w.alloc (.cells #[I 3, I 1, I x, I 0, I 0] 41)) := (Below.refl _ _).alloc (Nat.le_refl _) _
  refine (g7 hI (h.below hb) hw hv.ok w.heap.size 1 ?_ (Or.inr ⟨Nat.le_refl _, by simp⟩)).mono ?_
  · rw [hv.vx]; exact acs_lit1 w 3 1 x 0 0 1 rfl
  · rintro e w' ⟨rfl, L, z, hW, hS⟩
    exact ⟨rfl, L, z, hW, hS.1.mono (fun _ q => q.elim)⟩
theorem k8 (hI : ItoaSaid) (hgd : Gd w0) (h : Sx w0 w eb ef s (N7 v L0 L1 z0 z1) P) (hw : Whl (N7 v L0 L1 z0 z1)) :
    Calls Tryz.prog 24 #[.pointer (some ⟨s, 0, none⟩)] w fun e w' => e = .returned (.tuple #[]) ∧ ∃ L, Whl (N8 v L L1 z0 z1) ∧ Sx w0 w' eb ef s (N8 v L L1 z0 z1) (fun _ => False) :=
  (g8 hI hgd h hw).mono (by rintro e w' ⟨rfl, L, hW, hS⟩; exact ⟨rfl, L, hW, hS.1.mono (fun _ q => q.elim)⟩)
theorem k8s (h : Sx w0 w eb ef s (N8 v L0 L1 z0 z1) P) (hw : Whl (N8 v L0 L1 z0 z1)) :
    Calls Tryz.prog 25 #[.pointer (some ⟨s, 0, none⟩), I 1, .slice none 0 0] w fun e w' => e = .returned (.bool true) ∧ Sy w0 w eb ef s (N8 v L0 L1 z0 z1) P w' :=
  reads_at h 1 _ _ (.set []) (.set []) [] none 0 rfl rfl hw rfl rfl rfl rfl rfl rfl rfl rfl (fun j u hj => by simp at hj) (of_decide_eq_true rfl)
end

end Go.Proofs.YtfmcngncaffloaaGreatDoor
