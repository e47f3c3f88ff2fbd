import Derived.Test.YtfmcngncaffloaaDoorBkP
import Derived.Test.YtfmcngncaffloaaDoorSumA
import Derived.Test.YtfmcngncaffloaaDoorRdrB
import Derived.Maps.AppendAt
namespace Go.Proofs.YtfmcngncaffloaaDoor
open Go.RowKit

theorem pk_neg (c n : Int) (h : c < 0) : Wv.pk c n = (-(c + 1)) % n := by unfold Wv.pk; rw [if_pos h]
theorem pk_pos (c n : Int) (h : ¬ c < 0) : Wv.pk c n = c % n := by unfold Wv.pk; rw [if_neg h]

set_option maxHeartbeats 400000 in
theorem pick_any (c n : Int) (w : World) (hc : -9223372036854775808 ≤ c ∧ c ≤ 9223372036854775807) (hn : 0 < n ∧ n ≤ 1048576) :
    Calls Tryd.prog 17 #[.int .i64 c, .int .i64 n] w fun e w' => e = .returned (.int .i64 (Wv.pk c n)) ∧ w' = w := by
  go_enter Tryd.func17, Tryd.ntmps17
  by_cases h : c < 0
  · rw [pk_neg c n h]
    go_wp2
    go_ret
    exact ⟨ret_int (by rw [← Int.neg_tmod, Int.tmod_eq_emod_of_nonneg (by omega)]), rfl⟩
  · rw [pk_pos c n h]
    go_wp2
    go_ret
    exact ⟨rfl, rfl⟩

end Go.Proofs.YtfmcngncaffloaaDoor

namespace Go.Proofs.YtfmcngncaffloaaDoor
open Go.RowKit
set_option maxRecDepth 100000

/-- A batch under way, in a block of its own: nothing that was there is changed. -/
structure Mw (w wi : World) (E : Nat) (es : Array Value) : Prop where
  below : Below w.heap.size w wi
  kR : Blk wi w.heap.size bat0 25
  kE : Blk wi E es 25
  lt : w.heap.size < E
theorem Mw.kept {w wi wj : World} {E : Nat} {es : Array Value} (h : Mw w wi E es) (hb : Below wi.heap.size wi wj) : Mw w wj E es :=
  ⟨h.below.trans (hb.mono h.below.size), h.kR.kept hb h.kR.lt, h.kE.kept hb h.kE.lt, h.lt⟩
theorem Mw.alloc {w wi : World} {E : Nat} {es : Array Value} (h : Mw w wi E es) (o : Obj) : Mw w (wi.alloc o) E es := h.kept ((Below.refl _ _).alloc (Nat.le_refl _) _)
theorem Mw.set {w wi : World} {E : Nat} {es : Array Value} (h : Mw w wi E es) (j : Nat) (u : Value) : Mw w (wi.setCell ⟨E, j, none⟩ u) E (es.setIfInBounds j u) :=
  ⟨h.below.setCell (by have := h.lt; show w.heap.size ≤ E; omega) u, h.kR.other (by have := h.lt; show w.heap.size ≠ E; omega) u, h.kE.set j u, h.lt⟩
theorem Mw.drew {w wi : World} {E : Nat} {es : Array Value} (h : Mw w wi E es) : Mw w wi.drew E es := ⟨h.below.drew, h.kR.drew, h.kE.drew, h.lt⟩
theorem Mw.grow {w wi wj : World} {E : Nat} {es : Array Value} {row : Option Nat} (h : Mw w wi E es) (hg : wi.grownBy wj row) (hr : ∀ b, row = some b → E < b) : Mw w wj E es := by
  have h1 := h.lt
  have ne : ∀ k, k ≤ E → some k ≠ row := fun k hk e => by have := hr k e.symm; omega
  exact ⟨h.below.grown hg h.below.size (fun k e => by have := hr k e; omega), h.kR.grown hg (ne _ (by omega)), h.kE.grown hg (ne _ (by omega)), h.lt⟩

theorem Mw.begin (w : World) (es : Array Value) : Mw w ((w.alloc (.cells bat0 25)).alloc (.cells es 25)) (w.heap.size + 1) es :=
  ⟨((Below.refl _ _).alloc (Nat.le_refl _) _).alloc (by simp) _, Blk.alloc (heap_alloc_new w _) _, by have := heap_alloc_new (w.alloc (.cells bat0 25)) (.cells es 25); simpa [Blk] using this, by omega⟩
theorem tdiv_i64 (a b : Int) (ha : -9223372036854775808 ≤ a ∧ a ≤ 9223372036854775807) (hb : 1 ≤ b) : -9223372036854775808 ≤ a.tdiv b ∧ a.tdiv b ≤ 9223372036854775807 := by
  by_cases h : 0 ≤ a
  · have h1 := Int.tdiv_nonneg h (by omega : (0 : Int) ≤ b)
    have h2 : a.tdiv b ≤ a := Int.tdiv_le_self b h
    omega
  · have e : a.tdiv b = -((-a).tdiv b) := by rw [Int.neg_tdiv]; omega
    have h1 := Int.tdiv_nonneg (by omega : 0 ≤ -a) (by omega : (0 : Int) ≤ b)
    have h2 : (-a).tdiv b ≤ -a := Int.tdiv_le_self b (by omega)
    omega
theorem wrap_i64 (a : Int) (h1 : -9223372036854775808 ≤ a) (h2 : a ≤ 9223372036854775807) : IntKind.i64.wrap a = a := by
  simp only [IntKind.wrap, IntKind.bits, IntKind.signed]
  simp
  split <;> omega
theorem mkC_take (k time : Int) (j : Nat) (h : j < k.toNat) : (Wv.mkC k time).take (j + 1) = (Wv.mkC k time).take j ++ [1 + Wv.pk (time.tdiv ((j : Int) + 1)) 30] := by
  rw [List.take_succ_eq_append_getElem (by simp [Wv.mkC]; omega)]
  simp [Wv.mkC]
/-- A cell of a row of its own is written. -/
theorem own_set {w : World} {base : Nat} {e : TypeId} {n g cap : Nat} {xs : List Value} (h : w.ownsRow base e 1 (.slice (some ⟨g, 0, none⟩) n cap) n xs) (j : Nat) (hj : j < n) (u : Value) :
    w.frozen? ⟨g, j, none⟩ = false ∧ (∃ u0, w.cell? ⟨g, j, none⟩ = some u0) ∧ (w.setCell ⟨g, j, none⟩ u).ownsRow base e 1 (.slice (some ⟨g, 0, none⟩) n cap) n (xs.set j u) := by
  rcases h.2 with ⟨e1, _⟩ | ⟨g', cap', cur, e1, hb, hc, h3, h4, h5, h6⟩
  · cases e1
  · cases e1
    have hB : Blk w g cur e := hc
    have hx : j < cur.size := by omega
    refine ⟨hB.frozen j, ⟨cur[j], by rw [hB.cell j]; exact Array.getElem?_eq_getElem hx⟩, by rw [List.length_set]; exact h.1, .inr ⟨g, cap, cur.setIfInBounds j u, rfl, hb, hB.set j u, h3, h4, by simpa using h5, ?_⟩⟩
    rw [← h6, Array.toList_setIfInBounds, List.take_set]
theorem own_some {w : World} {base : Nat} {e : TypeId} {n cap : Nat} {a : Option Addr} {xs : List Value} (h : w.ownsRow base e 1 (.slice a n cap) n xs) (hn : 0 < n) : ∃ g, a = some ⟨g, 0, none⟩ ∧ base ≤ g ∧ g < w.heap.size := by
  rcases h.2 with ⟨_, e1⟩ | ⟨g', cap', cur, e1, hb, hc, _⟩
  · omega
  · cases e1
    exact ⟨g', rfl, hb, Blk.lt (cs := cur) (t := e) hc⟩
theorem pk_range (c n : Int) (h : 0 < n ∧ n ≤ 1048576) : 0 ≤ Wv.pk c n ∧ Wv.pk c n < n := Wv.pk_lt c n h.1
abbrev i64 (n : Int) : Prop := -9223372036854775808 ≤ n ∧ n ≤ 9223372036854775807

end Go.Proofs.YtfmcngncaffloaaDoor

namespace Go.Proofs.YtfmcngncaffloaaDoor
open Go.RowKit
set_option maxRecDepth 100000

/-- An append of a list that may be nil, onto a row of the call's own. -/
theorem run_append_opt {P : Program} (w : World) (base : Nat) (t ty e : TypeId) (i : TypeInfo) (z : Value) (size bytes : Nat) (ht : P.underlying t = some (.slice e)) (hi : P.info? e = some i) (hz : i.zero = some z)
    (hsize : i.size = size) (hby : i.bytes = bytes) (hzs : z.cells.size = size) (hsz : 0 < size)
    (v : Value) (n : Nat) (xs : List Value) (hown : w.ownsRow base e size v n xs)
    (ad : Option Addr) (m c : Nat) (news : List Value) (hl : news.length = m * size) (hnil : ad = none → m = 0) (hnews : ∀ a, ad = some a → ∀ j u, news[j]? = some u → w.cell? (a.add j) = some u) (h1 : ∀ u ∈ news, u.oneCell' = true)
    (h63 : n + m ≤ maxLen) (hbytes : (n + m) * bytes ≤ 140737488355328) (hbase : base ≤ w.heap.size) :
    ∃ v' w', (Builtin.append_ #[t, t] ty #[v, .slice ad m c]).run P w = .ok v' w' ∧ w'.ownsRow base e size v' (n + m) (xs ++ news) ∧ w.grownBy w' v.ownBlock := by
  cases ad with
  | some a =>
    obtain ⟨v', w', h, h2, h3, _, _⟩ := run_append_own_at w base t ty e i z size bytes ht hi hz hsize hby hzs hsz v n xs hown a m c news hl (hnews a rfl) h1 h63 hbytes hbase
    exact ⟨v', w', h, h2, h3⟩
  | none =>
    obtain rfl : m = 0 := hnil rfl
    obtain rfl : news = [] := List.eq_nil_of_length_eq_zero (by simpa using hl)
    refine ⟨v, w, ?_, by simpa using hown, ⟨rfl, rfl, rfl, Nat.le_refl _, fun _ _ _ => rfl⟩⟩
    rcases hown.2 with ⟨rfl, rfl⟩ | ⟨g, cap, cur, rfl, hbg, hg, hnc, hcm, hcs, htake⟩
    · simp [Builtin.append_, run_underlying ht, sizeOf, typeInfo, hi, Builtin.lenOf, Builtin.firstCells]
    · simp [Builtin.append_, run_underlying ht, sizeOf, typeInfo, hi, Builtin.lenOf, Builtin.firstCells, hnc, storeCells]
theorem wpList_append_opt {P : Program} {w : World} {ops : Array Oper} {rest : List Oper} {o : Oper} {a : Act} {Q : Exit → Act → World → Prop} (hgd : o.guard = none) (s x : Operand) (t : TypeId)
    (ho : o.op = .call { callee := .builtin .append, args := #[s, x], argTypes := #[t, t] })
    (base : Nat) (e : TypeId) (i : TypeInfo) (z : Value) (size bytes : Nat) (ht : P.underlying t = some (.slice e)) (hi : P.info? e = some i) (hz : i.zero = some z)
    (hsize : i.size = size) (hby : i.bytes = bytes) (hzs : z.cells.size = size) (hsz : 0 < size)
    (v : Value) (n : Nat) (xs : List Value) (hs : a.eval s = v) (hown : w.ownsRow base e size v n xs)
    (ad : Option Addr) (m c : Nat) (news : List Value) (hx : a.eval x = .slice ad m c) (hl : news.length = m * size) (hnil : ad = none → m = 0) (hnews : ∀ a, ad = some a → ∀ j u, news[j]? = some u → w.cell? (a.add j) = some u) (h1 : ∀ u ∈ news, u.oneCell' = true)
    (h63 : n + m ≤ maxLen) (hbytes : (n + m) * bytes ≤ 140737488355328) (hbase : base ≤ w.heap.size)
    (h : ∀ v' w', w'.ownsRow base e size v' (n + m) (xs ++ news) → w.grownBy w' v.ownBlock → wpList P ops Q rest (a.put o.dst v') w') :
    wpList P ops Q (o :: rest) a w := by
  refine wpList_plain hgd fun K hK => ?_
  obtain ⟨v', w', hr, h2, h3⟩ := run_append_opt (P := P) w base t o.type e i z size bytes ht hi hz hsize hby hzs hsz v n xs hown ad m c news hl hnil hnews h1 h63 hbytes hbase
  unfold Oper.wp execOp
  simp only [ho, resolve, invoke, builtin, Sem.run_bind, Sem.run_pure, Result.andThen_ok, List.map_toArray, List.map_cons, List.map_nil, hs, hx, hr]
  exact hK _ _ (h v' w' h2 h3)

theorem Mw.other {w wi : World} {E g o : Nat} {es : Array Value} (h : Mw w wi E es) (hg : E < g) (u : Value) : Mw w (wi.setCell ⟨g, o, none⟩ u) E es :=
  ⟨h.below.setCell (by have := h.lt; show w.heap.size ≤ g; omega) u, h.kR.other (by have := h.lt; show w.heap.size ≠ g; omega) u, h.kE.other (by show E ≠ g; omega) u, h.lt⟩
theorem At.add {w : World} {ra : Option Addr} {cs : List Value} (h : At w ra cs) : ∀ a, ra = some a → ∀ j u, cs[j]? = some u → w.cell? (a.add j) = some u := by
  rintro a rfl j u hj
  obtain ⟨b, o, e, hc⟩ := h j u hj
  cases e
  rw [Addr.add_lit]
  exact hc
theorem At.none_nil {w : World} {ra : Option Addr} {cs : List Value} (h : At w ra cs) (e : ra = none) : cs.length = 0 := by
  cases cs with
  | nil => rfl
  | cons x l =>
    obtain ⟨b, o, e2, _⟩ := h 0 x rfl
    rw [e] at e2
    cases e2
theorem ints_one (l : List Int) : ∀ u ∈ l.map I, u.oneCell' = true := by
  intro u hu
  obtain ⟨_, _, rfl⟩ := List.mem_map.1 hu
  rfl
/-- An effect under way, in a block of its own behind what was there. -/
structure Xw (wi wj : World) (X : Nat) (xs : Array Value) : Prop where
  below : Below wi.heap.size wi wj
  kX : Blk wj X xs 43
  le : wi.heap.size ≤ X
theorem Xw.begin (wi : World) (xs : Array Value) : Xw wi (wi.alloc (.cells xs 43)) wi.heap.size xs := ⟨(Below.refl _ _).alloc (Nat.le_refl _) _, heap_alloc_new wi _, Nat.le_refl _⟩
theorem Xw.kept {wi wj wk : World} {X : Nat} {xs : Array Value} (h : Xw wi wj X xs) (hb : Below wj.heap.size wj wk) : Xw wi wk X xs := ⟨h.below.trans (hb.mono h.below.size), h.kX.kept hb h.kX.lt, h.le⟩
theorem Xw.alloc {wi wj : World} {X : Nat} {xs : Array Value} (h : Xw wi wj X xs) (o : Obj) : Xw wi (wj.alloc o) X xs := h.kept ((Below.refl _ _).alloc (Nat.le_refl _) _)
theorem Xw.set {wi wj : World} {X : Nat} {xs : Array Value} (h : Xw wi wj X xs) (j : Nat) (u : Value) : Xw wi (wj.setCell ⟨X, j, none⟩ u) X (xs.setIfInBounds j u) := ⟨h.below.setCell h.le u, h.kX.set j u, h.le⟩
theorem Xw.drew {wi wj : World} {X : Nat} {xs : Array Value} (h : Xw wi wj X xs) : Xw wi wj.drew X xs := ⟨h.below.drew, h.kX.drew, h.le⟩
theorem Xw.grow {wi wj wk : World} {X : Nat} {xs : Array Value} {row : Option Nat} (h : Xw wi wj X xs) (hg : wj.grownBy wk row) (hr : ∀ b, row = some b → X < b) : Xw wi wk X xs := by
  have h1 := h.le
  exact ⟨h.below.grown hg h.below.size (fun k e => by have := hr k e; omega), h.kX.grown hg (fun e => by have := hr X e.symm; omega), h.le⟩

/-- The effects under way: the batch's block, its lists, and all that was there at the loop's beginning. -/
structure Ml (w wl wi : World) (es : Array Value) (vC vE : Value) (cl : List Int) (ms : List Em) : Prop where
  mw : Mw w wi (w.heap.size + 1) es
  ob : Ob wi (w.heap.size + 2) vC vE cl ms
  size : wl.heap.size ≤ wi.heap.size
  old : ∀ b, b < wl.heap.size → b ≠ w.heap.size + 1 → wi.heap[b]? = wl.heap[b]?
  new : ∀ b, vE.ownBlock = some b → wl.heap.size ≤ b
  lt : w.heap.size + 2 ≤ wl.heap.size
theorem Ml.kept {w wl wi wj : World} {es : Array Value} {vC vE : Value} {cl : List Int} {ms : List Em} (h : Ml w wl wi es vC vE cl ms) (hb : Below wi.heap.size wi wj) : Ml w wl wj es vC vE cl ms :=
  ⟨h.mw.kept hb, h.ob.kept (fun b h1 _ => hb.block b h1), Nat.le_trans h.size hb.size, fun b h1 h2 => (hb.block b (Nat.lt_of_lt_of_le h1 h.size)).trans (h.old b h1 h2), h.new, h.lt⟩
theorem Ml.push {w wl wi wx w11 : World} {es : Array Value} {vC vE v' : Value} {cl : List Int} {ms : List Em} {m : Em} {o : Obj} (h : Ml w wl wi es vC vE cl ms) (hb : Below wi.heap.size wi wx)
    (hD : wx.ownsRow wi.heap.size 40 3 m.dv m.e.dots.length (flat dotCells m.e.dots))
    (hE : w11.ownsRow (w.heap.size + 2) 43 7 v' (ms.length + 1) (flat Em.cells ms ++ m.cells))
    (hg : (wx.alloc o).grownBy w11 vE.ownBlock) (hat : v'.ownBlock = vE.ownBlock ∨ v'.ownBlock = some (wx.alloc o).heap.size) :
    Ml w wl (w11.setCell ⟨w.heap.size + 1, 4, none⟩ v') (es.setIfInBounds 4 v') vC v' cl (ms ++ [m]) := by
  have s0 := h.size
  have s1 := hb.size
  have hl := h.lt
  have sa : (wx.alloc o).heap.size = wx.heap.size + 1 := by simp
  have s2 := hg.size
  have hnb : ∀ b, vE.ownBlock = some b → w.heap.size + 2 ≤ b ∧ b < wi.heap.size := fun b e => h.ob.cells.lt b e
  have hk : ∀ b, b < wi.heap.size → vE.ownBlock ≠ some b → b ≠ w.heap.size + 1 → (w11.setCell ⟨w.heap.size + 1, 4, none⟩ v').heap[b]? = wi.heap[b]? := fun b h1 h2 h3 => by
    rw [heap_setCell_other _ ⟨w.heap.size + 1, 4, none⟩ b _ h3, hg.block b (by omega) (fun e => h2 e.symm), Below.heap_alloc wx _ b (by omega), hb.block b h1]
  refine ⟨(((h.mw.kept hb).alloc o).grow hg (fun b e => by have := hnb b e; omega)).set 4 v', ?_, ?_, ?_, ?_, hl⟩
  · refine h.ob.push (fun b h1 h2 h3 => hk b h1 h3 (by omega)) ?_ ?_ ?_ ?_
    · refine own_kept hE fun b e => heap_setCell_other _ ⟨w.heap.size + 1, 4, none⟩ _ _ ?_
      have := (hE.lt b e).1
      show b ≠ w.heap.size + 1
      omega
    · rcases hat with e | e
      · exact Or.inl e
      · exact Or.inr ⟨_, e, by omega⟩
    · refine own_mono (own_kept hD fun b e => ?_) (by omega)
      obtain ⟨b1, b2⟩ := hD.lt b e
      rw [heap_setCell_other _ ⟨w.heap.size + 1, 4, none⟩ b _ (by show b ≠ w.heap.size + 1; omega), hg.block b (by omega) (fun e => by have := hnb b e.symm; omega), Below.heap_alloc wx _ b b2]
    · intro b e
      obtain ⟨b1, b2⟩ := hD.lt b e
      refine ⟨b1, fun e' => ?_⟩
      rcases hat with x | x
      · have := hnb b (x ▸ e')
        omega
      · rw [x] at e'
        cases e'
        omega
  · simp only [World.size_setCell]
    omega
  · intro b h1 h2
    rw [hk b (by omega) (fun e => by have := h.new b e; omega) h2, h.old b h1 h2]
  · intro b e
    rcases hat with x | x
    · exact h.new b (x ▸ e)
    · rw [x] at e
      cases e
      omega

theorem lit_at (w : World) (cs : List Value) (t : TypeId) (g : Nat) (hg : g = w.heap.size) : ∀ j u, cs[j]? = some u → (w.alloc (.cells cs.toArray t)).cell? ((⟨g, 0, none⟩ : Addr).add j) = some u := by subst hg; exact lit_any w cs t
theorem xw_lit (wr : World) (o o' : Obj) (xs : Array Value) : Xw (wr.alloc o) (((wr.alloc o).alloc (.cells xs 43)).alloc o') (wr.heap.size + 1) xs := by
  have h := (Xw.begin (wr.alloc o) xs).alloc o'
  rwa [show (wr.alloc o).heap.size = wr.heap.size + 1 by simp] at h
theorem xw_below {wr wj : World} {o : Obj} {X : Nat} {xs : Array Value} (h : Xw (wr.alloc o) wj X xs) : Below wr.heap.size wr wj :=
  ((Below.refl _ _).alloc (Nat.le_refl _) o).trans (h.below.mono (by simp))
theorem dots_one (ds : List Wv.Dt) : ∀ u ∈ flat dotCells ds, u.oneCell' = true := by
  induction ds with
  | nil => intro u hu; cases hu
  | cons d ds ih =>
    intro u hu
    simp only [flat, List.mem_append] at hu
    rcases hu with h | h
    · exact dot_one d u h
    · exact ih u h
/-- The batch's block where its list of effects has just grown. -/
theorem Ml.store {w wl wi wx w11 : World} {es : Array Value} {vC vE : Value} {cl : List Int} {ms : List Em} {o : Obj} (h : Ml w wl wi es vC vE cl ms) (hb : Below wi.heap.size wi wx) (hg : (wx.alloc o).grownBy w11 vE.ownBlock) :
    w11.cell? ⟨w.heap.size + 1, 4, none⟩ = es[4]? ∧ w11.frozen? ⟨w.heap.size + 1, 4, none⟩ = false := by
  have k := ((h.mw.kept hb).alloc o).grow hg (fun b e => by have := h.ob.cells.lt b e; omega)
  exact ⟨k.kE.cell 4, k.kE.frozen 4⟩
theorem own_form {w : World} {base : Nat} {e : TypeId} {s n : Nat} {v : Value} {xs : List Value} (h : w.ownsRow base e s v n xs) (hn : 0 < n) : ∃ g cap, v = .slice (some ⟨g, 0, none⟩) n cap ∧ base ≤ g ∧ g < w.heap.size ∧ ∀ j u, xs[j]? = some u → w.cell? ⟨g, j, none⟩ = some u := by
  rcases h.2 with ⟨_, e1⟩ | ⟨g', cap', cur, rfl, hb, hc, _⟩
  · omega
  · refine ⟨g', cap', rfl, hb, Blk.lt (cs := cur) (t := e) hc, fun j u hj => ?_⟩
    have := h.cells (g := g') rfl j u hj
    rwa [Addr.add_lit, Nat.zero_add] at this
theorem ml_begin {w w5 w6 : World} {es : Array Value} {g k cc : Nat} {cl : List Int} {o : Obj} (h : Mw w (w5.alloc o) (w.heap.size + 1) es) (hO : w5.ownsRow (w.heap.size + 2) 3 1 (.slice (some ⟨g, 0, none⟩) k cc) k (cl.map I)) (hcl : cl.length = k)
    (hg : (w5.alloc o).grownBy w6 (Value.slice (some ⟨w5.heap.size, 0, none⟩) 1 1).ownBlock) (hs : w.heap.size + 2 ≤ w5.heap.size) :
    Ml w w6 w6 es (.slice (some ⟨g, 0, none⟩) k cc) (.slice none 0 0) cl [] := by
  have sa : (w5.alloc o).heap.size = w5.heap.size + 1 := by simp
  have s2 := hg.size
  have ob : ∀ b, (Value.slice (some ⟨w5.heap.size, 0, none⟩) 1 1).ownBlock = some b → b = w5.heap.size := fun b e => by simpa [Value.ownBlock, eq_comm] using e
  refine ⟨h.grow hg (fun b e => by have := ob b e; omega), ⟨?_, ⟨rfl, .inl ⟨rfl, rfl⟩⟩, (fun _ h => by cases h), (fun _ _ h => by cases h), (fun _ h => by cases h), List.Pairwise.nil⟩, Nat.le_refl _, fun _ _ _ => rfl, (fun _ h => by cases h), by omega⟩
  rw [hcl]
  refine own_kept hO fun b hb => ?_
  have := (hO.lt b hb).2
  rw [hg.block b (by omega) (fun e => by have := ob b e.symm; omega), Below.heap_alloc w5 _ b this]

end Go.Proofs.YtfmcngncaffloaaDoor

namespace Go.Proofs.YtfmcngncaffloaaDoor
open Go.RowKit
set_option maxRecDepth 100000

/-- A list of one effect is built. -/
theorem build_eff {w : World} {ops : Array Oper} {rest : List Oper} {o : Oper} {a : Act} {Q : Exit → Act → World → Prop} (hgd : o.guard = none) (x : Operand)
    (ho : o.op = .buildSlice 23 1 #[(0, x)]) (c0 c1 c2 c3 c4 c5 c6 : Value) (hx : a.eval x = .agg #[c0, c1, c2, c3, c4, c5, c6]) (g : Nat) (hg : g = w.heap.size)
    (h : wpList Tryd.prog ops Q rest (a.put o.dst (.slice (some ⟨g, 0, none⟩) 1 1)) (w.alloc (.cells #[c0, c1, c2, c3, c4, c5, c6] 43))) :
    wpList Tryd.prog ops Q (o :: rest) a w := by
  subst hg
  refine wpList_plain hgd fun K hK => ?_
  have hK' := hK _ _ h
  unfold Oper.wp execOp
  simp only [ho, List.map_toArray, List.map_cons, List.map_nil, hx]
  simp [go_sem]
  exact hK'
theorem build_dot {w : World} {ops : Array Oper} {rest : List Oper} {o : Oper} {a : Act} {Q : Exit → Act → World → Prop} (hgd : o.guard = none) (x : Operand)
    (ho : o.op = .buildSlice 41 1 #[(0, x)]) (c0 c1 c2 : Value) (hx : a.eval x = .agg #[c0, c1, c2]) (g : Nat) (hg : g = w.heap.size)
    (h : wpList Tryd.prog ops Q rest (a.put o.dst (.slice (some ⟨g, 0, none⟩) 1 1)) (w.alloc (.cells #[c0, c1, c2] 40))) :
    wpList Tryd.prog ops Q (o :: rest) a w := by
  subst hg
  refine wpList_plain hgd fun K hK => ?_
  have hK' := hK _ _ h
  unfold Oper.wp execOp
  simp only [ho, List.map_toArray, List.map_cons, List.map_nil, hx]
  simp [go_sem]
  exact hK'
theorem build_dots {w : World} {ops : Array Oper} {rest : List Oper} {o : Oper} {a : Act} {Q : Exit → Act → World → Prop} (hgd : o.guard = none) (x y : Operand)
    (ho : o.op = .buildSlice 41 2 #[(0, x), (1, y)]) (c0 c1 c2 c3 c4 c5 : Value) (hx : a.eval x = .agg #[c0, c1, c2]) (hy : a.eval y = .agg #[c3, c4, c5]) (g : Nat) (hg : g = w.heap.size)
    (h : wpList Tryd.prog ops Q rest (a.put o.dst (.slice (some ⟨g, 0, none⟩) 2 2)) (w.alloc (.cells #[c0, c1, c2, c3, c4, c5] 40))) :
    wpList Tryd.prog ops Q (o :: rest) a w := by
  subst hg
  refine wpList_plain hgd fun K hK => ?_
  have hK' := hK _ _ h
  unfold Oper.wp execOp
  simp only [ho, List.map_toArray, List.map_cons, List.map_nil, hx, hy]
  simp [go_sem]
  exact hK'

end Go.Proofs.YtfmcngncaffloaaDoor
