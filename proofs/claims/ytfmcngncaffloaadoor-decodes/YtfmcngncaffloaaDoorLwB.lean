import Derived.Test.YtfmcngncaffloaaDoorBlk
import Derived.Deep.AppendLies
import Derived.ArgAppend
import Derived.Laws.IdiomCopy
import Derived.Test.YtfmcngncaffloaaDoorSame
import Derived.Test.YtfmcngncaffloaaDoorRdrB
import Derived.Test.YtfmcngncaffloaaDoorDkA
import Derived.Test.YtfmcngncaffloaaDoorTkA
import Derived.Test.YtfmcngncaffloaaDoorTkC
namespace Go.Proofs.YtfmcngncaffloaaDoor
open Go.RowKit
set_option maxRecDepth 100000

/-- What an append leaves of the old row. -/
theorem run_append_kept {P : Program} (w : World) (t ty : TypeId) (base : Nat) (e : TypeId) (i : TypeInfo) (z : Value) (size bytes : Nat) (ht : P.underlying t = some (.slice e)) (hi : P.info? e = some i) (hz : i.zero = some z)
    (hsize : i.size = size) (hby : i.bytes = bytes) (hzs : z.cells.size = size) (hsz : 0 < size)
    (v : Value) (n : Nat) (xs : List Value) (hown : w.ownsRow base e size v n xs)
    (ad : Addr) (m c : Nat) (news : List Value) (hl : news.length = m * size) (hnews : ∀ j u, news[j]? = some u → w.cell? (ad.add j) = some u) (h1 : ∀ u ∈ news, u.oneCell' = true)
    (h63 : n + m ≤ maxLen) (hbytes : (n + m) * bytes ≤ 140737488355328) (v' : Value) (w' : World) (hrun : (Builtin.append_ #[t, t] ty #[v, .slice (some ad) m c]).run P w = .ok v' w') :
    ∀ b j, v.ownBlock = some b → j < n * size → w'.cell? ⟨b, j, none⟩ = w.cell? ⟨b, j, none⟩ := by
  intro b j hb hj
  rcases hown.2 with ⟨rfl, _⟩ | ⟨g, cap, cur, rfl, _, hg, hnc, _, hcs, htk⟩
  · cases hb
  · obtain rfl : g = b := by simpa [Value.ownBlock] using hb
    by_cases hroom : n + m ≤ cap
    · have hlt : ∀ k, k < news.length → n * size + k < cur.size := by
        intro k hk
        rw [hcs]
        have : (n + m) * size ≤ cap * size := Nat.mul_le_mul_right _ hroom
        rw [Nat.add_mul] at this
        omega
      have hr := run_append_room_cells (P := P) w t ty e i ht hi g 0 n cap ad m c news (by rw [hl, hsize]) hnews h1 hroom
        (fun k hk => by rw [hsize, cell_of_row w g _ cur e (0, 0) hg, Nat.zero_add, Array.getElem?_eq_getElem (hlt k hk)]; rfl)
        (fun k _ => frozen_of_row w g _ cur e hg)
      rw [hr] at hrun
      cases hrun
      refine World.cell?_setCells_out g news (0 + n * i.size) w ⟨g, j, none⟩ (fun _ _ => Or.inl ?_)
      rw [hsize]
      show j < 0 + n * size
      omega
    · obtain ⟨v2, w2, hr, _, hg2⟩ := run_append_arg_grows (P := P) w t ty e i z size bytes ht hi hz hsize hby hzs hsz ⟨g, 0, none⟩ n cap xs hown.1 (fun k u hu => by
        rw [Addr.add_lit, Nat.zero_add, cell_of_row w g k cur e (0, 0) hg]
        rw [← htk] at hu
        have hk : k < n * size := by have := (List.getElem?_eq_some_iff.1 hu).1; simp at this; omega
        rw [List.getElem?_take_of_lt hk] at hu
        simpa using hu) ad m c news hl hnews (by omega) h63 hbytes
      rw [hr] at hrun
      cases hrun
      have hlt : g < w.heap.size := (Array.getElem?_eq_some_iff.1 hg).1
      exact World.cell?_of_block (a := ⟨g, j, none⟩) (hg2.block g hlt (by simp))
/-- As the library's law on append, with what is left of the old row. -/
theorem wp_append_keep {P : Program} (w : World) {o : Oper} {a : Act} {K : Act → World → Prop} {Q : Exit → Act → World → Prop} (s x : Operand) (t : TypeId)
    (ho : o.op = .call { callee := .builtin .append, args := #[s, x], argTypes := #[t, t] })
    (base : Nat) (e : TypeId) (i : TypeInfo) (z : Value) (size bytes : Nat) (ht : P.underlying t = some (.slice e)) (hi : P.info? e = some i) (hz : i.zero = some z)
    (hsize : i.size = size) (hby : i.bytes = bytes) (hzs : z.cells.size = size) (hsz : 0 < size)
    (v : Value) (n : Nat) (xs : List Value) (hs : a.eval s = v) (hown : w.ownsRow base e size v n xs)
    (ad : Addr) (m c : Nat) (news : List Value) (hx : a.eval x = .slice (some ad) m c) (hl : news.length = m * size) (hnews : ∀ j u, news[j]? = some u → w.cell? (ad.add j) = some u) (h1 : ∀ u ∈ news, u.oneCell' = true)
    (hm : 0 < m) (h63 : n + m ≤ maxLen) (hbytes : (n + m) * bytes ≤ 140737488355328) (hbase : base ≤ w.heap.size) (H : Nat) (hH : w.heap.size = H)
    (h : ∀ g cap w', w'.ownsRow base e size (.slice (some ⟨g, 0, none⟩) (n + m) cap) (n + m) (xs ++ news) → w.grownBy w' v.ownBlock → (v.ownBlock = some g ∨ g = H) → (∀ b j, v.ownBlock = some b → j < n * size → w'.cell? ⟨b, j, none⟩ = w.cell? ⟨b, j, none⟩) → K (a.put o.dst (.slice (some ⟨g, 0, none⟩) (n + m) cap)) w') : o.wp P a w K Q := by
  obtain ⟨g, cap, w', hr, h2, h3, h4, h5⟩ := run_append_lies (P := P) w t o.type base e i z size bytes ht hi hz hsize hby hzs hsz v n xs hown ad m c news hl hnews h1 hm h63 hbytes hbase H hH
  have h6 := run_append_kept (P := P) w t o.type base e i z size bytes ht hi hz hsize hby hzs hsz v n xs hown ad m c news hl hnews h1 h63 hbytes _ _ hr
  unfold Oper.wp execOp
  simp only [ho, resolve, invoke, builtin, Sem.run_bind, Sem.run_pure, Result.andThen_ok, List.map_toArray, List.map_cons, List.map_nil, hs, hx, hr]
  exact h g cap w' h2 h3 h4 h6
theorem wpList_append_keep {P : Program} {w : World} {ops : Array Oper} {rest : List Oper} {o : Oper} {a : Act} {Q : Exit → Act → World → Prop} (hgd : o.guard = none) (s x : Operand) (t : TypeId)
    (ho : o.op = .call { callee := .builtin .append, args := #[s, x], argTypes := #[t, t] })
    (base : Nat) (e : TypeId) (i : TypeInfo) (z : Value) (size bytes : Nat) (ht : P.underlying t = some (.slice e)) (hi : P.info? e = some i) (hz : i.zero = some z)
    (hsize : i.size = size) (hby : i.bytes = bytes) (hzs : z.cells.size = size) (hsz : 0 < size)
    (v : Value) (n : Nat) (xs : List Value) (hs : a.eval s = v) (hown : w.ownsRow base e size v n xs)
    (ad : Addr) (m c : Nat) (news : List Value) (hx : a.eval x = .slice (some ad) m c) (hl : news.length = m * size) (hnews : ∀ j u, news[j]? = some u → w.cell? (ad.add j) = some u) (h1 : ∀ u ∈ news, u.oneCell' = true)
    (hm : 0 < m) (h63 : n + m ≤ maxLen) (hbytes : (n + m) * bytes ≤ 140737488355328) (hbase : base ≤ w.heap.size) (H : Nat) (hH : w.heap.size = H)
    (h : ∀ g cap w', w'.ownsRow base e size (.slice (some ⟨g, 0, none⟩) (n + m) cap) (n + m) (xs ++ news) → w.grownBy w' v.ownBlock → (v.ownBlock = some g ∨ g = H) → (∀ b j, v.ownBlock = some b → j < n * size → w'.cell? ⟨b, j, none⟩ = w.cell? ⟨b, j, none⟩) → wpList P ops Q rest (a.put o.dst (.slice (some ⟨g, 0, none⟩) (n + m) cap)) w') : wpList P ops Q (o :: rest) a w :=
  wpList_plain hgd fun _ hK => wp_append_keep w s x t ho base e i z size bytes ht hi hz hsize hby hzs hsz v n xs hs hown ad m c news hx hl hnews h1 hm h63 hbytes hbase H hH fun g cap w' h2 h3 h4 h5 => hK _ _ (h g cap w' h2 h3 h4 h5)
/-- A slice of dots; one that is full of a mark. -/
structure Sl where
  a : Option Addr
  n : Nat
  c : Nat
def Sl.v (s : Sl) : Value := .slice s.a s.n s.c
def marks (n : Nat) (d : Wv.Dt) : List Value := flat dotCells (List.replicate n d)

end Go.Proofs.YtfmcngncaffloaaDoor

namespace Go.Proofs.YtfmcngncaffloaaDoor
open Go.RowKit
set_option maxRecDepth 100000

theorem marks_at {w : World} {a : Option Addr} {n : Nat} {d : Wv.Dt} (h : At w a (marks n d)) (hn : 0 < n) : ∃ p q, a = some ⟨p, q, none⟩ ∧ p < w.heap.size ∧
    ∀ k, k < n → w.cell? ⟨p, q + k * 3, none⟩ = some (I d.o) ∧ w.cell? ⟨p, q + k * 3 + 1, none⟩ = some (I d.s) ∧ w.cell? ⟨p, q + k * 3 + 2, none⟩ = some (I d.i) := by
  obtain ⟨p, q, e, hp, hc⟩ := dots_at h (by simpa using hn)
  refine ⟨p, q, e, hp, fun k hk => ?_⟩
  have := hc k (by simpa using hk)
  simpa using this

set_option maxHeartbeats 1600000 in
theorem full_any (ss : List Sl) (gA cA : Nat) (d : Wv.Dt) (w : World) (hA : ∀ k (hk : k < ss.length), w.cell? ⟨gA, k, none⟩ = some (.slice ss[k].a ss[k].n ss[k].c)) (hF : ∀ s ∈ ss, At w s.a (marks s.n d)) (hl : ss.length ≤ 1000) (hn : ∀ s ∈ ss, s.n ≤ 1000) :
    Calls Tryd.prog 14 #[.slice (some ⟨gA, 0, none⟩) ss.length cA, dotV d] w fun e w' => e = .returned (.bool true) ∧ Below w.heap.size w w' := by
  have HA : Hid (∀ k (hk : k < ss.length), w.cell? ⟨gA, k, none⟩ = some (.slice ss[k].a ss[k].n ss[k].c)) := hA
  have HF : Hid (∀ s ∈ ss, At w s.a (marks s.n d)) := hF
  have HN : Hid (∀ s ∈ ss, s.n ≤ 1000) := hn
  have HB : Hid (Below w.heap.size w (w.alloc (.cells #[I d.o, I d.s, I d.i] 40))) := (Below.refl _ _).alloc (Nat.le_refl _) _
  have HM : Hid (Blk (w.alloc (.cells #[I d.o, I d.s, I d.i] 40)) w.heap.size #[I d.o, I d.s, I d.i] 40) := heap_alloc_new w _
  have hdd := eq3_self d.o d.s d.i
  clear hA hF hn
  go_enter Tryd.func14, Tryd.ntmps14
  go_wp2_with fail
  go_loopw [5] (fun x wr => ∃ k : Nat, k ≤ ss.length ∧ x = I k ∧ Hid (Below w.heap.size w wr) ∧ Hid (Blk wr w.heap.size #[I d.o, I d.s, I d.i] 40)) (fun x _ => ss.length - (intOf x).toNat)
  case atStart => exact ⟨0, Nat.zero_le _, rfl, HB, HM⟩
  case round =>
    obtain ⟨k, hk, rfl, hb, hm⟩ := hrel
    clear HB HM
    by_cases hlt : k < ss.length
    · have hmem : ss[k] ∈ ss := List.getElem_mem hlt
      have hc0 := cell_kept hb.out (HA.out k hlt)
      have hAt : Hid (At wr ss[k].a (marks ss[k].n d)) := (HF.out _ hmem).kept hb.out
      have hnb := HN.out _ hmem
      generalize ss[k] = s at *
      have hki : (k : Int) < (ss.length : Int) := by omega
      have HX : Hid (∀ j, j < s.n → ∃ p q, s.a = some ⟨p, q, none⟩ ∧ wr.cell? ⟨p, q + j * 3, none⟩ = some (I d.o) ∧ wr.cell? ⟨p, q + j * 3 + 1, none⟩ = some (I d.s) ∧ wr.cell? ⟨p, q + j * 3 + 2, none⟩ = some (I d.i)) := by
        show ∀ j, _
        intro j hj
        obtain ⟨p, q, e, _, hc⟩ := marks_at hAt.out (by omega)
        exact ⟨p, q, e, hc j hj⟩
      have HC0 : Hid (wr.cell? ⟨gA, k, none⟩ = some (.slice s.a s.n s.c)) := hc0
      have HD : Hid (wr.cell? ⟨w.heap.size, 0, none⟩ = some (I d.o) ∧ wr.cell? ⟨w.heap.size, 1, none⟩ = some (I d.s) ∧ wr.cell? ⟨w.heap.size, 2, none⟩ = some (I d.i)) := ⟨hm.out.cell 0, hm.out.cell 1, hm.out.cell 2⟩
      clear hc0 hmem
      go_wp2_with fail
      go_loopw [6] (fun x wq => ∃ j : Nat, j ≤ s.n ∧ x = I j ∧ Hid (Below wr.heap.size wr wq)) (fun x _ => s.n - (intOf x).toNat)
      case atStart => exact ⟨0, Nat.zero_le _, rfl, Below.refl _ _⟩
      case round =>
        obtain ⟨j, hj, rfl, hq⟩ := hrel
        have c0 := cell_kept hq.out HC0.out
        have d0 := cell_kept hq.out HD.out.1
        have d1 := cell_kept hq.out HD.out.2.1
        have d2 := cell_kept hq.out HD.out.2.2
        by_cases hlj : j < s.n
        · obtain ⟨p, q, e, x0, x1, x2⟩ := HX.out j hlj
          replace x0 := cell_kept hq.out x0
          replace x1 := cell_kept hq.out x1
          replace x2 := cell_kept hq.out x2
          rw [e] at c0
          have hji : (j : Int) < (s.n : Int) := by omega
          go_wp2_with fail
          go_quiet (fail)
          go_wp2
          exact ⟨⟨j + 1, by omega, by go_num, belowN hq.out _⟩, by simp [intOf]; omega⟩
        · obtain rfl : j = s.n := by omega
          go_wp2
          exact ⟨⟨k + 1, by omega, by go_num, hb.out.trans (hq.out.mono hb.out.size), hm.out.kept hq.out hm.out.lt⟩, by simp [intOf]; omega⟩
    · obtain rfl : k = ss.length := by omega
      go_wp2
      go_ret
      exact ⟨rfl, hb.out⟩

end Go.Proofs.YtfmcngncaffloaaDoor

namespace Go.Proofs.YtfmcngncaffloaaDoor
open Go.RowKit
set_option maxRecDepth 100000

theorem at_cells {w w' : World} {blk : Nat} {cs : List Value} (h : At w (some ⟨blk, 0, none⟩) cs) (hk : ∀ j, j < cs.length → w'.cell? ⟨blk, j, none⟩ = w.cell? ⟨blk, j, none⟩) : At w' (some ⟨blk, 0, none⟩) cs := by
  intro j u hj
  obtain ⟨p, o, e, hc⟩ := h j u hj
  cases e
  refine ⟨blk, 0, rfl, ?_⟩
  rw [Nat.zero_add] at hc ⊢
  rw [hk j (List.getElem?_eq_some_iff.1 hj).1]
  exact hc
theorem marks_len (n : Nat) (d : Wv.Dt) : (marks n d).length = n * 3 := by
  unfold marks
  rw [flat_len _ 3 dotCells_len, List.length_replicate]
theorem marks_succ (n : Nat) (d : Wv.Dt) : marks (n + 1) d = marks n d ++ dotCells d := by
  unfold marks
  rw [List.replicate_succ', flat_snoc]
/-- A slice that is full of the mark, in a block that nobody else writes. -/
def Good (w : World) (H : Nat) (L0 : Option Nat) (vA : Value) (N : Nat) (d : Wv.Dt) (s : Sl) : Prop :=
  s.n ≤ N ∧ ((s.a = none ∧ s.n = 0) ∨ ∃ blk, s.a = some ⟨blk, 0, none⟩ ∧ At w s.a (marks s.n d) ∧ (L0 = some blk ∨ H + 1 ≤ blk) ∧ blk < w.heap.size ∧ vA.ownBlock ≠ some blk)
/-- Lists that are longer and longer, under way. -/
structure Ln (w wr : World) (base : Nat) (L0 : Option Nat) (ln k : Nat) (d : Wv.Dt) (vl vA : Value) (ss : List Sl) : Prop where
  l : wr.ownsRow base 40 3 vl (ln + k) (marks (ln + k) d)
  all : wr.ownsRow (w.heap.size + 1) 41 1 vA (k + 1) (ss.map Sl.v)
  len : ss.length = k + 1
  full : ∀ s ∈ ss, Good wr w.heap.size L0 vA (ln + k) d s
  lb : vl.ownBlock = L0 ∨ ∃ b, vl.ownBlock = some b ∧ w.heap.size + 1 ≤ b
  la : ∀ b, vl.ownBlock = some b → vA.ownBlock ≠ some b
  m : Blk wr w.heap.size #[I d.o, I d.s, I d.i] 40
  L : ∀ b, L0 = some b → b < w.heap.size
  g : w.grownBy wr L0
theorem Ln.step {w wr w11 w12 : World} {base : Nat} {L0 : Option Nat} {ln k : Nat} {d : Wv.Dt} {vl vA : Value} {ss : List Sl} {o1 o2 : Obj} {g5 cap5 g6 cap6 : Nat} (h : Ln w wr base L0 ln k d vl vA ss)
    (hk1 : (wr.alloc o1).grownBy w11 vl.ownBlock) (own1 : w11.ownsRow base 40 3 (.slice (some ⟨g5, 0, none⟩) (ln + k + 1) cap5) (ln + k + 1) (marks (ln + k) d ++ dotCells d)) (at1 : vl.ownBlock = some g5 ∨ g5 = wr.heap.size + 1)
    (kp : ∀ b j, vl.ownBlock = some b → j < (ln + k) * 3 → w11.cell? ⟨b, j, none⟩ = (wr.alloc o1).cell? ⟨b, j, none⟩)
    (hk2 : (w11.alloc o2).grownBy w12 vA.ownBlock) (own2 : w12.ownsRow (w.heap.size + 1) 41 1 (.slice (some ⟨g6, 0, none⟩) (k + 1 + 1) cap6) (k + 1 + 1) (ss.map Sl.v ++ [.slice (some ⟨g5, 0, none⟩) (ln + k + 1) cap5])) (at2 : vA.ownBlock = some g6 ∨ g6 = w11.heap.size + 1) :
    Ln w w12 base L0 ln (k + 1) d (.slice (some ⟨g5, 0, none⟩) (ln + k + 1) cap5) (.slice (some ⟨g6, 0, none⟩) (k + 1 + 1) cap6) (ss ++ [⟨some ⟨g5, 0, none⟩, ln + k + 1, cap5⟩]) := by
  have hs0 := h.g.size
  have hs1 : wr.heap.size + 1 ≤ w11.heap.size := by have := hk1.size; simpa using this
  have hs2 : w11.heap.size + 1 ≤ w12.heap.size := by have := hk2.size; simpa using this
  have hA := h.all.lt
  have hL := h.l.lt
  have hmlt := h.m.lt
  have hg5 : g5 < w11.heap.size := own_lt own1
  -- blocks that neither append writes
  have hb : ∀ b, b < wr.heap.size → vl.ownBlock ≠ some b → vA.ownBlock ≠ some b → w12.heap[b]? = wr.heap[b]? := by
    intro b h1 h2 h3
    rw [hk2.block b (by simp; omega) (fun e => h3 e.symm), Below.heap_alloc w11 _ b (by omega), hk1.block b (by simp; omega) (fun e => h2 e.symm), Below.heap_alloc wr _ b h1]
  have hb2 : ∀ b, b < w11.heap.size → vA.ownBlock ≠ some b → w12.heap[b]? = w11.heap[b]? := by
    intro b h1 h3
    rw [hk2.block b (by simp; omega) (fun e => h3 e.symm), Below.heap_alloc w11 _ b h1]
  have hg5A : vA.ownBlock ≠ some g5 := by
    rcases at1 with e | e
    · exact h.la g5 e
    · intro e2; have := (hA g5 e2).2; omega
  have hA' : ∀ b, b < w11.heap.size → vA.ownBlock ≠ some b → (Value.slice (some ⟨g6, 0, none⟩) (k + 1 + 1) cap6).ownBlock ≠ some b := by
    intro b h1 h2 e
    have e' : g6 = b := by simpa [Value.ownBlock] using e
    subst e'
    rcases at2 with e | e
    · exact h2 e
    · omega
  refine ⟨?_, ?_, by rw [List.length_append, h.len]; rfl, ?_, ?_, ?_, ?_, h.L, ?_⟩
  · rw [show ln + (k + 1) = ln + k + 1 by omega, marks_succ]
    exact own_kept own1 fun b hb' => by
      obtain rfl : g5 = b := by simpa [Value.ownBlock] using hb'
      exact hb2 _ hg5 hg5A
  · rw [List.map_append]; exact own2
  · intro s hs
    rw [List.mem_append, List.mem_singleton] at hs
    rcases hs with hs | rfl
    · obtain ⟨hn, hor⟩ := h.full s hs
      refine ⟨by omega, ?_⟩
      rcases hor with h0 | ⟨blk, ea, hat, hwh, hlt, hne⟩
      · exact Or.inl h0
      · refine Or.inr ⟨blk, ea, ?_, hwh, by omega, hA' blk (by omega) hne⟩
        rw [ea] at hat ⊢
        refine at_cells hat fun j hj => ?_
        rw [World.cell?_of_block (a := ⟨blk, j, none⟩) (hb2 blk (by omega) hne)]
        by_cases hv : vl.ownBlock = some blk
        · rw [kp blk j hv (by rw [marks_len] at hj; have : s.n * 3 ≤ (ln + k) * 3 := Nat.mul_le_mul_right _ hn; omega)]
          exact World.cell?_of_block (a := ⟨blk, j, none⟩) (Below.heap_alloc wr _ blk hlt)
        · rw [World.cell?_of_block (a := ⟨blk, j, none⟩) (hk1.block blk (by simp; omega) (fun e => hv e.symm))]
          exact World.cell?_of_block (a := ⟨blk, j, none⟩) (Below.heap_alloc wr _ blk hlt)
    · refine ⟨by show ln + k + 1 ≤ ln + (k + 1); omega, Or.inr ⟨g5, rfl, ?_, ?_, by omega, hA' g5 hg5 hg5A⟩⟩
      · show At w12 (some ⟨g5, 0, none⟩) (marks (ln + k + 1) d)
        rw [marks_succ]
        exact at_block (own_at own1) (hb2 g5 hg5 hg5A)
      · rcases at1 with e | e
        · rcases h.lb with e2 | ⟨b, e2, hb'⟩
          · exact Or.inl (by rw [← e2, e])
          · rw [e2] at e; cases e; exact Or.inr hb'
        · exact Or.inr (by omega)
  · rcases at1 with e | e
    · rcases h.lb with e2 | ⟨b, e2, hb'⟩
      · exact Or.inl (by rw [← e2, e]; rfl)
      · rw [e2] at e; cases e; exact Or.inr ⟨_, rfl, hb'⟩
    · exact Or.inr ⟨g5, rfl, by omega⟩
  · intro b hb'
    obtain rfl : g5 = b := by simpa [Value.ownBlock] using hb'
    exact hA' _ hg5 hg5A
  · refine (hb w.heap.size hmlt ?_ ?_).trans h.m
    · intro e
      rcases h.lb with e2 | ⟨b, e2, hb'⟩
      · rw [e2] at e; have := h.L _ e; omega
      · rw [e2] at e; cases e; omega
    · intro e; have := (hA _ e).1; omega
  · refine ⟨hk2.os.trans (hk1.os.trans h.g.os), hk2.tape.trans (hk1.tape.trans h.g.tape), hk2.output.trans (hk1.output.trans h.g.output), by omega, fun b hb1 hb2' => ?_⟩
    rw [hb b (by omega) ?_ ?_, h.g.block b hb1 hb2']
    · intro e
      rcases h.lb with e2 | ⟨b', e2, hb'⟩
      · rw [e2] at e; exact hb2' e.symm
      · rw [e2] at e; cases e; omega
    · intro e; have := (hA b e).1; omega

end Go.Proofs.YtfmcngncaffloaaDoor

namespace Go.Proofs.YtfmcngncaffloaaDoor
open Go.RowKit
set_option maxRecDepth 100000

theorem infoSD : (Tryd.prog.info? 41).map (fun i => (i.zero, i.size, i.bytes)) = some (some (.slice none 0 0), 1, 24) := by kernel_rfl
theorem Ln.begin {w : World} {base : Nat} {la : Option Addr} {ln lc : Nat} {d : Wv.Dt} (h : w.ownsRow base 40 3 (.slice la ln lc) ln (marks ln d)) :
    Ln w ((w.alloc (.cells #[I d.o, I d.s, I d.i] 40)).alloc (.cells #[.slice la ln lc] 41)) base (Value.slice la ln lc).ownBlock ln 0 d (.slice la ln lc) (.slice (some ⟨w.heap.size + 1, 0, none⟩) 1 1) [⟨la, ln, lc⟩] := by
  have hlt := h.lt
  have hk : ∀ b, b < w.heap.size → ((w.alloc (.cells #[I d.o, I d.s, I d.i] 40)).alloc (.cells #[.slice la ln lc] 41)).heap[b]? = w.heap[b]? := fun b hb => by
    rw [Below.heap_alloc (w.alloc _) _ b (by simp; omega), Below.heap_alloc w _ b hb]
  refine ⟨own_kept h fun b hb => hk b (hlt b hb).2, ⟨rfl, .inr ⟨w.heap.size + 1, 1, #[.slice la ln lc], rfl, Nat.le_refl _, Blk.second w _ _ _, Nat.le_refl _, by unfold maxLen; omega, rfl, rfl⟩⟩, rfl, ?_, Or.inl rfl, ?_, Blk.alloc (heap_alloc_new w _) _, fun b hb => (hlt b hb).2, ?_⟩
  · intro s hs
    rw [List.mem_singleton] at hs
    subst hs
    refine ⟨Nat.le_refl _, ?_⟩
    rcases h.2 with ⟨e, e2⟩ | ⟨g, cap, cur, e, _⟩
    · cases e; exact Or.inl ⟨rfl, rfl⟩
    · cases e
      have hg := hlt g rfl
      refine Or.inr ⟨g, rfl, at_block (own_at h) (hk g hg.2), Or.inl rfl, by simp; omega, fun e => ?_⟩
      have : w.heap.size + 1 = g := by simpa [Value.ownBlock] using e
      omega
  · intro b hb e
    have : w.heap.size + 1 = b := by simpa [Value.ownBlock] using e
    have := (hlt b hb).2
    omega
  · exact grown_new (grown_new (grown_refl _ _))

set_option maxHeartbeats 1600000 in
theorem longer_any (la : Option Addr) (ln lc : Nat) (d : Wv.Dt) (base : Nat) (w : World) (h : w.ownsRow base 40 3 (.slice la ln lc) ln (marks ln d)) (hn : ln ≤ 1000) (hbw : base ≤ w.heap.size) :
    Calls Tryd.prog 13 #[.slice la ln lc, dotV d] w fun e w' => ∃ vA vl ss, e = .returned vA ∧ Ln w w' base (Value.slice la ln lc).ownBlock ln 3 d vl vA ss := by
  have HL : Hid (Ln w ((w.alloc (.cells #[I d.o, I d.s, I d.i] 40)).alloc (.cells #[.slice la ln lc] 41)) base (Value.slice la ln lc).ownBlock ln 0 d (.slice la ln lc) (.slice (some ⟨w.heap.size + 1, 0, none⟩) 1 1) [⟨la, ln, lc⟩]) := Ln.begin h
  clear h
  obtain ⟨i, hi, hz0, hz1, hz2⟩ := info_parts infoDt
  obtain ⟨i2, hi2, hy0, hy1, hy2⟩ := info_parts infoSD
  generalize hLO : (Value.slice la ln lc).ownBlock = L0 at *
  clear hLO
  go_enter Tryd.func13, Tryd.ntmps13
  go_wp2_with fail
  go_loopw [0, 5, 6] (fun vl vA x wr => ∃ k : Nat, ∃ ss, k ≤ 3 ∧ x = I k ∧ Hid (Ln w wr base L0 ln k d vl vA ss)) (fun _ _ x _ => 3 - (intOf x).toNat)
  case atStart => exact ⟨0, _, by omega, rfl, HL⟩
  case round =>
    obtain ⟨k, ss, hk, rfl, HE⟩ := hrel
    clear HL
    by_cases hlt : k < 3
    · have d0 : wr.cell? ⟨w.heap.size, 0, none⟩ = some (I d.o) := HE.out.m.cell 0
      have d1 : wr.cell? ⟨w.heap.size, 1, none⟩ = some (I d.s) := HE.out.m.cell 1
      have d2 : wr.cell? ⟨w.heap.size, 2, none⟩ = some (I d.i) := HE.out.m.cell 2
      have hsw : w.heap.size ≤ wr.heap.size := HE.out.g.size
      have hki : (k : Int) < 3 := by omega
      go_wp2_with (first
        | (at_builtin; (refine wpList_append_keep rfl _ _ _ rfl base 40 i (.agg #[.int .i64 0, .int .i64 0, .int .i64 0]) 3 24 Tryd.underlying41 hi hz0 hz1 hz2 rfl (by omega) u0 (ln + k) (marks (ln + k) d) rfl (HE.out.l.alloc _) ⟨wr.heap.size, 0, none⟩ 1 1 [I d.o, I d.s, I d.i] rfl rfl (lit_any wr _ _) (dot_one d) (by omega) (by unfold maxLen; omega) (by omega) (by simp; omega) (wr.heap.size + 1) (by simp) ?_; intro g5 cap5 w11 own1 hk1 at1 kp; have hs11 : wr.heap.size + 1 ≤ w11.heap.size := (by have := hk1.size; simpa using this); have HA11 : Hid (w11.ownsRow (w.heap.size + 1) 41 1 u5 (k + 1) (ss.map Sl.v)) := own_kept HE.out.all (fun b hb => (hk1.block b (by have := (HE.out.all.lt b hb).2; simp; omega) (fun e => HE.out.la b e.symm hb)).trans (Below.heap_alloc wr _ b (HE.out.all.lt b hb).2)); have K1 : Hid ((wr.alloc (.cells #[I d.o, I d.s, I d.i] 40)).grownBy w11 u0.ownBlock ∧ w11.ownsRow base 40 3 (.slice (some ⟨g5, 0, none⟩) (ln + k + 1) cap5) (ln + k + 1) (marks (ln + k) d ++ dotCells d) ∧ (u0.ownBlock = some g5 ∨ g5 = wr.heap.size + 1) ∧ (∀ b j, u0.ownBlock = some b → j < (ln + k) * 3 → w11.cell? ⟨b, j, none⟩ = (wr.alloc (.cells #[I d.o, I d.s, I d.i] 40)).cell? ⟨b, j, none⟩)) := ⟨hk1, own1, at1, kp⟩; clear own1 hk1 at1 kp))
        | (at_builtin; (refine wpList_append_lies _ rfl _ _ _ rfl (w.heap.size + 1) 41 i2 (.slice none 0 0) 1 24 Tryd.underlying31 hi2 hy0 hy1 hy2 rfl (by omega) u5 (k + 1) (ss.map Sl.v) rfl (HA11.out.alloc _) ⟨w11.heap.size, 0, none⟩ 1 1 [.slice (some ⟨g5, 0, none⟩) (ln + k + 1) cap5] rfl rfl (lit_any w11 _ _) (by intro u hu; rw [List.mem_singleton] at hu; subst hu; rfl) (by omega) (by unfold maxLen; omega) (by omega) (by simp; omega) (w11.heap.size + 1) (by simp) ?_; intro g6 cap6 w12 own2 hk2 at2 hlt2)))
      have HE2 : Hid (Ln w w12 base L0 ln (k + 1) d (.slice (some ⟨g5, 0, none⟩) (ln + k + 1) cap5) (.slice (some ⟨g6, 0, none⟩) (k + 1 + 1) cap6) (ss ++ [⟨some ⟨g5, 0, none⟩, ln + k + 1, cap5⟩])) := HE.out.step K1.out.1 K1.out.2.1 K1.out.2.2.1 K1.out.2.2.2 hk2 own2 at2
      clear HE K1 HA11 own2 hk2 at2 hlt2
      go_roundw
      case rel => exact ⟨k + 1, _, by omega, by go_num, HE2⟩
      case measure => simp [intOf]; omega
    · obtain rfl : k = 3 := by omega
      go_wp2
      go_ret
      exact ⟨_, _, _, rfl, HE.out⟩

end Go.Proofs.YtfmcngncaffloaaDoor

namespace Go.Proofs.YtfmcngncaffloaaDoor
open Go.RowKit
set_option maxRecDepth 100000

/-- A cell of an own row is written. -/
theorem own_set {w : World} {base : Nat} {e : TypeId} {size g n cap : Nat} {xs : List Value} (h : w.ownsRow base e size (.slice (some ⟨g, 0, none⟩) n cap) n xs) (j : Nat) (u : Value) :
    (w.setCell ⟨g, j, none⟩ u).ownsRow base e size (.slice (some ⟨g, 0, none⟩) n cap) n (xs.set j u) := by
  refine ⟨by rw [List.length_set]; exact h.1, ?_⟩
  rcases h.2 with ⟨e', _⟩ | ⟨g', cap', cur, hv, hb, hg, h1, h2, h3, h4⟩
  · cases e'
  · cases hv
    refine .inr ⟨g, cap, cur.setIfInBounds j u, rfl, hb, heap_setCell_same w g j cur e u hg, h1, h2, by rw [Array.size_setIfInBounds]; exact h3, ?_⟩
    rw [Array.toList_setIfInBounds, ← h4, List.take_set]
theorem own_frozen {w : World} {base : Nat} {e : TypeId} {size g n cap : Nat} {xs : List Value} (h : w.ownsRow base e size (.slice (some ⟨g, 0, none⟩) n cap) n xs) (j : Nat) : w.frozen? ⟨g, j, none⟩ = false := by
  rcases h.2 with ⟨e', _⟩ | ⟨g', cap', cur, hv, hb, hg, _⟩
  · cases e'
  · cases hv
    exact frozen_of_row w g j cur e hg
theorem own_cell {w : World} {base : Nat} {e : TypeId} {size g n cap : Nat} {xs : List Value} (h : w.ownsRow base e size (.slice (some ⟨g, 0, none⟩) n cap) n xs) {j : Nat} {u : Value} (hj : xs[j]? = some u) : w.cell? ⟨g, j, none⟩ = some u := by
  rw [h.cellAt j (by rw [← h.1]; exact (List.getElem?_eq_some_iff.1 hj).1)]
  exact hj
/-- The dots, as far as they are marked. -/
def part (k : Nat) (d : Wv.Dt) (ds : List Wv.Dt) : List Value := marks k d ++ flat dotCells (ds.drop k)
theorem part_zero (d : Wv.Dt) (ds : List Wv.Dt) : part 0 d ds = flat dotCells ds := rfl
theorem part_all (d : Wv.Dt) (ds : List Wv.Dt) : part ds.length d ds = marks ds.length d := by simp [part, flat]
theorem part_get (k : Nat) (d : Wv.Dt) (ds : List Wv.Dt) (hk : k < ds.length) : (part k d ds)[k * 3]? = some (I ds[k].o) ∧ (part k d ds)[k * 3 + 1]? = some (I ds[k].s) ∧ (part k d ds)[k * 3 + 2]? = some (I ds[k].i) := by
  have hm := marks_len k d
  unfold part
  rw [List.drop_eq_getElem_cons hk]
  refine ⟨?_, ?_, ?_⟩ <;> rw [List.getElem?_append_right (by omega), hm] <;> simp [flat, dotCells, show k * 3 + 1 - k * 3 = 1 by omega, show k * 3 + 2 - k * 3 = 2 by omega]
theorem part_set (k : Nat) (d : Wv.Dt) (ds : List Wv.Dt) (hk : k < ds.length) : (((part k d ds).set (k * 3) (I d.o)).set (k * 3 + 1) (I d.s)).set (k * 3 + 2) (I d.i) = part (k + 1) d ds := by
  have hm := marks_len k d
  unfold part
  rw [List.drop_eq_getElem_cons hk, marks_succ]
  rw [List.set_append_right _ _ (by omega), List.set_append_right _ _ (by omega), List.set_append_right _ _ (by omega), hm]
  simp [flat, dotCells, show k * 3 + 1 - k * 3 = 1 by omega, show k * 3 + 2 - k * 3 = 2 by omega]
/-- The blocks of a batch of own lists. -/
def InB (vC vE : Value) (ms : List Em) (b : Nat) : Prop := vC.ownBlock = some b ∨ vE.ownBlock = some b ∨ ∃ m ∈ ms, m.dv.ownBlock = some b
theorem Ob.keptB {w w' : World} {base : Nat} {vC vE : Value} {cl : List Int} {ms : List Em} (h : Ob w base vC vE cl ms) (hk : ∀ b, InB vC vE ms b → w'.heap[b]? = w.heap[b]?) : Ob w' base vC vE cl ms :=
  ⟨own_kept h.clock fun b hb => hk b (Or.inl hb), own_kept h.cells fun b hb => hk b (Or.inr (Or.inl hb)),
    fun m hm => own_kept (h.dots m hm) fun b hb => hk b (Or.inr (Or.inr ⟨m, hm, hb⟩)), h.ce, h.cd, h.dd⟩
theorem Ob.blk {w : World} {base : Nat} {vC vE : Value} {cl : List Int} {ms : List Em} (h : Ob w base vC vE cl ms) {b : Nat} (hb : InB vC vE ms b) : base ≤ b ∧ b < w.heap.size := by
  rcases hb with e | e | ⟨m, hm, e⟩
  · exact h.clock.lt b e
  · exact h.cells.lt b e
  · exact (h.dots m hm).lt b e
/-- A list of longer lists that is done: full of its mark, apart from all that is still written. -/
def Done (w : World) (Z : Nat) (vA : Value) (own : Option Nat) (v : Value) (d : Wv.Dt) : Prop :=
  ∃ (gA cA : Nat) (ss : List Sl), v = .slice (some ⟨gA, 0, none⟩) 4 cA ∧ ss.length = 4 ∧ At w (some ⟨gA, 0, none⟩) (ss.map Sl.v) ∧ Z ≤ gA ∧ gA < w.heap.size ∧ vA.ownBlock ≠ some gA ∧
    ∀ s ∈ ss, s.n ≤ 1000 ∧ ((s.a = none ∧ s.n = 0) ∨ ∃ blk, s.a = some ⟨blk, 0, none⟩ ∧ At w s.a (marks s.n d) ∧ (own = some blk ∨ Z ≤ blk) ∧ blk < w.heap.size ∧ vA.ownBlock ≠ some blk)
theorem Done.kept {w w' : World} {Z : Nat} {vA vA' : Value} {own : Option Nat} {v : Value} {d : Wv.Dt} (h : Done w Z vA own v d) (hs : w.heap.size ≤ w'.heap.size)
    (hk : ∀ k, k < w.heap.size → vA.ownBlock ≠ some k → (own = some k ∨ Z ≤ k) → w'.heap[k]? = w.heap[k]?) (hA : ∀ k, k < w.heap.size → vA.ownBlock ≠ some k → vA'.ownBlock ≠ some k) : Done w' Z vA' own v d := by
  obtain ⟨gA, cA, ss, e, hl, hat, hz, hlt, hne, hss⟩ := h
  refine ⟨gA, cA, ss, e, hl, at_block hat (hk gA hlt hne (Or.inr hz)), hz, by omega, hA gA hlt hne, fun s hs' => ?_⟩
  obtain ⟨hn, hor⟩ := hss s hs'
  refine ⟨hn, ?_⟩
  rcases hor with h0 | ⟨blk, ea, ha, hw, hb, hv⟩
  · exact Or.inl h0
  · refine Or.inr ⟨blk, ea, ?_, hw, by omega, hA blk hb hv⟩
    rw [ea] at ha ⊢
    exact at_block ha (hk blk hb hv hw)
theorem Done.full {w : World} {Z : Nat} {vA : Value} {own : Option Nat} {v : Value} {d : Wv.Dt} (h : Done w Z vA own v d) : ∃ (gA cA : Nat) (ss : List Sl), v = .slice (some ⟨gA, 0, none⟩) 4 cA ∧ ss.length = 4 ∧ (∀ k (hk : k < ss.length), w.cell? ⟨gA, k, none⟩ = some (.slice ss[k].a ss[k].n ss[k].c)) ∧ (∀ s ∈ ss, At w s.a (marks s.n d)) ∧ ∀ s ∈ ss, s.n ≤ 1000 := by
  obtain ⟨gA, cA, ss, e, hl, hat, _, _, _, hss⟩ := h
  refine ⟨gA, cA, ss, e, hl, fun k hk => ?_, fun s hs => ?_, fun s hs => (hss s hs).1⟩
  · obtain ⟨p, o, e2, hc⟩ := hat k (ss[k].v) (by simp [hk])
    cases e2
    rw [Nat.zero_add] at hc
    exact hc
  · obtain ⟨_, hor⟩ := hss s hs
    rcases hor with ⟨_, h0⟩ | ⟨blk, _, ha, _⟩
    · rw [h0]; intro j u hj; simp [marks, flat] at hj
    · exact ha
theorem Ln.done {w wr : World} {base : Nat} {L0 : Option Nat} {ln : Nat} {d : Wv.Dt} {vl vA : Value} {ss : List Sl} (h : Ln w wr base L0 ln 3 d vl vA ss) (hn : ln ≤ 150) (Z : Nat) (hZ : Z ≤ w.heap.size) (vO : Value) (hO : ∀ b, vO.ownBlock = some b → b < w.heap.size ∧ L0 ≠ some b) : Done wr Z vO L0 vA d := by
  obtain ⟨gA, cA, rfl, hge, hlt⟩ := h.all.form (by omega)
  refine ⟨gA, cA, ss, rfl, h.len, own_at h.all, by omega, hlt, fun e => by have := (hO gA e).1; omega, fun s hs => ?_⟩
  obtain ⟨h1, hor⟩ := h.full s hs
  refine ⟨by omega, ?_⟩
  rcases hor with h0 | ⟨blk, ea, ha, hw, hb, _⟩
  · exact Or.inl h0
  · refine Or.inr ⟨blk, ea, ha, ?_, hb, fun e => ?_⟩
    · rcases hw with e | e
      · exact Or.inl e
      · exact Or.inr (by omega)
    · have := hO blk e
      rcases hw with e2 | e2
      · exact this.2 e2
      · omega

end Go.Proofs.YtfmcngncaffloaaDoor

namespace Go.Proofs.YtfmcngncaffloaaDoor
open Go.RowKit
set_option maxRecDepth 100000

abbrev bCells (b : Wv.Bt) (ca ea : Option Addr) (cc ec : Nat) : Array Value := #[I b.o, I b.s, I b.t, .slice ca b.clock.length cc, .slice ea b.effs.length ec]
abbrev mark (j : Nat) : Wv.Dt := ⟨-(j : Int) - 1, 0, 0⟩
/-- Where all that is decoded lies. -/
structure Dk (w0 : World) (B Wb Z : Nat) (b : Wv.Bt) (ca ea ca2 ea2 : Option Addr) (cc ec cc2 ec2 : Nat) (ms ms2 : List Em) : Prop where
  effs : b.effs = ms.map (·.e)
  effs2 : b.effs = ms2.map (·.e)
  inB : ∀ k, InB (.slice ca b.clock.length cc) (.slice ea b.effs.length ec) ms k → w0.heap.size ≤ k ∧ k < B
  inW : ∀ k, InB (.slice ca2 b.clock.length cc2) (.slice ea2 b.effs.length ec2) ms2 k → B < k ∧ k < Wb
  ce : ∀ g, (Value.slice ca b.clock.length cc).ownBlock = some g → (Value.slice ea b.effs.length ec).ownBlock ≠ some g
  cd : ∀ m ∈ ms, ∀ g, m.dv.ownBlock = some g → (Value.slice ca b.clock.length cc).ownBlock ≠ some g ∧ (Value.slice ea b.effs.length ec).ownBlock ≠ some g
  dd : ms.Pairwise fun m m' => ∀ g, m.dv.ownBlock = some g → m'.dv.ownBlock ≠ some g
  wB : w0.heap.size ≤ B
  BW : B < Wb
  WZ : Wb < Z
theorem Dk.ne {w0 : World} {B Wb Z : Nat} {b : Wv.Bt} {ca ea ca2 ea2 : Option Addr} {cc ec cc2 ec2 : Nat} {ms ms2 : List Em} (h : Dk w0 B Wb Z b ca ea ca2 ea2 cc ec cc2 ec2 ms ms2) {i j : Nat} (hi : i < ms.length) (hj : j < ms.length) (hne : i ≠ j) {g : Nat} (hg : ms[i].dv.ownBlock = some g) : ms[j].dv.ownBlock ≠ some g := by
  rcases Nat.lt_or_ge i j with hl | hl
  · exact List.pairwise_iff_getElem.1 h.dd i j hi hj hl g hg
  · intro e
    exact List.pairwise_iff_getElem.1 h.dd j i hj hi (by omega) g e hg
/-- The first loop of Decodes, under way. -/
structure Dl (w0 wr : World) (B Wb Z : Nat) (b : Wv.Bt) (ca ea ca2 ea2 : Option Addr) (cc ec cc2 ec2 : Nat) (ms ms2 : List Em) (i : Nat) (vA : Value) (gs : List Value) : Prop where
  kB : Blk wr B (bCells b ca ea cc ec) 25
  kW : Blk wr Wb (bCells b ca2 ea2 cc2 ec2) 25
  clk : wr.ownsRow w0.heap.size 3 1 (.slice ca b.clock.length cc) b.clock.length (b.clock.map I)
  eff : wr.ownsRow w0.heap.size 43 7 (.slice ea b.effs.length ec) b.effs.length (flat Em.cells ms)
  dts : ∀ j (hj : j < ms.length), i ≤ j → wr.ownsRow w0.heap.size 40 3 ms[j].dv ms[j].e.dots.length (flat dotCells ms[j].e.dots)
  rf : Ob wr (B + 1) (.slice ca2 b.clock.length cc2) (.slice ea2 b.effs.length ec2) b.clock ms2
  all : wr.ownsRow Z 31 1 vA i gs
  done : ∀ j (hj : j < gs.length) (hj2 : j < ms.length), Done wr Z vA ms[j].dv.ownBlock gs[j] (mark j)
  below : Below w0.heap.size w0 wr
  sz : Z ≤ wr.heap.size
theorem Dl.step {w0 wr wj : World} {B Wb Z : Nat} {b : Wv.Bt} {ca ea ca2 ea2 : Option Addr} {cc ec cc2 ec2 : Nat} {ms ms2 : List Em} {i : Nat} {vA vA' g : Value} {gs : List Value} (K : Dk w0 B Wb Z b ca ea ca2 ea2 cc ec cc2 ec2 ms ms2)
    (h : Dl w0 wr B Wb Z b ca ea ca2 ea2 cc ec cc2 ec2 ms ms2 i vA gs) (hi : i < ms.length) (hs : wr.heap.size ≤ wj.heap.size)
    (hk : ∀ k, k < wr.heap.size → ms[i].dv.ownBlock ≠ some k → vA.ownBlock ≠ some k → wj.heap[k]? = wr.heap[k]?)
    (own : wj.ownsRow Z 31 1 vA' (i + 1) (gs ++ [g])) (hat : vA'.ownBlock = vA.ownBlock ∨ ∃ b, vA'.ownBlock = some b ∧ wr.heap.size ≤ b)
    (dn : Done wj Z vA' ms[i].dv.ownBlock g (mark i)) (bl : Below w0.heap.size w0 wj) : Dl w0 wj B Wb Z b ca ea ca2 ea2 cc ec cc2 ec2 ms ms2 (i + 1) vA' (gs ++ [g]) := by
  have h1 := K.wB
  have h2 := K.BW
  have h3 := K.WZ
  have h4 := h.sz
  have hgl : gs.length = i := by have := h.all.1; simpa using this
  have own_lt : ∀ k, ms[i].dv.ownBlock = some k → k < B := fun k e => (K.inB k (Or.inr (Or.inr ⟨ms[i], List.getElem_mem hi, e⟩))).2
  have vA_ge : ∀ k, vA.ownBlock = some k → Z ≤ k := fun k e => (h.all.lt k e).1
  have mid : ∀ k, B ≤ k → k < Z → wj.heap[k]? = wr.heap[k]? := fun k hb hz => hk k (by omega) (fun e => by have := own_lt k e; omega) (fun e => by have := vA_ge k e; omega)
  have hA' : ∀ k, k < wr.heap.size → vA.ownBlock ≠ some k → vA'.ownBlock ≠ some k := by
    intro k hk1 hk2
    rcases hat with e | ⟨x, e, hx⟩
    · rw [e]; exact hk2
    · rw [e]; intro e2; cases e2; omega
  refine ⟨(mid B (Nat.le_refl _) (by omega)).trans h.kB, (mid Wb (by omega) h3).trans h.kW, ?_, ?_, ?_, ?_, own, ?_, bl, by omega⟩
  · refine own_kept h.clk fun k e => hk k (h.clk.lt k e).2 (fun e2 => (K.cd _ (List.getElem_mem hi) k e2).1 e) (fun e2 => ?_)
    have := vA_ge k e2
    have := (K.inB k (Or.inl e)).2
    omega
  · refine own_kept h.eff fun k e => hk k (h.eff.lt k e).2 (fun e2 => (K.cd _ (List.getElem_mem hi) k e2).2 e) (fun e2 => ?_)
    have := vA_ge k e2
    have := (K.inB k (Or.inr (Or.inl e))).2
    omega
  · intro j hj hij
    refine own_kept (h.dts j hj (by omega)) fun k e => hk k ((h.dts j hj (by omega)).lt k e).2 (fun e2 => K.ne hi hj (by omega) e2 e) (fun e2 => ?_)
    have := vA_ge k e2
    have := (K.inB k (Or.inr (Or.inr ⟨ms[j], List.getElem_mem hj, e⟩))).2
    omega
  · exact h.rf.keptB fun k e => mid k (by have := (K.inW k e).1; omega) (by have := (K.inW k e).2; omega)
  · intro j hj hj2
    rcases Nat.lt_or_ge j gs.length with hl | hl
    · rw [List.getElem_append_left hl]
      refine (h.done j hl hj2).kept hs (fun k hk1 hk2 hor => hk k hk1 (fun e => ?_) hk2) hA'
      rcases hor with e2 | e2
      · exact K.ne hi hj2 (by omega) e e2
      · have := own_lt k e; omega
    · have hji : j = i := by simp at hj; omega
      subst hji
      rw [List.getElem_append_right hl]
      simpa [hgl] using dn
/-- Behind the first loop: what is still asked for. -/
structure Df (w0 wr : World) (B Wb Z : Nat) (b : Wv.Bt) (ca ea ca2 ea2 : Option Addr) (cc ec cc2 ec2 : Nat) (ms ms2 : List Em) (vA : Value) (gs : List Value) : Prop where
  kB : Blk wr B (bCells b ca ea cc ec) 25
  kW : Blk wr Wb (bCells b ca2 ea2 cc2 ec2) 25
  eff : At wr ea (flat Em.cells ms)
  rf : Ob wr (B + 1) (.slice ca2 b.clock.length cc2) (.slice ea2 b.effs.length ec2) b.clock ms2
  all : wr.ownsRow Z 31 1 vA b.effs.length gs
  done : ∀ j (hj : j < gs.length) (hj2 : j < ms.length), Done wr Z vA ms[j].dv.ownBlock gs[j] (mark j)
  below : Below w0.heap.size w0 wr
  sz : Z ≤ wr.heap.size
theorem Dl.fin {w0 wr : World} {B Wb Z : Nat} {b : Wv.Bt} {ca ea ca2 ea2 : Option Addr} {cc ec cc2 ec2 : Nat} {ms ms2 : List Em} {vA : Value} {gs : List Value} (h : Dl w0 wr B Wb Z b ca ea ca2 ea2 cc ec cc2 ec2 ms ms2 b.effs.length vA gs) : Df w0 wr B Wb Z b ca ea ca2 ea2 cc ec cc2 ec2 ms ms2 vA gs :=
  ⟨h.kB, h.kW, own_at' h.eff, h.rf, h.all, h.done, h.below, h.sz⟩
theorem Df.turn {w0 wr wj : World} {B Wb Z : Nat} {b : Wv.Bt} {ca ea ca2 ea2 : Option Addr} {cc ec cc2 ec2 : Nat} {ms ms2 : List Em} {vA : Value} {gs : List Value} {row : Option Nat} (K : Dk w0 B Wb Z b ca ea ca2 ea2 cc ec cc2 ec2 ms ms2)
    (h : Df w0 wr B Wb Z b ca ea ca2 ea2 cc ec cc2 ec2 ms ms2 vA gs) (hg : wr.grownBy wj row) (hr : ∀ k, row = some k → w0.heap.size ≤ k ∧ k < B ∧ ∀ m ∈ ms, m.dv.ownBlock ≠ some k) (he : At wj ea (flat Em.cells ms)) : Df w0 wj B Wb Z b ca ea ca2 ea2 cc ec cc2 ec2 ms ms2 vA gs := by
  have h2 := K.BW
  have h3 := K.WZ
  have h4 := h.sz
  have up : ∀ k, B ≤ k → k < wr.heap.size → wj.heap[k]? = wr.heap[k]? := fun k hk hz => hg.block k hz (fun e => by have := (hr k e.symm).2.1; omega)
  refine ⟨(up B (Nat.le_refl _) h.kB.lt).trans h.kB, (up Wb (by omega) h.kW.lt).trans h.kW, he, ?_, ?_, ?_, h.below.grown hg h.below.size (fun k e => (hr k e).1), Nat.le_trans h4 hg.size⟩
  · exact h.rf.keptB fun k e => up k (by have := (K.inW k e).1; omega) (h.rf.blk e).2
  · exact own_kept h.all fun k e => up k (by have := (h.all.lt k e).1; omega) (h.all.lt k e).2
  · intro j hj hj2
    refine (h.done j hj hj2).kept hg.size (fun k hk1 _ hor => hg.block k hk1 (fun e => ?_)) (fun _ _ hne => hne)
    have := hr k e.symm
    rcases hor with e2 | e2
    · exact this.2.2 _ (List.getElem_mem hj2) e2
    · omega
theorem Df.kept {w0 wr wj : World} {B Wb Z : Nat} {b : Wv.Bt} {ca ea ca2 ea2 : Option Addr} {cc ec cc2 ec2 : Nat} {ms ms2 : List Em} {vA : Value} {gs : List Value} (K : Dk w0 B Wb Z b ca ea ca2 ea2 cc ec cc2 ec2 ms ms2)
    (h : Df w0 wr B Wb Z b ca ea ca2 ea2 cc ec cc2 ec2 ms ms2 vA gs) (hb : Below wr.heap.size wr wj) : Df w0 wj B Wb Z b ca ea ca2 ea2 cc ec cc2 ec2 ms ms2 vA gs :=
  h.turn K (row := none) ⟨hb.os, hb.tape, hb.output, hb.size, fun k hk _ => hb.block k hk⟩ (fun k e => by cases e) (h.eff.kept hb)
/-- The Clock, as far as it is marked. -/
def cpart (k : Nat) (cl : List Int) : List Value := List.replicate k (I (-1)) ++ (cl.drop k).map I
theorem cpart_get (k : Nat) (cl : List Int) (hk : k < cl.length) : (cpart k cl)[k]? = some (I cl[k]) := by
  unfold cpart
  rw [List.getElem?_append_right (by simp), List.length_replicate]
  simp [hk]
theorem cpart_set (k : Nat) (cl : List Int) (hk : k < cl.length) : (cpart k cl).set k (I (-1)) = cpart (k + 1) cl := by
  unfold cpart
  rw [List.drop_eq_getElem_cons hk, List.set_append_right _ _ (by simp), List.length_replicate, List.replicate_succ', Nat.sub_self, List.map_cons, List.set_cons_zero, List.append_assoc]
  rfl
theorem cpart_all (cl : List Int) : cpart cl.length cl = List.replicate cl.length (I (-1)) := by simp [cpart]
theorem grown_app {w wq w11 : World} {o : Obj} {row : Option Nat} {v : Value} (h : w.grownBy wq row) (hg : (wq.alloc o).grownBy w11 v.ownBlock) (hv : v.ownBlock = row ∨ ∃ b, v.ownBlock = some b ∧ w.heap.size ≤ b) : w.grownBy w11 row := by
  have hs := h.size
  have hs2 := hg.size
  simp at hs2
  refine ⟨hg.os.trans h.os, hg.tape.trans h.tape, hg.output.trans h.output, by omega, fun k hk hr => ?_⟩
  rw [hg.block k (by simp; omega) (fun e => ?_), Below.heap_alloc wq _ k (by omega), h.block k hk hr]
  rcases hv with e2 | ⟨b, e2, hb⟩
  · exact hr (e.trans e2)
  · rw [e2] at e; cases e; omega
def negE : Em := ⟨⟨-1, 0, 0, ⟨0, 0, 0⟩, []⟩, none, 0⟩
theorem negE_one : ∀ u ∈ [I (-1), I 0, I 0, I 0, I 0, I 0, Value.slice none 0 0], u.oneCell' = true := em_one negE
theorem own_slice {w : World} {base : Nat} {e : TypeId} {size n : Nat} {v : Value} {xs : List Value} (h : w.ownsRow base e size v n xs) : ∃ a c, v = .slice a n c := by
  rcases h.2 with ⟨rfl, rfl⟩ | ⟨g, cap, cur, rfl, _⟩
  · exact ⟨none, 0, rfl⟩
  · exact ⟨_, _, rfl⟩
theorem infoSS : (Tryd.prog.info? 31).map (fun i => (i.zero, i.size, i.bytes)) = some (some (.slice none 0 0), 1, 24) := by kernel_rfl

end Go.Proofs.YtfmcngncaffloaaDoor
