import Derived.Test.YtfmcngncaffloaaGreatDoorG10HpA
import Derived.BigRegion
import Derived.BigQuiet
import Derived.Deep.AppendLies
import Derived.Test.YtfmcngncaffloaaGreatDoorG04PoA
import Derived.ArgAppend
namespace Go.Proofs.YtfmcngncaffloaaGreatDoor
open Go.RowKit
set_option maxRecDepth 100000

/-- A heap in memory: its block, and its items in a row of their own. -/
structure HpIn (w : World) (hp : Nat) (v : Value) (bs : List Bm) : Prop where
  blk : Blk w hp #[v, .func (.func 62) #[] #[]] 178
  row : w.ownsRow 0 124 5 v bs.length (flat Bm.cells bs)
theorem HpIn.kept {w w' : World} {hp : Nat} {v : Value} {bs : List Bm} (h : HpIn w hp v bs) (hb : Below w.heap.size w w') : HpIn w' hp v bs :=
  ⟨h.blk.kept hb h.blk.lt, own_kept h.row (fun g hg => hb.block g (h.row.lt g hg).2)⟩
theorem HpIn.ne {w : World} {hp g n cap : Nat} {bs : List Bm} (h : HpIn w hp (.slice (some ⟨g, 0, none⟩) n cap) bs) : hp ≠ g := by
  rintro rfl
  rcases h.row.2 with ⟨e1, _⟩ | ⟨g', cap', cur, e1, hb, hc, _⟩
  · cases e1
  · cases e1
    have := h.blk.symm.trans hc
    simp at this
theorem bats_at {w : World} {g cap n : Nat} {bs : List Bm} (h : w.ownsRow 0 124 5 (.slice (some ⟨g, 0, none⟩) n cap) bs.length (flat Bm.cells bs)) (k : Nat) (hk : k < bs.length) :
    w.cell? ⟨g, k * 5, none⟩ = some (I bs[k].b.o) ∧ w.cell? ⟨g, k * 5 + 1, none⟩ = some (I bs[k].b.s) ∧ w.cell? ⟨g, k * 5 + 2, none⟩ = some (I bs[k].b.t) ∧ w.cell? ⟨g, k * 5 + 3, none⟩ = some (.slice bs[k].ca bs[k].b.clock.length bs[k].cc) ∧ w.cell? ⟨g, k * 5 + 4, none⟩ = some (.slice bs[k].ea bs[k].b.effs.length bs[k].ec) := by
  have hc := h.cells (g := g) rfl
  have hx : ∀ j (_ : j < 5) u, (bs[k].cells)[j]? = some u → w.cell? ⟨g, k * 5 + j, none⟩ = some u := fun j hj u hu => by
    have := hc (k * 5 + j) u ((flat_get Bm.cells 5 bmCells_len bs k hk j hj).trans hu)
    rw [Addr.add_lit, Nat.zero_add] at this
    exact this
  exact ⟨hx 0 (by omega) _ rfl, hx 1 (by omega) _ rfl, hx 2 (by omega) _ rfl, hx 3 (by omega) _ rfl, hx 4 (by omega) _ rfl⟩
theorem own_free {w : World} {base : Nat} {e : TypeId} {s n g cap : Nat} {xs : List Value} (h : w.ownsRow base e s (.slice (some ⟨g, 0, none⟩) n cap) n xs) (j : Nat) : w.frozen? ⟨g, j, none⟩ = false := by
  rcases h.2 with ⟨e1, _⟩ | ⟨g', cap', cur, e1, hb, hc, _⟩
  · cases e1
  · cases e1; exact frozen_of_row w g j cur e hc
/-- A batch written into a row. -/
abbrev put5b (w : World) (g o : Nat) (m : Bm) : World := ((((w.setCell ⟨g, o, none⟩ (I m.b.o)).setCell ⟨g, o + 1, none⟩ (I m.b.s)).setCell ⟨g, o + 2, none⟩ (I m.b.t)).setCell ⟨g, o + 3, none⟩ (.slice m.ca m.b.clock.length m.cc)).setCell ⟨g, o + 4, none⟩ (.slice m.ea m.b.effs.length m.ec)
theorem set5_flat (bs : List Bm) (k : Nat) (m : Bm) : ((((((flat Bm.cells bs).set (k * 5) (I m.b.o)).set (k * 5 + 1) (I m.b.s)).set (k * 5 + 2) (I m.b.t)).set (k * 5 + 3) (.slice m.ca m.b.clock.length m.cc)).set (k * 5 + 4) (.slice m.ea m.b.effs.length m.ec)) = flat Bm.cells (bs.set k m) := by
  have hl : (flat Bm.cells bs).length = bs.length * 5 := flat_len Bm.cells 5 bmCells_len bs
  apply List.ext_getElem?
  intro j
  rcases Nat.lt_or_ge j (bs.length * 5) with hj | hj
  · rw [flat_set Bm.cells 5 bmCells_len bs k m j hj]
    simp only [List.getElem?_set, List.length_set, hl]
    by_cases h0 : j = k * 5
    · subst h0; simp [Bm.cells, hj]
    by_cases h1 : j = k * 5 + 1
    · subst h1; simp [Bm.cells, hj]
    by_cases h2 : j = k * 5 + 2
    · subst h2; simp [Bm.cells, hj]
    by_cases h3 : j = k * 5 + 3
    · subst h3; simp [Bm.cells, hj]
    by_cases h4 : j = k * 5 + 4
    · subst h4; simp [Bm.cells, hj]
    rw [if_neg (by omega), if_neg (by omega), if_neg (by omega), if_neg (by omega), if_neg (by omega), if_neg (by omega)]
  · rw [List.getElem?_eq_none (by simp only [List.length_set, hl]; omega), List.getElem?_eq_none (by rw [flat_len Bm.cells 5 bmCells_len, List.length_set]; omega)]
theorem own_put5 {w : World} {g n cap : Nat} {bs : List Bm} (h : w.ownsRow 0 124 5 (.slice (some ⟨g, 0, none⟩) n cap) n (flat Bm.cells bs)) (k : Nat) (m : Bm) :
    (put5b w g (k * 5) m).ownsRow 0 124 5 (.slice (some ⟨g, 0, none⟩) n cap) n (flat Bm.cells (bs.set k m)) := by
  rw [← set5_flat]
  exact own_setN (own_setN (own_setN (own_setN (own_setN h _ _) _ _) _ _) _ _) _ _
theorem put5b_other {w : World} {g o : Nat} {m : Bm} {k : Nat} (h : k ≠ g) : (put5b w g o m).heap[k]? = w.heap[k]? := by
  unfold put5b
  rw [heap_setCell_other _ ⟨g, o + 4, none⟩ k _ h, heap_setCell_other _ ⟨g, o + 3, none⟩ k _ h, heap_setCell_other _ ⟨g, o + 2, none⟩ k _ h, heap_setCell_other _ ⟨g, o + 1, none⟩ k _ h, heap_setCell_other _ ⟨g, o, none⟩ k _ h]
theorem put5b_grown (w : World) (g o : Nat) (m : Bm) : Tch (fun j => j = g) w (put5b w g o m) :=
  ((((Tch.refl (fun j => j = g) w).setCell ⟨g, o, none⟩ _ (Or.inl rfl)).setCell ⟨g, o + 1, none⟩ _ (Or.inl rfl)).setCell ⟨g, o + 2, none⟩ _ (Or.inl rfl)).setCell ⟨g, o + 3, none⟩ _ (Or.inl rfl) |>.setCell ⟨g, o + 4, none⟩ _ (Or.inl rfl)
/-- Two items change places. -/
def swapL (bs : List Bm) (i j : Nat) : List Bm := match bs[i]?, bs[j]? with | some x, some y => (bs.set i y).set j x | _, _ => bs
theorem swapL_len (bs : List Bm) (i j : Nat) : (swapL bs i j).length = bs.length := by
  unfold swapL; split <;> simp

set_option maxHeartbeats 800000 in
theorem hswap_any (hp g cap i j : Nat) (bs : List Bm) (w : World) (h : HpIn w hp (.slice (some ⟨g, 0, none⟩) bs.length cap) bs) (hi : i < bs.length) (hj : j < bs.length) (hij : i ≠ j) :
    Calls Tryz.prog 208 #[.pointer (some ⟨hp, 0, none⟩), I i, I j] w fun e w' => e = .returned (.tuple #[]) ∧ HpIn w' hp (.slice (some ⟨g, 0, none⟩) bs.length cap) (swapL bs i j) ∧ Tch (fun k => k = g) w w' := by
  have HP : Hid (HpIn w hp (.slice (some ⟨g, 0, none⟩) bs.length cap) bs) := h
  obtain ⟨a0, a1, a2, a3, a4⟩ := bats_at h.row i hi
  obtain ⟨b0, b1, b2, b3, b4⟩ := bats_at h.row j hj
  have c0 : w.cell? ⟨hp, 0, none⟩ = some (.slice (some ⟨g, 0, none⟩) bs.length cap) := h.blk.cell 0
  have HF : Hid (∀ k, w.frozen? ⟨g, k, none⟩ = false) := fun k => own_free h.row k
  have hii : (i : Int) < bs.length := by omega
  have hjj : (j : Int) < bs.length := by omega
  clear h
  go_enter Tryz.func208, Tryz.ntmps208
  have HS : Hid (swapL bs i j = (bs.set i bs[j]).set j bs[i]) := by
    show _ = _
    unfold swapL
    rw [List.getElem?_eq_getElem hi, List.getElem?_eq_getElem hj]
  have HT : Hid (Tch (fun k => k = g) w (put5b (put5b w g (i * 5) bs[j]) g (j * 5) bs[i]).drew) := ((put5b_grown w g (i * 5) bs[j]).then (put5b_grown _ g (j * 5) bs[i])).drew
  have HW : Hid (HpIn (put5b (put5b w g (i * 5) bs[j]) g (j * 5) bs[i]).drew hp (.slice (some ⟨g, 0, none⟩) bs.length cap) (swapL bs i j)) := by
    refine ⟨?_, ?_⟩
    · exact HT.out.blk HP.out.blk HP.out.ne
    · rw [swapL_len, HS.out]
      exact (own_put5 (own_put5 HP.out.row i _) j _).drew
  clear HP HS
  generalize bs[i] = x at *
  generalize bs[j] = y at *
  go_wp2_with fail
  have f0 := HF.out (i * 5)
  have f1 := HF.out (i * 5 + 1)
  have f2 := HF.out (i * 5 + 2)
  have f3 := HF.out (i * 5 + 3)
  have f4 := HF.out (i * 5 + 4)
  have g0 := HF.out (j * 5)
  have g1 := HF.out (j * 5 + 1)
  have g2 := HF.out (j * 5 + 2)
  have g3 := HF.out (j * 5 + 3)
  have g4 := HF.out (j * 5 + 4)
  go_region
  go_end0
  exact ⟨rfl, HW.out, HT.out⟩

end Go.Proofs.YtfmcngncaffloaaGreatDoor

namespace Go.Proofs.YtfmcngncaffloaaGreatDoor
open Go.RowKit
set_option maxRecDepth 100000

/-- The lesser of the item l and the item c, by its place. -/
def updP {α : Type} (less : α → α → Bool) (bs : List α) (l c : Nat) : Nat := match bs[c]?, bs[l]? with | some x, some y => if less x y then c else l | _, _ => l
/-- The place of the least among the item number i and its children. -/
def leastP {α : Type} (less : α → α → Bool) (bs : List α) (i : Nat) : Nat := updP less bs (updP less bs i (2 * i + 1)) (2 * i + 2)
def lessM (x y : Bm) : Bool := earlierB x.b y.b
theorem updP_lt {α : Type} (less : α → α → Bool) (bs : List α) (l c : Nat) (hl : l < bs.length) : updP less bs l c < bs.length := by
  unfold updP
  split
  · rename_i x y hx hy
    split
    · exact (List.getElem?_eq_some_iff.1 hx).1
    · exact hl
  · exact hl
theorem updP_out {α : Type} (less : α → α → Bool) (bs : List α) (l c : Nat) (hc : bs.length ≤ c) : updP less bs l c = l := by
  unfold updP
  rw [List.getElem?_eq_none hc]
theorem updP_in {α : Type} (less : α → α → Bool) (bs : List α) (l c : Nat) (hc : c < bs.length) (hl : l < bs.length) : updP less bs l c = if less bs[c] bs[l] then c else l := by
  unfold updP
  rw [List.getElem?_eq_getElem hc, List.getElem?_eq_getElem hl]
/-- What is found behind k children. -/
def leastTo {α : Type} (less : α → α → Bool) (bs : List α) (i : Nat) : Nat → Nat
  | 0 => i
  | k + 1 => updP less bs (leastTo less bs i k) (2 * i + 1 + k)
theorem leastTo_lt {α : Type} (less : α → α → Bool) (bs : List α) (i k : Nat) (hi : i < bs.length) : leastTo less bs i k < bs.length := by
  induction k with
  | zero => exact hi
  | succ k ih => exact updP_lt less bs _ _ ih
theorem leastTo_out {α : Type} (less : α → α → Bool) (bs : List α) (i k : Nat) (h : bs.length ≤ 2 * i + 1 + k) (hk : k ≤ 2) : leastTo less bs i k = leastP less bs i := by
  have h2 : leastP less bs i = leastTo less bs i 2 := rfl
  rw [h2]
  rcases (by omega : k = 0 ∨ k = 1 ∨ k = 2) with rfl | rfl | rfl
  · show i = updP less bs (updP less bs i (2 * i + 1 + 0)) (2 * i + 1 + 1)
    rw [updP_out less bs _ _ (by omega), updP_out less bs _ _ (by omega)]
  · show _ = updP less bs _ (2 * i + 1 + 1)
    rw [updP_out less bs _ (2 * i + 1 + 1) (by omega)]
  · rfl

set_option maxHeartbeats 800000 in
theorem hleast_any (hp g cap i : Nat) (bs : List Bm) (w : World) (h : HpIn w hp (.slice (some ⟨g, 0, none⟩) bs.length cap) bs) (hi : i < bs.length) (hl : bs.length ≤ 1048576) :
    Calls Tryz.prog 207 #[.pointer (some ⟨hp, 0, none⟩), I i] w fun e w' => e = .returned (I (leastP lessM bs i : Nat)) ∧ Below w.heap.size w w' := by
  have HP : Hid (HpIn w hp (.slice (some ⟨g, 0, none⟩) bs.length cap) bs) := h
  clear h
  have hw1 : IntKind.i64.wrap (2 * (i : Int)) = 2 * (i : Int) := by rw [IntKind.wrap_i64]; omega
  have hw2 : IntKind.i64.wrap (2 * (i : Int) + 1) = 2 * (i : Int) + 1 := by rw [IntKind.wrap_i64]; omega
  have hw3 : IntKind.i64.wrap (2 * (i : Int) + 2) = 2 * (i : Int) + 2 := by rw [IntKind.wrap_i64]; omega
  go_enter Tryz.func207, Tryz.ntmps207
  go_wp2_with fail
  go_loopw [5, 6] (fun v5 v6 wr => ∃ k : Nat, k ≤ 2 ∧ v5 = I (leastTo lessM bs i k : Nat) ∧ v6 = I (2 * i + 1 + k : Nat) ∧ Hid (Below w.heap.size w wr)) (fun _ v6 _ => 2 * i + 3 - (intOf v6).toNat)
  case atStart => exact ⟨0, by omega, rfl, by simp, Below.refl _ _⟩
  case round =>
    obtain ⟨k, hk, rfl, rfl, HB⟩ := hrel
    have HPr : Hid (HpIn wr hp (.slice (some ⟨g, 0, none⟩) bs.length cap) bs) := HP.out.kept HB.out
    have c0 : wr.cell? ⟨hp, 0, none⟩ = some (.slice (some ⟨g, 0, none⟩) bs.length cap) := HPr.out.blk.cell 0
    have c1 : wr.cell? ⟨hp, 1, none⟩ = some (.func (.func 62) #[] #[]) := HPr.out.blk.cell 1
    have hlt := leastTo_lt lessM bs i k hi
    have HN : Hid (leastTo lessM bs i (k + 1) = updP lessM bs (leastTo lessM bs i k) (2 * i + 1 + k)) := rfl
    have HO : Hid (bs.length ≤ 2 * i + 1 + k → leastTo lessM bs i k = leastP lessM bs i) := fun h => leastTo_out lessM bs i k h hk
    have HO2 : Hid (k = 2 → leastTo lessM bs i k = leastP lessM bs i) := fun h => by rw [h]; rfl
    have HC : Hid (2 * i + 1 + (k + 1) = 2 * i + 1 + k + 1) := by show _ = _; omega
    obtain ⟨c, hc⟩ : ∃ c, c = 2 * i + 1 + k := ⟨_, rfl⟩
    obtain ⟨l, hle⟩ : ∃ l, l = leastTo lessM bs i k := ⟨_, rfl⟩
    rw [← hc] at HN HO HC ⊢
    rw [← hle] at hlt HN HO HO2 ⊢
    by_cases h1 : c < bs.length ∧ k < 2
    · obtain ⟨h1a, hk2⟩ := h1
      have hca : (c : Int) ≤ 2 * (i : Int) + 2 := by omega
      have hcb : (c : Int) < bs.length := by omega
      have hll : (l : Int) < bs.length := by omega
      have HU : Hid (updP lessM bs l c = if lessM bs[c] bs[l] then c else l) := updP_in lessM bs l c h1a hlt
      obtain ⟨a0, a1, a2, a3, a4⟩ := bats_at HPr.out.row c h1a
      obtain ⟨b0, b1, b2, b3, b4⟩ := bats_at HPr.out.row l hlt
      have hw4 : IntKind.i64.wrap ((c : Int) + 1) = (c : Int) + 1 := by rw [IntKind.wrap_i64]; omega
      clear hc hle HO HO2 HPr
      generalize bs[c] = x at *
      generalize bs[l] = y at *
      go_wp2_with fail
      go_region_held3 (fun w' => w'.cell? ⟨hp, 0, none⟩ = some (.slice (some ⟨g, 0, none⟩) bs.length cap) ∧ w'.cell? ⟨hp, 1, none⟩ = some (.func (.func 62) #[] #[]) ∧ w'.cell? ⟨g, c * 5, none⟩ = some (I x.b.o) ∧ w'.cell? ⟨g, c * 5 + 1, none⟩ = some (I x.b.s) ∧ w'.cell? ⟨g, c * 5 + 2, none⟩ = some (I x.b.t) ∧ w'.cell? ⟨g, c * 5 + 3, none⟩ = some (.slice x.ca x.b.clock.length x.cc) ∧ w'.cell? ⟨g, c * 5 + 4, none⟩ = some (.slice x.ea x.b.effs.length x.ec) ∧ w'.cell? ⟨g, l * 5, none⟩ = some (I y.b.o) ∧ w'.cell? ⟨g, l * 5 + 1, none⟩ = some (I y.b.s) ∧ w'.cell? ⟨g, l * 5 + 2, none⟩ = some (I y.b.t) ∧ w'.cell? ⟨g, l * 5 + 3, none⟩ = some (.slice y.ca y.b.clock.length y.cc) ∧ w'.cell? ⟨g, l * 5 + 4, none⟩ = some (.slice y.ea y.b.effs.length y.ec)) (first | go_keep | (refine ⟨cell_kept hb0 ?_, cell_kept hb0 ?_, cell_kept hb0 ?_, cell_kept hb0 ?_, cell_kept hb0 ?_, cell_kept hb0 ?_, cell_kept hb0 ?_, cell_kept hb0 ?_, cell_kept hb0 ?_, cell_kept hb0 ?_, cell_kept hb0 ?_, cell_kept hb0 ?_⟩ <;> go_keep))
        (first | (go_at_call 62; refine (earlier_any x y _).mono ?_; rintro e w1 ⟨rfl, hb0⟩))
      have HB1 : Hid (Below w.heap.size w w1) := HB.out.trans ((Below.refl _ _).drew.trans hb0 |>.mono HB.out.size)
      clear HB c0 c1 hb0
      have HU2 : Hid (updP lessM bs l c = if earlierB x.b y.b then c else l) := HU.out
      clear HU
      generalize earlierB x.b y.b = bl at *
      cases bl
      · go_wp2_with fail
        go_roundw
        case rel => exact ⟨k + 1, by omega, by rw [HN.out, HU2.out]; rfl, by rw [HC.out]; go_num, HB1⟩
        case measure => simp [intOf]; omega
      · go_wp2_with fail
        go_roundw
        case rel => exact ⟨k + 1, by omega, by rw [HN.out, HU2.out]; rfl, by rw [HC.out]; go_num, HB1⟩
        case measure => simp [intOf]; omega
    · have HL : Hid (l = leastP lessM bs i) := by
        by_cases hk2 : k = 2
        · exact HO2.out hk2
        · exact HO.out (by omega)
      clear HO HO2 HN HC hlt
      by_cases h2 : k < 2
      · have hca : (c : Int) ≤ 2 * (i : Int) + 2 := by omega
        have hcb : ¬ (c : Int) < bs.length := by omega
        clear h1 hc hle HPr
        go_wp2
        go_ret
        exact ⟨by show _ = _; rw [HL.out]; rfl, HB.out⟩
      · have hca : ¬ (c : Int) ≤ 2 * (i : Int) + 2 := by omega
        clear h1 hc hle HPr
        go_wp2
        go_ret
        exact ⟨by show _ = _; rw [HL.out]; rfl, HB.out⟩

end Go.Proofs.YtfmcngncaffloaaGreatDoor

namespace Go.Proofs.YtfmcngncaffloaaGreatDoor
open Go.RowKit
set_option maxRecDepth 100000

/-- Two items change places. -/
def swapP {α : Type} (bs : List α) (i j : Nat) : List α := match bs[i]?, bs[j]? with | some x, some y => (bs.set i y).set j x | _, _ => bs
theorem swapP_len {α : Type} (bs : List α) (i j : Nat) : (swapP bs i j).length = bs.length := by
  unfold swapP; split <;> simp
theorem swapL_eq (bs : List Bm) (i j : Nat) : swapL bs i j = swapP bs i j := by
  unfold swapL swapP
  cases bs[i]? <;> cases bs[j]? <;> rfl
theorem updP_le {α : Type} (less : α → α → Bool) (bs : List α) (l c : Nat) : updP less bs l c = l ∨ updP less bs l c = c := by
  unfold updP
  split
  · split
    · exact Or.inr rfl
    · exact Or.inl rfl
  · exact Or.inl rfl
theorem leastP_ge {α : Type} (less : α → α → Bool) (bs : List α) (i : Nat) : i ≤ leastP less bs i := by
  unfold leastP
  rcases updP_le less bs (updP less bs i (2 * i + 1)) (2 * i + 2) with h | h <;> rw [h]
  · rcases updP_le less bs i (2 * i + 1) with h | h <;> rw [h] <;> omega
  · omega
theorem leastP_lt {α : Type} (less : α → α → Bool) (bs : List α) (i : Nat) (hi : i < bs.length) : leastP less bs i < bs.length := updP_lt less bs _ _ (updP_lt less bs _ _ hi)
/-- An item goes down as long as a child is less. -/
def sinkP {α : Type} (less : α → α → Bool) (bs : List α) (i : Nat) : List α :=
  if _h : leastP less bs i ≠ i ∧ i < bs.length then sinkP less (swapP bs i (leastP less bs i)) (leastP less bs i) else bs
  termination_by bs.length - i
  decreasing_by
  rw [swapP_len]
  have h1 := leastP_ge less bs i
  have h2 := leastP_lt less bs i _h.2
  have := _h.1
  omega
/-- An item goes up as long as it is less than its parent. -/
def riseP {α : Type} (less : α → α → Bool) (bs : List α) (i : Nat) : List α :=
  if _h : 0 < i ∧ updP less bs ((i - 1) / 2) i = i then riseP less (swapP bs i ((i - 1) / 2)) ((i - 1) / 2) else bs
  termination_by i
  decreasing_by omega

set_option maxHeartbeats 800000 in
theorem hsink_any (hp g cap i : Nat) (bs : List Bm) (w : World) (h : HpIn w hp (.slice (some ⟨g, 0, none⟩) bs.length cap) bs) (hi : i < bs.length) (hl : bs.length ≤ 1048576) :
    Calls Tryz.prog 187 #[.pointer (some ⟨hp, 0, none⟩), I i] w fun e w' => e = .returned (.tuple #[]) ∧ HpIn w' hp (.slice (some ⟨g, 0, none⟩) bs.length cap) (sinkP lessM bs i) ∧ Tch (fun k => k = g) w w' := by
  have HP : Hid (HpIn w hp (.slice (some ⟨g, 0, none⟩) bs.length cap) bs) := h
  have hgw : g < w.heap.size := (h.row.lt g rfl).2
  clear h
  go_enter Tryz.func187, Tryz.ntmps187
  go_wp2_with fail
  refine (hleast_any hp g cap i bs w HP.out hi hl).mono ?_
  rintro e w1 ⟨rfl, hb1⟩
  have HP1 : Hid (HpIn w1 hp (.slice (some ⟨g, 0, none⟩) bs.length cap) bs) := HP.out.kept hb1
  have HT1 : Hid (Tch (fun k => k = g) w w1) := Tch.below hb1
  clear hb1 HP
  go_wp2_with fail
  go_loopw [1, 4] (fun v1 v4 wr => ∃ (i' : Nat) (bs' : List Bm), v1 = I i' ∧ v4 = I (leastP lessM bs' i' : Nat) ∧ i' < bs'.length ∧ bs'.length = bs.length ∧ Hid (sinkP lessM bs' i' = sinkP lessM bs i) ∧ Hid (HpIn wr hp (.slice (some ⟨g, 0, none⟩) bs.length cap) bs') ∧ Hid (Tch (fun k => k = g) w wr)) (fun v1 _ _ => bs.length - (intOf v1).toNat)
  case atStart => exact ⟨i, bs, rfl, rfl, hi, rfl, rfl, HP1, HT1⟩
  case round =>
    obtain ⟨i', bs', rfl, rfl, hi', hlen, HS, HP, HT⟩ := hrel
    clear HP1 HT1
    have hge := leastP_ge lessM bs' i'
    have hlt := leastP_lt lessM bs' i' hi'
    have HQ : Hid (sinkP lessM bs' i' = if leastP lessM bs' i' ≠ i' ∧ i' < bs'.length then sinkP lessM (swapP bs' i' (leastP lessM bs' i')) (leastP lessM bs' i') else bs') := by
      show _ = _
      rw [sinkP]
      split <;> rfl
    obtain ⟨l, hle⟩ : ∃ l, l = leastP lessM bs' i' := ⟨_, rfl⟩
    rw [← hle] at hge hlt HQ ⊢
    clear hle
    by_cases hne : l = i'
    · subst hne
      have HF : Hid (HpIn wr hp (.slice (some ⟨g, 0, none⟩) bs.length cap) (sinkP lessM bs i)) := by
        show HpIn _ _ _ _
        rw [← HS.out, HQ.out, if_neg (by simp)]
        exact HP.out
      clear HP HS HQ
      go_wp2
      go_end0
      exact ⟨rfl, HF.out, HT.out⟩
    · have hni : ¬ (l : Int) = i' := by omega
      have HQ2 : Hid (sinkP lessM (swapP bs' i' l) l = sinkP lessM bs i) := by
        show _ = _
        rw [← HS.out, HQ.out, if_pos ⟨hne, hi'⟩]
      clear HQ HS
      go_wp2_with fail
      have HPB : Hid (HpIn wr hp (.slice (some ⟨g, 0, none⟩) bs'.length cap) bs') := by show HpIn _ _ _ _; rw [hlen]; exact HP.out
      refine (hswap_any hp g cap i' l bs' wr HPB.out hi' hlt (by omega)).mono ?_
      rintro e w2 ⟨rfl, hp2, hT2⟩
      have HP2 : Hid (HpIn w2 hp (.slice (some ⟨g, 0, none⟩) (swapP bs' i' l).length cap) (swapP bs' i' l)) := by show HpIn _ _ _ _; rw [swapP_len, ← swapL_eq]; exact hp2
      have HT2 : Hid (Tch (fun k => k = g) w w2) := HT.out.then hT2
      clear hp2 hT2 HP HPB HT
      go_wp2_with fail
      refine (hleast_any hp g cap l (swapP bs' i' l) w2 HP2.out (by rw [swapP_len]; exact hlt) (by rw [swapP_len]; omega)).mono ?_
      rintro e w3 ⟨rfl, hb3⟩
      have HP3 : Hid (HpIn w3 hp (.slice (some ⟨g, 0, none⟩) bs.length cap) (swapP bs' i' l)) := by
        have := HP2.out.kept hb3
        rw [swapP_len, hlen] at this
        exact this
      have HT3 : Hid (Tch (fun k => k = g) w w3) := HT2.out.then (Tch.below hb3)
      have HLn : Hid ((swapP bs' i' l).length = bs'.length) := swapP_len bs' i' l
      clear hb3 HP2 HT2
      go_wp2_with fail
      go_roundw
      case rel => exact ⟨l, swapP bs' i' l, rfl, rfl, by rw [HLn.out]; exact hlt, by rw [HLn.out]; exact hlen, HQ2, HP3, HT3⟩
      case measure => simp [intOf]; omega

end Go.Proofs.YtfmcngncaffloaaGreatDoor

namespace Go.Proofs.YtfmcngncaffloaaGreatDoor
open Go.RowKit
set_option maxRecDepth 100000

theorem rise_step (bs : List Bm) (i : Nat) (hi : i < bs.length) (h0 : 0 < i) : riseP lessM bs i = if lessM bs[i] (bs[(i - 1) / 2]'(by omega)) then riseP lessM (swapP bs i ((i - 1) / 2)) ((i - 1) / 2) else bs := by
  have hp : (i - 1) / 2 < bs.length := by omega
  have hu := updP_in lessM bs ((i - 1) / 2) i hi hp
  rw [riseP]
  by_cases hq : lessM bs[i] (bs[(i - 1) / 2]'hp) = true
  · rw [if_pos hq] at hu ⊢
    rw [dif_pos ⟨h0, hu⟩]
  · rw [if_neg hq] at hu ⊢
    rw [dif_neg (by rintro ⟨_, h⟩; rw [hu] at h; omega)]
theorem rise_zero (bs : List Bm) : riseP lessM bs 0 = bs := by rw [riseP, dif_neg (by omega)]

set_option maxHeartbeats 800000 in
theorem hrise_any (hp g cap i : Nat) (bs : List Bm) (w : World) (h : HpIn w hp (.slice (some ⟨g, 0, none⟩) bs.length cap) bs) (hi : i < bs.length) (hl : bs.length ≤ 1048576) :
    Calls Tryz.prog 188 #[.pointer (some ⟨hp, 0, none⟩), I i] w fun e w' => e = .returned (.tuple #[]) ∧ HpIn w' hp (.slice (some ⟨g, 0, none⟩) bs.length cap) (riseP lessM bs i) ∧ Tch (fun k => k = g) w w' := by
  have HP0 : Hid (HpIn w hp (.slice (some ⟨g, 0, none⟩) bs.length cap) bs) := h
  clear h
  have hq0 : ∀ i : Nat, i ≤ 1048576 → IntKind.i64.wrap ((i : Int) - 1) = (i : Int) - 1 := fun i _ => by rw [IntKind.wrap_i64]; omega
  have hq1 : ∀ i : Nat, i ≤ 1048576 → IntKind.i64.wrap (((i : Int) - 1).tdiv 2) = (((i - 1) / 2 : Nat) : Int) := fun i _ => by
    have : ((i : Int) - 1).tdiv 2 = (((i - 1) / 2 : Nat) : Int) := by
      rcases Nat.eq_zero_or_pos i with rfl | h
      · rfl
      · rw [show (i : Int) - 1 = ((i - 1 : Nat) : Int) by omega]
        rfl
    rw [this, IntKind.wrap_i64]
    omega
  have hw0 := hq0 i (by omega)
  have hw1 := hq1 i (by omega)
  go_enter Tryz.func188, Tryz.ntmps188
  go_wp2_with fail
  go_loopw [1, 4] (fun v1 v4 wr => ∃ (i' : Nat) (bs' : List Bm), v1 = I i' ∧ v4 = I ((i' - 1) / 2 : Nat) ∧ i' < bs'.length ∧ bs'.length = bs.length ∧ Hid (riseP lessM bs' i' = riseP lessM bs i) ∧ Hid (HpIn wr hp (.slice (some ⟨g, 0, none⟩) bs.length cap) bs') ∧ Hid (Tch (fun k => k = g) w wr)) (fun v1 _ _ => (intOf v1).toNat)
  case atStart => exact ⟨i, bs, rfl, by simp, hi, rfl, rfl, HP0, Tch.refl _ _⟩
  case round =>
    obtain ⟨i', bs', rfl, rfl, hi', hlen, HS, HP, HT⟩ := hrel
    clear HP0 hw0 hw1
    obtain ⟨j, hj⟩ : ∃ j, j = (i' - 1) / 2 := ⟨_, rfl⟩
    rw [← hj]
    by_cases h0 : 0 < i'
    · have HR := rise_step bs' i' hi' h0
      have hjl : j < bs'.length := by omega
      have HR2 : Hid (riseP lessM bs' i' = if lessM bs'[i'] bs'[j] then riseP lessM (swapP bs' i' j) j else bs') := by
        show _ = _
        rw [HR]
        subst hj
        rfl
      have HPB : Hid (HpIn wr hp (.slice (some ⟨g, 0, none⟩) bs'.length cap) bs') := by show HpIn _ _ _ _; rw [hlen]; exact HP.out
      have c0 : wr.cell? ⟨hp, 0, none⟩ = some (.slice (some ⟨g, 0, none⟩) bs.length cap) := HP.out.blk.cell 0
      have c1 : wr.cell? ⟨hp, 1, none⟩ = some (.func (.func 62) #[] #[]) := HP.out.blk.cell 1
      obtain ⟨a0, a1, a2, a3, a4⟩ := bats_at HPB.out.row i' hi'
      obtain ⟨b0, b1, b2, b3, b4⟩ := bats_at HPB.out.row j hjl
      have hii : (i' : Int) < bs.length := by omega
      have hjj : (j : Int) < bs.length := by omega
      have h0i : (0 : Int) < i' := by omega
      have hlj : j ≤ 1048576 := by omega
      have hne : i' ≠ j := by omega
      have hlt : j < i' := by omega
      have hw0 := hq0 j hlj
      have hw1 := hq1 j hlj
      clear HR hq0 hq1 hj
      generalize bs'[i'] = x at *
      generalize bs'[j] = y at *
      go_wp2_with fail
      go_region_held3 (fun w' => w'.cell? ⟨hp, 0, none⟩ = some (.slice (some ⟨g, 0, none⟩) bs.length cap) ∧ w'.cell? ⟨hp, 1, none⟩ = some (.func (.func 62) #[] #[]) ∧ w'.cell? ⟨g, i' * 5, none⟩ = some (I x.b.o) ∧ w'.cell? ⟨g, i' * 5 + 1, none⟩ = some (I x.b.s) ∧ w'.cell? ⟨g, i' * 5 + 2, none⟩ = some (I x.b.t) ∧ w'.cell? ⟨g, i' * 5 + 3, none⟩ = some (.slice x.ca x.b.clock.length x.cc) ∧ w'.cell? ⟨g, i' * 5 + 4, none⟩ = some (.slice x.ea x.b.effs.length x.ec) ∧ w'.cell? ⟨g, j * 5, none⟩ = some (I y.b.o) ∧ w'.cell? ⟨g, j * 5 + 1, none⟩ = some (I y.b.s) ∧ w'.cell? ⟨g, j * 5 + 2, none⟩ = some (I y.b.t) ∧ w'.cell? ⟨g, j * 5 + 3, none⟩ = some (.slice y.ca y.b.clock.length y.cc) ∧ w'.cell? ⟨g, j * 5 + 4, none⟩ = some (.slice y.ea y.b.effs.length y.ec)) (first | go_keep | (refine ⟨cell_kept hb0 ?_, cell_kept hb0 ?_, cell_kept hb0 ?_, cell_kept hb0 ?_, cell_kept hb0 ?_, cell_kept hb0 ?_, cell_kept hb0 ?_, cell_kept hb0 ?_, cell_kept hb0 ?_, cell_kept hb0 ?_, cell_kept hb0 ?_, cell_kept hb0 ?_⟩ <;> go_keep))
        (first | (go_at_call 62; refine (earlier_any x y _).mono ?_; rintro e w1 ⟨rfl, hb0⟩))
      have HPB1 : Hid (HpIn w1 hp (.slice (some ⟨g, 0, none⟩) bs'.length cap) bs') := HPB.out.kept ((Below.refl _ _).drew.trans hb0)
      have HT1 : Hid (Tch (fun k => k = g) w w1) := HT.out.then (Tch.below ((Below.refl _ _).drew.trans hb0))
      have HR3 : Hid (riseP lessM bs i = if earlierB x.b y.b then riseP lessM (swapP bs' i' j) j else bs') := by show _ = _; rw [← HS.out, HR2.out]; rfl
      clear HP HPB HT c0 c1 a0 a1 a2 a3 a4 b0 b1 b2 b3 b4 hb0 HR2 HS
      generalize earlierB x.b y.b = bl at *
      cases bl
      · have HF : Hid (HpIn w1 hp (.slice (some ⟨g, 0, none⟩) bs.length cap) (riseP lessM bs i)) := by
          show HpIn _ _ _ _
          rw [HR3.out, ← hlen]
          exact HPB1.out
        clear HPB1 HR3
        go_wp2
        go_end0
        exact ⟨rfl, HF.out, HT1.out⟩
      · go_wp2_with fail
        refine (hswap_any hp g cap i' j bs' w1 HPB1.out hi' hjl hne).mono ?_
        rintro e w2 ⟨rfl, hp2, hT2⟩
        have HP2 : Hid (HpIn w2 hp (.slice (some ⟨g, 0, none⟩) bs.length cap) (swapP bs' i' j)) := by show HpIn _ _ _ _; rw [← hlen, ← swapL_eq]; exact hp2
        have HT2 : Hid (Tch (fun k => k = g) w w2) := HT1.out.then hT2
        have HLn : Hid ((swapP bs' i' j).length = bs'.length) := swapP_len bs' i' j
        have HS2 : Hid (riseP lessM (swapP bs' i' j) j = riseP lessM bs i) := HR3.out.symm
        clear hp2 hT2 HPB1 HT1 HR3
        go_wp2_with fail
        go_roundw
        case rel => exact ⟨j, swapP bs' i' j, rfl, by simp, by rw [HLn.out]; exact hjl, by rw [HLn.out]; exact hlen, HS2, HP2, HT2⟩
        case measure => simp [intOf]; omega
    · obtain rfl : i' = 0 := by omega
      have HF : Hid (HpIn wr hp (.slice (some ⟨g, 0, none⟩) bs.length cap) (riseP lessM bs i)) := by
        show HpIn _ _ _ _
        rw [← HS.out, rise_zero]
        exact HP.out
      clear HP HS
      go_wp2_with fail
      go_quiet (fail)
      go_wp2
      go_end0
      exact ⟨rfl, HF.out.kept (belowN (Below.refl _ _) nq), HT.out.drewN nq⟩

end Go.Proofs.YtfmcngncaffloaaGreatDoor

namespace Go.Proofs.YtfmcngncaffloaaGreatDoor
open Go.RowKit
set_option maxRecDepth 100000

def pushP {α : Type} (less : α → α → Bool) (bs : List α) (x : α) : List α := riseP less (bs ++ [x]) bs.length
theorem flat_snoc5 (l : List Bm) (x : Bm) : flat Bm.cells (l ++ [x]) = flat Bm.cells l ++ x.cells := by
  rw [flat_append]
  show _ ++ (x.cells ++ []) = _
  rw [List.append_nil]
theorem infoBt : (Tryz.prog.info? 124).map (fun i => (i.zero, i.size, i.bytes)) = some (some (.agg #[.int .i64 0, .int .i64 0, .int .i64 0, .slice none 0 0, .slice none 0 0]), 5, 72) := by kernel_rfl
abbrev bmC (m : Bm) : Array Value := #[I m.b.o, I m.b.s, I m.b.t, .slice m.ca m.b.clock.length m.cc, .slice m.ea m.b.effs.length m.ec]
/-- What a call leaves of a heap. -/
def HpOk (w : World) (hp : Nat) (v : Value) (bs : List Bm) (w' : World) : Prop := ∃ v', HpIn w' hp v' bs ∧ Tch (fun k => k = hp ∨ v.ownBlock = some k) w w' ∧ (∀ b, v'.ownBlock = some b → v.ownBlock = some b ∨ w.heap.size ≤ b)

set_option maxHeartbeats 800000 in
theorem hpush_any (hp : Nat) (v : Value) (bs : List Bm) (x : Bm) (w : World) (h : HpIn w hp v bs) (hl : bs.length ≤ 1000000) :
    Calls Tryz.prog 162 #[.pointer (some ⟨hp, 0, none⟩), bmV x] w fun e w' => e = .returned (.tuple #[]) ∧ HpOk w hp v (pushP lessM bs x) w' := by
  obtain ⟨wA, hwA⟩ : ∃ wA, wA = w.alloc (.cells (bmC x) 124) := ⟨_, rfl⟩
  have HBA : Hid (Below w.heap.size w wA) := by rw [hwA]; exact (Below.refl _ _).alloc (Nat.le_refl _) _
  have HP : Hid (HpIn wA hp v bs) := h.kept HBA.out
  have HX : Hid (Blk wA w.heap.size (bmC x) 124) := by rw [hwA]; exact heap_alloc_new w _
  have hpw : hp < w.heap.size := h.blk.lt
  have HVB : Hid (∀ b, v.ownBlock = some b → b < w.heap.size) := fun b hb => (h.row.lt b hb).2
  have c0 : wA.cell? ⟨hp, 0, none⟩ = some v := HP.out.blk.cell 0
  have x0 : wA.cell? ⟨w.heap.size, 0, none⟩ = some (I x.b.o) := HX.out.cell 0
  have x1 : wA.cell? ⟨w.heap.size, 1, none⟩ = some (I x.b.s) := HX.out.cell 1
  have x2 : wA.cell? ⟨w.heap.size, 2, none⟩ = some (I x.b.t) := HX.out.cell 2
  have x3 : wA.cell? ⟨w.heap.size, 3, none⟩ = some (.slice x.ca x.b.clock.length x.cc) := HX.out.cell 3
  have x4 : wA.cell? ⟨w.heap.size, 4, none⟩ = some (.slice x.ea x.b.effs.length x.ec) := HX.out.cell 4
  have cA2 : (wA.alloc (.cells (bmC x) 124)).cell? ⟨hp, 0, none⟩ = some v := (HP.out.blk.alloc _).cell 0
  obtain ⟨i2, hi2, hy0, hy1, hy2⟩ := info_parts infoBt
  have HI2 : Hid (Tryz.prog.info? 124 = some i2 ∧ i2.zero = some (.agg #[.int .i64 0, .int .i64 0, .int .i64 0, .slice none 0 0, .slice none 0 0]) ∧ i2.size = 5 ∧ i2.bytes = 72) := ⟨hi2, hy0, hy1, hy2⟩
  have HNE : Hid (¬ v.ownBlock = some hp) := by
    rcases h.row.2 with ⟨rfl, _⟩ | ⟨g, cap, cur, rfl, _⟩
    · intro e; cases e
    · intro e; exact h.ne (by simpa [Value.ownBlock] using e.symm)
  clear h hi2 hy0 hy1 hy2
  have hone : ∀ u ∈ x.cells, u.oneCell' = true := by have := bm_one [x]; simpa [flat] using this
  go_enter Tryz.func162, Tryz.ntmps162
  go_wp2_with fail
  change Code.wp _ _ _ _ (w.alloc (.cells (bmC x) 124))
  rw [← hwA]
  clear hwA
  go_region_law ((refine step_append_lies _ (by rfl) _ _ _ (by rfl) 0 124 i2 (.agg #[.int .i64 0, .int .i64 0, .int .i64 0, .slice none 0 0, .slice none 0 0]) 5 72 Tryz.underlying108 HI2.out.1 HI2.out.2.1 HI2.out.2.2.1 HI2.out.2.2.2 (by rfl) (by omega) v bs.length (flat Bm.cells bs) (by rfl) (by first | exact HP.out.row.alloc _ | exact (HP.out.row.alloc _).drew | exact (HP.out.row.drew).alloc _) ⟨wA.heap.size, 0, none⟩ 1 1 x.cells (by rfl) (by rfl) (by first | exact lit_any wA _ _ | exact lit_drew wA _ _) hone (by omega) (by unfold maxLen; omega) (by omega) (by omega) (wA.heap.size + 1) (by simp) ?_; intro g7 cap7 w7 hown7 hgrow7 hat7 hlt7; have HT7 : Hid (Tch (fun k => v.ownBlock = some k) wA w7) := (by first | exact ((Tch.refl _ wA).drew.alloc _).then (Tch.grown hgrow7) | exact ((Tch.refl _ wA).alloc _).then (Tch.grown hgrow7)); have HO7 : Hid (w7.ownsRow 0 124 5 (.slice (some ⟨g7, 0, none⟩) (bs.length + 1) cap7) (bs.length + 1) (flat Bm.cells bs ++ x.cells)) := hown7; have HA7 : Hid (v.ownBlock = some g7 ∨ g7 = wA.heap.size + 1) := hat7; have HK7 : Hid (Blk w7 hp #[v, .func (.func 62) #[] #[]] 178) := HT7.out.blk HP.out.blk HNE.out; have c7 : w7.cell? ⟨hp, 0, none⟩ = some v := HK7.out.cell 0; have z7 : w7.frozen? ⟨hp, 0, none⟩ = false := HK7.out.frozen 0; clear hown7 hgrow7 hat7 hlt7))
  all_goals
    (go_wp2_with fail
     have hsA := HBA.out.size
     have hpg : hp ≠ g7 := by
       rcases HA7.out with e | e
       · intro e2; rw [← e2] at e; exact HNE.out e
       · omega
     have hlen : (bs ++ [x]).length = bs.length + 1 := by simp
     have HP8 : Hid (HpIn (w7.setCell ⟨hp, 0, none⟩ (.slice (some ⟨g7, 0, none⟩) (bs.length + 1) cap7)) hp (.slice (some ⟨g7, 0, none⟩) (bs ++ [x]).length cap7) (bs ++ [x])) := by
       refine ⟨?_, ?_⟩
       · rw [hlen]; exact HK7.out.set 0 _
       · rw [hlen, flat_snoc5]
         exact own_kept HO7.out (fun b e => heap_setCell_other _ ⟨hp, 0, none⟩ b _ (by cases e; exact hpg.symm))
     have HT8 : Hid (Tch (fun k => k = hp ∨ v.ownBlock = some k) w (w7.setCell ⟨hp, 0, none⟩ (.slice (some ⟨g7, 0, none⟩) (bs.length + 1) cap7))) := Tch.setCell ((Tch.below HBA.out).trans HT7.out (fun _ _ h => h) (fun _ _ h => Or.inr h)) _ _ (Or.inl (Or.inl rfl))
     have HG8 : Hid (v.ownBlock = some g7 ∨ w.heap.size ≤ g7) := HA7.out.imp id (fun e => by omega)
     refine (hrise_any hp g7 cap7 bs.length (bs ++ [x]) _ HP8.out (by omega) (by omega)).mono ?_
     rintro e w9 ⟨rfl, hp9, hT9⟩
     have HE : Hid (HpOk w hp v (pushP lessM bs x) w9) := ⟨_, by
       unfold pushP
       rw [show (riseP lessM (bs ++ [x]) bs.length) = riseP lessM (bs ++ [x]) bs.length from rfl]
       exact hp9, HT8.out.trans hT9 (fun _ _ h => h) (fun k hk h => by
         subst h
         rcases HG8.out with e | e
         · exact Or.inr e
         · omega), fun b e => by cases e; exact HG8.out⟩
     clear hp9 hT9 HP8 HT8 HG8 hsA
     go_wp2
     go_end0
     exact ⟨rfl, HE.out⟩)

end Go.Proofs.YtfmcngncaffloaaGreatDoor

namespace Go.Proofs.YtfmcngncaffloaaGreatDoor
open Go.RowKit
set_option maxRecDepth 100000

set_option maxHeartbeats 800000 in
theorem hleast_none (hp g cap : Nat) (w : World) (h : HpIn w hp (.slice (some ⟨g, 0, none⟩) 0 cap) []) :
    Calls Tryz.prog 207 #[.pointer (some ⟨hp, 0, none⟩), I 0] w fun e w' => e = .returned (I 0) ∧ w' = w := by
  have c0 : w.cell? ⟨hp, 0, none⟩ = some (.slice (some ⟨g, 0, none⟩) 0 cap) := h.blk.cell 0
  clear h
  go_enter Tryz.func207, Tryz.ntmps207
  go_wp2_with fail
  go_loopw [5, 6] (fun v5 v6 wr => v5 = I 0 ∧ v6 = I 1 ∧ wr = w) (fun _ _ _ => 0)
  case atStart => exact ⟨rfl, rfl, rfl⟩
  case round =>
    obtain ⟨rfl, rfl, rfl⟩ := hrel
    go_wp2
    go_ret
    exact ⟨rfl, rfl⟩
set_option maxHeartbeats 800000 in
theorem hsink_none (hp g cap : Nat) (w : World) (h : HpIn w hp (.slice (some ⟨g, 0, none⟩) 0 cap) []) :
    Calls Tryz.prog 187 #[.pointer (some ⟨hp, 0, none⟩), I 0] w fun e w' => e = .returned (.tuple #[]) ∧ w' = w := by
  go_enter Tryz.func187, Tryz.ntmps187
  go_wp2_with fail
  refine (hleast_none hp g cap w h).mono ?_
  rintro e w1 ⟨rfl, hw1⟩
  rw [hw1]
  clear hw1 w1 h
  go_wp2_with fail
  go_loopw [1, 4] (fun v1 v4 wr => v1 = I 0 ∧ v4 = I 0 ∧ wr = w) (fun _ _ _ => 0)
  case atStart => exact ⟨rfl, rfl, rfl⟩
  case round =>
    obtain ⟨rfl, rfl, rfl⟩ := hrel
    go_wp2
    go_end0
    exact ⟨rfl, rfl⟩

/-- The least item, and the others. -/
def popP {α : Type} (less : α → α → Bool) (bs : List α) : Option (α × List α) :=
  match bs with
  | [] => none
  | x :: l => some (x, sinkP less (((x :: l).set 0 ((x :: l)[l.length]'(by simp))).take l.length) 0)
abbrev zB : Array Value := #[.int .i64 0, .int .i64 0, .int .i64 0, .slice none 0 0, .slice none 0 0]
abbrev twoZ (w : World) : World := (w.alloc (.cells #[.int .i64 0, .int .i64 0, .int .i64 0, .slice none 0 0, .slice none 0 0] 124)).alloc (.cells #[.int .i64 0, .int .i64 0, .int .i64 0, .slice none 0 0, .slice none 0 0] 124)
theorem twoZ_below (w : World) : Below w.heap.size w (twoZ w) := ((Below.refl _ _).alloc (Nat.le_refl _) _).alloc (by simp) _
abbrev zeroB : Value := .agg #[.int .i64 0, .int .i64 0, .int .i64 0, .slice none 0 0, .slice none 0 0]

set_option maxHeartbeats 800000 in
theorem hpop_none (hp : Nat) (v : Value) (w : World) (h : HpIn w hp v []) :
    Calls Tryz.prog 161 #[.pointer (some ⟨hp, 0, none⟩)] w fun e w' => e = .returned (.tuple #[zeroB, .bool false]) ∧ Below w.heap.size w w' := by
  obtain ⟨a, c, rfl⟩ : ∃ a c, v = .slice a 0 c := by
    rcases h.row.2 with ⟨rfl, _⟩ | ⟨g, cap, cur, rfl, _⟩
    · exact ⟨_, _, rfl⟩
    · exact ⟨_, _, rfl⟩
  have c0 : (twoZ w).cell? ⟨hp, 0, none⟩ = some (.slice a 0 c) := (h.kept (twoZ_below w)).blk.cell 0
  have HB : Hid (Below w.heap.size w (twoZ w)) := twoZ_below w
  clear h
  go_enter Tryz.func161, Tryz.ntmps161
  go_wp2_with fail
  exact bodyPost_ret (v := .tuple #[zeroB, .bool false]) (by simp [results, Tryz.results161, go_sem]) rfl ⟨rfl, HB.out⟩
def bmZ : Bm := ⟨⟨0, 0, 0, [], []⟩, none, none, 0, 0, []⟩
theorem flat_take {α : Type} (f : α → List Value) (n : Nat) (hf : ∀ x, (f x).length = n) (l : List α) (k : Nat) (hk : k ≤ l.length) : (flat f l).take (k * n) = flat f (l.take k) := by
  have h1 : flat f l = flat f (l.take k) ++ flat f (l.drop k) := by rw [← flat_append, List.take_append_drop]
  have h2 : (flat f (l.take k)).length = k * n := by rw [flat_len f n hf, List.length_take, Nat.min_eq_left hk]
  rw [h1, ← h2, List.take_left]
theorem own_take {w : World} {e : TypeId} {g n cap k s : Nat} {α : Type} (f : α → List Value) (hf : ∀ x, (f x).length = s) {bs : List α} (hn : n = bs.length) (h : w.ownsRow 0 e s (.slice (some ⟨g, 0, none⟩) n cap) n (flat f bs)) (hk : k ≤ n) :
    w.ownsRow 0 e s (.slice (some ⟨g, 0, none⟩) k cap) k (flat f (bs.take k)) := by
  subst hn
  rcases h.2 with ⟨e1, _⟩ | ⟨g', cap', cur, e1, hb, hc, h3, h4, h5, h6⟩
  · cases e1
  · cases e1
    refine ⟨by rw [flat_len f s hf, List.length_take, Nat.min_eq_left hk], .inr ⟨g, cap, cur, rfl, hb, hc, by omega, h4, h5, ?_⟩⟩
    rw [← flat_take f s hf bs k hk, ← h6, List.take_take, Nat.min_eq_left (Nat.mul_le_mul_right _ hk)]
/-- What Pop leaves behind. -/
def PopOk (w : World) (hp g cap : Nat) (bs : List Bm) (w' : World) : Prop := HpIn w' hp (.slice (some ⟨g, 0, none⟩) bs.length cap) bs ∧ Tch (fun k => k = hp ∨ k = g) w w'
theorem pop_end {w wC : World} {hp g cap : Nat} {bs : List Bm} {k : Nat} (y : Bm) (hb : Below w.heap.size w wC) (h : HpIn wC hp (.slice (some ⟨g, 0, none⟩) bs.length cap) bs) (hk : k < bs.length) (v : Value) (hv : v = .slice (some ⟨g, 0, none⟩) k cap) :
    PopOk w hp g cap ((bs.set 0 y).take k) (((put5b (put5b wC g 0 y) g (k * 5) bmZ).drew).setCell ⟨hp, 0, none⟩ v) := by
  subst hv
  have hne := h.ne
  have hT : Tch (fun j => j = g) wC (put5b (put5b wC g 0 y) g (k * 5) bmZ).drew := ((put5b_grown wC g 0 y).then (put5b_grown _ g (k * 5) bmZ)).drew
  have hrow : (put5b (put5b wC g 0 y) g (k * 5) bmZ).drew.ownsRow 0 124 5 (.slice (some ⟨g, 0, none⟩) bs.length cap) bs.length (flat Bm.cells ((bs.set 0 y).set k bmZ)) := (own_put5 (own_put5 h.row 0 _) k _).drew
  generalize (put5b (put5b wC g 0 y) g (k * 5) bmZ).drew = W at *
  have ht : ((bs.set 0 y).set k bmZ).take k = (bs.set 0 y).take k := by
    rw [List.take_set_of_le (Nat.le_refl _)]
  have hl : ((bs.set 0 y).take k).length = k := by rw [List.length_take, List.length_set]; omega
  refine ⟨⟨?_, ?_⟩, ?_⟩
  · have := (hT.blk h.blk hne).set 0 (.slice (some ⟨g, 0, none⟩) k cap)
    rw [hl]
    exact this
  · have h1 := own_take Bm.cells bmCells_len (by simp) hrow (Nat.le_of_lt hk)
    rw [ht] at h1
    rw [hl]
    exact own_kept h1 (fun b e => heap_setCell_other _ ⟨hp, 0, none⟩ b _ (by cases e; exact hne.symm))
  · exact Tch.setCell ((Tch.below hb).trans hT (fun _ _ h => h) (fun _ _ h => Or.inr h)) _ _ (Or.inl (Or.inl rfl))

theorem sinkP_len {α : Type} (less : α → α → Bool) (bs : List α) (i : Nat) : (sinkP less bs i).length = bs.length := by
  induction hn : bs.length - i using Nat.strongRecOn generalizing bs i with
  | _ n ih =>
    rw [sinkP]
    split
    · rename_i h
      have h1 := leastP_ge less bs i
      have h2 := leastP_lt less bs i h.2
      have h3 := h.1
      rw [ih (bs.length - leastP less bs i) (by omega) (swapP bs i (leastP less bs i)) (leastP less bs i) (by rw [swapP_len]), swapP_len]
    · rfl
theorem put5r_blk {w : World} {R : Nat} (h : Blk w R #[.int .i64 0, .int .i64 0, .int .i64 0, .slice none 0 0, .slice none 0 0] 124) (m : Bm) : Blk (put5b w R 0 m) R (bmC m) 124 :=
  ((((h.set 0 _).set 1 _).set 2 _).set 3 _).set 4 _

set_option maxHeartbeats 1600000 in
theorem hpop_some (hp g cap : Nat) (x y : Bm) (l : List Bm) (w : World) (h : HpIn w hp (.slice (some ⟨g, 0, none⟩) (l.length + 1) cap) (x :: l)) (hl : l.length ≤ 1000000) (hpos : 0 < l.length) (hy : (x :: l)[l.length]? = some y) :
    Calls Tryz.prog 161 #[.pointer (some ⟨hp, 0, none⟩)] w fun e w' => e = .returned (.tuple #[bmV x, .bool true]) ∧ PopOk w hp g cap (sinkP lessM (((x :: l).set 0 y).take l.length) 0) w' := by
  obtain ⟨hyl, hye⟩ := List.getElem?_eq_some_iff.1 hy
  have HP : Hid (HpIn (twoZ w) hp (.slice (some ⟨g, 0, none⟩) (l.length + 1) cap) (x :: l)) := h.kept (twoZ_below w)
  have c0 : (twoZ w).cell? ⟨hp, 0, none⟩ = some (.slice (some ⟨g, 0, none⟩) (l.length + 1) cap) := HP.out.blk.cell 0
  obtain ⟨a0, a1, a2, a3, a4⟩ := bats_at HP.out.row 0 (by simp)
  simp only [List.getElem_cons_zero, Nat.zero_mul, Nat.zero_add] at a0 a1 a2 a3 a4
  have hp0 : ¬ (l.length : Int) < 0 := by omega
  obtain ⟨wC, hwC⟩ : ∃ wC, wC = (twoZ w).alloc (.cells (bmC x) 124) := ⟨_, rfl⟩
  have HBC : Hid (Below w.heap.size w wC) := by rw [hwC]; exact (twoZ_below w).alloc (twoZ_below w).size _
  have HPC : Hid (HpIn wC hp (.slice (some ⟨g, 0, none⟩) (l.length + 1) cap) (x :: l)) := h.kept HBC.out
  have HR : Hid (Blk wC w.heap.size #[.int .i64 0, .int .i64 0, .int .i64 0, .slice none 0 0, .slice none 0 0] 124) := by rw [hwC]; exact (Blk.alloc (heap_alloc_new w _) _).alloc _
  have HN : Hid (Blk wC (w.heap.size + 1) #[.int .i64 0, .int .i64 0, .int .i64 0, .slice none 0 0, .slice none 0 0] 124) := by rw [hwC]; exact (Blk.second w _ _ _).alloc _
  have HX : Hid (Blk wC (w.heap.size + 1 + 1) (bmC x) 124) := by
    have e : (twoZ w).heap.size = w.heap.size + 1 + 1 := by simp
    rw [hwC, ← e]
    exact heap_alloc_new (twoZ w) _
  have hgw : g < w.heap.size := (h.row.lt g rfl).2
  have hpw : hp < w.heap.size := h.blk.lt
  have hcap : l.length + 1 ≤ cap := by
    rcases h.row.2 with ⟨e1, _⟩ | ⟨g', cap', cur, e1, _, _, h3, _⟩
    · cases e1
    · cases e1; exact h3
  have hcap1 : l.length ≤ cap := by omega
  have hcap2 : (l.length : Int) ≤ (cap : Int) := by omega
  clear h HP hcap
  go_enter Tryz.func161, Tryz.ntmps161
  go_wp2_with fail
  change Code.wp _ _ _ _ ((twoZ w).alloc (.cells (bmC x) 124))
  rw [← hwC]
  clear hwC c0 a0 a1 a2 a3 a4
  have c0 : wC.cell? ⟨hp, 0, none⟩ = some (.slice (some ⟨g, 0, none⟩) (l.length + 1) cap) := HPC.out.blk.cell 0
  obtain ⟨a0, a1, a2, a3, a4⟩ := bats_at HPC.out.row 0 (by simp)
  simp only [List.getElem_cons_zero, Nat.zero_mul, Nat.zero_add] at a0 a1 a2 a3 a4
  obtain ⟨b0, b1, b2, b3, b4⟩ := bats_at HPC.out.row l.length hyl
  rw [hye] at b0 b1 b2 b3 b4
  have n0 : wC.cell? ⟨w.heap.size + 1, 0, none⟩ = some (.int .i64 0) := HN.out.cell 0
  have n1 : wC.cell? ⟨w.heap.size + 1, 1, none⟩ = some (.int .i64 0) := HN.out.cell 1
  have n2 : wC.cell? ⟨w.heap.size + 1, 2, none⟩ = some (.int .i64 0) := HN.out.cell 2
  have n3 : wC.cell? ⟨w.heap.size + 1, 3, none⟩ = some (.slice none 0 0) := HN.out.cell 3
  have n4 : wC.cell? ⟨w.heap.size + 1, 4, none⟩ = some (.slice none 0 0) := HN.out.cell 4
  have HF : Hid (∀ k, wC.frozen? ⟨g, k, none⟩ = false) := fun k => own_free HPC.out.row k
  have f0 := HF.out 0
  have f1 := HF.out 1
  have f2 := HF.out 2
  have f3 := HF.out 3
  have f4 := HF.out 4
  have g0 := HF.out (l.length * 5)
  have g1 := HF.out (l.length * 5 + 1)
  have g2 := HF.out (l.length * 5 + 2)
  have g3 := HF.out (l.length * 5 + 3)
  have g4 := HF.out (l.length * 5 + 4)
  have hne : l.length * 5 ≠ 0 := by omega
  clear hy hye hyl
  go_region
  obtain ⟨wD, hwD⟩ : ∃ wD, wD = (put5b (put5b wC g 0 y) g (l.length * 5) bmZ).drew := ⟨_, rfl⟩
  change Exit.then _ _ Exit.normal _ (put5b (put5b wC g 0 y) g (l.length * 5) bmZ).drew
  have HPO : Hid (PopOk w hp g cap (((x :: l).set 0 y).take l.length) (wD.setCell ⟨hp, 0, none⟩ (.slice (some ⟨g, 0, none⟩) l.length cap))) := by
    show PopOk _ _ _ _ _ _
    rw [hwD]
    exact pop_end y HBC.out HPC.out (by simp) _ rfl
  have HTD : Hid (Tch (fun j => j = g) wC wD) := by
    show Tch _ _ _
    rw [hwD]
    exact ((put5b_grown wC g 0 y).then (put5b_grown _ g (l.length * 5) bmZ)).drew
  rw [← hwD]
  clear hwD
  have HKD : Hid (Blk wD hp #[.slice (some ⟨g, 0, none⟩) (l.length + 1) cap, .func (.func 62) #[] #[]] 178) := HTD.out.blk HPC.out.blk HPC.out.ne
  have HRD : Hid (Blk wD w.heap.size #[.int .i64 0, .int .i64 0, .int .i64 0, .slice none 0 0, .slice none 0 0] 124) := HTD.out.blk HR.out (by omega)
  have HXD : Hid (Blk wD (w.heap.size + 1 + 1) (bmC x) 124) := HTD.out.blk HX.out (by omega)
  have hsz : w.heap.size + 1 + 1 < wD.heap.size := HXD.out.lt
  clear HTD HPC HR HN HX c0 a0 a1 a2 a3 a4 b0 b1 b2 b3 b4 n0 n1 n2 n3 n4 HF f0 f1 f2 f3 f4 g0 g1 g2 g3 g4
  have d0 : wD.cell? ⟨hp, 0, none⟩ = some (.slice (some ⟨g, 0, none⟩) (l.length + 1) cap) := HKD.out.cell 0
  have z0 : wD.frozen? ⟨hp, 0, none⟩ = false := HKD.out.frozen 0
  go_wp2_with fail
  have HLL : Hid ((((x :: l).set 0 y).take l.length).length = l.length) := by show _ = _; rw [List.length_take, List.length_set, List.length_cons]; omega
  obtain ⟨wE, hwE⟩ : ∃ wE, wE = wD.setCell ⟨hp, 0, none⟩ (.slice (some ⟨g, 0, none⟩) l.length cap) := ⟨_, rfl⟩
  have HRE : Hid (Blk wE w.heap.size #[.int .i64 0, .int .i64 0, .int .i64 0, .slice none 0 0, .slice none 0 0] 124) := by rw [hwE]; exact HRD.out.other (by show w.heap.size ≠ hp; omega) _
  have HXE : Hid (Blk wE (w.heap.size + 1 + 1) (bmC x) 124) := by rw [hwE]; exact HXD.out.other (by show w.heap.size + 1 + 1 ≠ hp; omega) _
  rw [← hwE] at HPO ⊢
  clear hwE HRD HXD HKD d0 z0 hsz
  obtain ⟨LL, HLQ⟩ : ∃ LL, Hid (((x :: l).set 0 y).take l.length = LL) := ⟨_, rfl⟩
  rw [HLQ.out] at HPO HLL
  refine (hsink_any hp g cap 0 LL wE HPO.out.1 (by rw [HLL.out]; omega) (by rw [HLL.out]; omega)).mono ?_
  rintro e w3 ⟨rfl, hp3, hT3⟩
  have HP3 : Hid (HpIn w3 hp (.slice (some ⟨g, 0, none⟩) (sinkP lessM LL 0).length cap) (sinkP lessM LL 0)) := by show HpIn _ _ _ _; rw [sinkP_len]; exact hp3
  have HT3 : Hid (Tch (fun k => k = hp ∨ k = g) w w3) := HPO.out.2.trans hT3 (fun _ _ h => h) (fun _ _ h => Or.inr h)
  have HR3 : Hid (Blk w3 w.heap.size #[.int .i64 0, .int .i64 0, .int .i64 0, .slice none 0 0, .slice none 0 0] 124) := hT3.blk HRE.out (by omega)
  have HX3 : Hid (Blk w3 (w.heap.size + 1 + 1) (bmC x) 124) := hT3.blk HXE.out (by omega)
  clear hp3 hT3 HRE HXE HPO HLL
  have x0 : w3.cell? ⟨w.heap.size + 1 + 1, 0, none⟩ = some (I x.b.o) := HX3.out.cell 0
  have x1 : w3.cell? ⟨w.heap.size + 1 + 1, 1, none⟩ = some (I x.b.s) := HX3.out.cell 1
  have x2 : w3.cell? ⟨w.heap.size + 1 + 1, 2, none⟩ = some (I x.b.t) := HX3.out.cell 2
  have x3 : w3.cell? ⟨w.heap.size + 1 + 1, 3, none⟩ = some (.slice x.ca x.b.clock.length x.cc) := HX3.out.cell 3
  have x4 : w3.cell? ⟨w.heap.size + 1 + 1, 4, none⟩ = some (.slice x.ea x.b.effs.length x.ec) := HX3.out.cell 4
  have r0 : w3.cell? ⟨w.heap.size, 0, none⟩ = some (.int .i64 0) := HR3.out.cell 0
  have r1 : w3.cell? ⟨w.heap.size, 1, none⟩ = some (.int .i64 0) := HR3.out.cell 1
  have r2 : w3.cell? ⟨w.heap.size, 2, none⟩ = some (.int .i64 0) := HR3.out.cell 2
  have r3 : w3.cell? ⟨w.heap.size, 3, none⟩ = some (.slice none 0 0) := HR3.out.cell 3
  have r4 : w3.cell? ⟨w.heap.size, 4, none⟩ = some (.slice none 0 0) := HR3.out.cell 4
  have z0 := HR3.out.frozen 0
  have z1 := HR3.out.frozen 1
  have z2 := HR3.out.frozen 2
  have z3 := HR3.out.frozen 3
  have z4 := HR3.out.frozen 4
  go_wp2_with fail
  change bodyPost _ _ _ Exit.ret _ (put5b w3 w.heap.size 0 x)
  have HF : Hid (Blk (put5b w3 w.heap.size 0 x) w.heap.size (bmC x) 124) := put5r_blk HR3.out x
  have HTF : Hid (Tch (fun k => k = hp ∨ k = g) w (put5b w3 w.heap.size 0 x)) := HT3.out.trans (put5b_grown w3 w.heap.size 0 x) (fun _ _ h => h) (fun k hk h => by omega)
  have HPF : Hid (HpIn (put5b w3 w.heap.size 0 x) hp (.slice (some ⟨g, 0, none⟩) (sinkP lessM LL 0).length cap) (sinkP lessM LL 0)) := ⟨(put5b_grown w3 w.heap.size 0 x).blk HP3.out.blk (by show ¬ hp = w.heap.size; omega), own_kept HP3.out.row (fun b e => put5b_other (by rw [← (by simpa [Value.ownBlock] using e : g = b)]; omega))⟩
  clear HP3 HT3 HR3 HX3 x0 x1 x2 x3 x4 r0 r1 r2 r3 r4 z0 z1 z2 z3 z4
  generalize put5b w3 w.heap.size 0 x = wF at *
  have f0 : wF.cell? ⟨w.heap.size, 0, none⟩ = some (I x.b.o) := HF.out.cell 0
  have f1 : wF.cell? ⟨w.heap.size, 1, none⟩ = some (I x.b.s) := HF.out.cell 1
  have f2 : wF.cell? ⟨w.heap.size, 2, none⟩ = some (I x.b.t) := HF.out.cell 2
  have f3 : wF.cell? ⟨w.heap.size, 3, none⟩ = some (.slice x.ca x.b.clock.length x.cc) := HF.out.cell 3
  have f4 : wF.cell? ⟨w.heap.size, 4, none⟩ = some (.slice x.ea x.b.effs.length x.ec) := HF.out.cell 4
  refine bodyPost_ret (v := .tuple #[bmV x, .bool true]) (by simp [results, Tryz.results161, go_sem, f0, f1, f2, f3, f4]) rfl ⟨rfl, ?_⟩
  rw [HLQ.out]
  exact ⟨HPF.out, HTF.out⟩

end Go.Proofs.YtfmcngncaffloaaGreatDoor

namespace Go.Proofs.YtfmcngncaffloaaGreatDoor
open Go.RowKit
set_option maxRecDepth 100000

set_option maxHeartbeats 1600000 in
theorem hpop_one (hp g cap : Nat) (x : Bm) (w : World) (h : HpIn w hp (.slice (some ⟨g, 0, none⟩) 1 cap) [x]) :
    Calls Tryz.prog 161 #[.pointer (some ⟨hp, 0, none⟩)] w fun e w' => e = .returned (.tuple #[bmV x, .bool true]) ∧ PopOk w hp g cap [] w' := by
  have HP : Hid (HpIn (twoZ w) hp (.slice (some ⟨g, 0, none⟩) 1 cap) [x]) := h.kept (twoZ_below w)
  have c0 : (twoZ w).cell? ⟨hp, 0, none⟩ = some (.slice (some ⟨g, 0, none⟩) 1 cap) := HP.out.blk.cell 0
  obtain ⟨a0, a1, a2, a3, a4⟩ := bats_at HP.out.row 0 (by simp)
  simp only [List.getElem_cons_zero, Nat.zero_mul, Nat.zero_add] at a0 a1 a2 a3 a4
  obtain ⟨wC, hwC⟩ : ∃ wC, wC = (twoZ w).alloc (.cells (bmC x) 124) := ⟨_, rfl⟩
  have HBC : Hid (Below w.heap.size w wC) := by rw [hwC]; exact (twoZ_below w).alloc (twoZ_below w).size _
  have HPC : Hid (HpIn wC hp (.slice (some ⟨g, 0, none⟩) 1 cap) [x]) := h.kept HBC.out
  have HR : Hid (Blk wC w.heap.size #[.int .i64 0, .int .i64 0, .int .i64 0, .slice none 0 0, .slice none 0 0] 124) := by rw [hwC]; exact (Blk.alloc (heap_alloc_new w _) _).alloc _
  have HN : Hid (Blk wC (w.heap.size + 1) #[.int .i64 0, .int .i64 0, .int .i64 0, .slice none 0 0, .slice none 0 0] 124) := by rw [hwC]; exact (Blk.second w _ _ _).alloc _
  have HX : Hid (Blk wC (w.heap.size + 1 + 1) (bmC x) 124) := by
    have e : (twoZ w).heap.size = w.heap.size + 1 + 1 := by simp
    rw [hwC, ← e]
    exact heap_alloc_new (twoZ w) _
  have hgw : g < w.heap.size := (h.row.lt g rfl).2
  have hpw : hp < w.heap.size := h.blk.lt
  have hcap : 1 ≤ cap := by
    rcases h.row.2 with ⟨e1, _⟩ | ⟨g', cap', cur, e1, _, _, h3, _⟩
    · cases e1
    · cases e1; exact h3
  clear h HP
  go_enter Tryz.func161, Tryz.ntmps161
  go_wp2_with fail
  change Code.wp _ _ _ _ ((twoZ w).alloc (.cells (bmC x) 124))
  rw [← hwC]
  clear hwC c0 a0 a1 a2 a3 a4
  have c0 : wC.cell? ⟨hp, 0, none⟩ = some (.slice (some ⟨g, 0, none⟩) 1 cap) := HPC.out.blk.cell 0
  obtain ⟨a0, a1, a2, a3, a4⟩ := bats_at HPC.out.row 0 (by simp)
  simp only [List.getElem_cons_zero, Nat.zero_mul, Nat.zero_add] at a0 a1 a2 a3 a4
  have n0 : wC.cell? ⟨w.heap.size + 1, 0, none⟩ = some (.int .i64 0) := HN.out.cell 0
  have n1 : wC.cell? ⟨w.heap.size + 1, 1, none⟩ = some (.int .i64 0) := HN.out.cell 1
  have n2 : wC.cell? ⟨w.heap.size + 1, 2, none⟩ = some (.int .i64 0) := HN.out.cell 2
  have n3 : wC.cell? ⟨w.heap.size + 1, 3, none⟩ = some (.slice none 0 0) := HN.out.cell 3
  have n4 : wC.cell? ⟨w.heap.size + 1, 4, none⟩ = some (.slice none 0 0) := HN.out.cell 4
  have HF : Hid (∀ k, wC.frozen? ⟨g, k, none⟩ = false) := fun k => own_free HPC.out.row k
  have f0 := HF.out 0
  have f1 := HF.out 1
  have f2 := HF.out 2
  have f3 := HF.out 3
  have f4 := HF.out 4
  go_region
  obtain ⟨wD, hwD⟩ : ∃ wD, wD = (put5b (put5b wC g 0 x) g 0 bmZ).drew := ⟨_, rfl⟩
  change Exit.then _ _ Exit.normal _ (put5b (put5b wC g 0 x) g 0 bmZ).drew
  have HPO : Hid (PopOk w hp g cap (([] : List Bm)) (wD.setCell ⟨hp, 0, none⟩ (.slice (some ⟨g, 0, none⟩) 0 cap))) := by
    show PopOk _ _ _ _ _ _
    rw [hwD]
    exact pop_end (bs := [x]) (k := 0) x HBC.out HPC.out (by simp) _ rfl
  have HTD : Hid (Tch (fun j => j = g) wC wD) := by
    show Tch _ _ _
    rw [hwD]
    exact ((put5b_grown wC g 0 x).then (put5b_grown _ g 0 bmZ)).drew
  rw [← hwD]
  clear hwD
  have HKD : Hid (Blk wD hp #[.slice (some ⟨g, 0, none⟩) 1 cap, .func (.func 62) #[] #[]] 178) := HTD.out.blk HPC.out.blk HPC.out.ne
  have HRD : Hid (Blk wD w.heap.size #[.int .i64 0, .int .i64 0, .int .i64 0, .slice none 0 0, .slice none 0 0] 124) := HTD.out.blk HR.out (by omega)
  have HXD : Hid (Blk wD (w.heap.size + 1 + 1) (bmC x) 124) := HTD.out.blk HX.out (by omega)
  have hsz : w.heap.size + 1 + 1 < wD.heap.size := HXD.out.lt
  clear HTD HPC HR HN HX c0 a0 a1 a2 a3 a4 n0 n1 n2 n3 n4 HF f0 f1 f2 f3 f4
  have d0 : wD.cell? ⟨hp, 0, none⟩ = some (.slice (some ⟨g, 0, none⟩) 1 cap) := HKD.out.cell 0
  have z0 : wD.frozen? ⟨hp, 0, none⟩ = false := HKD.out.frozen 0
  go_wp2_with fail
  obtain ⟨wE, hwE⟩ : ∃ wE, wE = wD.setCell ⟨hp, 0, none⟩ (.slice (some ⟨g, 0, none⟩) 0 cap) := ⟨_, rfl⟩
  have HRE : Hid (Blk wE w.heap.size #[.int .i64 0, .int .i64 0, .int .i64 0, .slice none 0 0, .slice none 0 0] 124) := by rw [hwE]; exact HRD.out.other (by show w.heap.size ≠ hp; omega) _
  have HXE : Hid (Blk wE (w.heap.size + 1 + 1) (bmC x) 124) := by rw [hwE]; exact HXD.out.other (by show w.heap.size + 1 + 1 ≠ hp; omega) _
  rw [← hwE] at HPO ⊢
  clear hwE HRD HXD HKD d0 z0 hsz
  refine (hsink_none hp g cap wE HPO.out.1).mono ?_
  rintro e w3 ⟨rfl, hw3⟩
  have HP3 : Hid (HpIn w3 hp (.slice (some ⟨g, 0, none⟩) 0 cap) []) := by rw [hw3]; exact HPO.out.1
  have HT3 : Hid (Tch (fun k => k = hp ∨ k = g) w w3) := by rw [hw3]; exact HPO.out.2
  have HR3 : Hid (Blk w3 w.heap.size #[.int .i64 0, .int .i64 0, .int .i64 0, .slice none 0 0, .slice none 0 0] 124) := by rw [hw3]; exact HRE.out
  have HX3 : Hid (Blk w3 (w.heap.size + 1 + 1) (bmC x) 124) := by rw [hw3]; exact HXE.out
  clear hw3 HRE HXE HPO
  have x0 : w3.cell? ⟨w.heap.size + 1 + 1, 0, none⟩ = some (I x.b.o) := HX3.out.cell 0
  have x1 : w3.cell? ⟨w.heap.size + 1 + 1, 1, none⟩ = some (I x.b.s) := HX3.out.cell 1
  have x2 : w3.cell? ⟨w.heap.size + 1 + 1, 2, none⟩ = some (I x.b.t) := HX3.out.cell 2
  have x3 : w3.cell? ⟨w.heap.size + 1 + 1, 3, none⟩ = some (.slice x.ca x.b.clock.length x.cc) := HX3.out.cell 3
  have x4 : w3.cell? ⟨w.heap.size + 1 + 1, 4, none⟩ = some (.slice x.ea x.b.effs.length x.ec) := HX3.out.cell 4
  have r0 : w3.cell? ⟨w.heap.size, 0, none⟩ = some (.int .i64 0) := HR3.out.cell 0
  have r1 : w3.cell? ⟨w.heap.size, 1, none⟩ = some (.int .i64 0) := HR3.out.cell 1
  have r2 : w3.cell? ⟨w.heap.size, 2, none⟩ = some (.int .i64 0) := HR3.out.cell 2
  have r3 : w3.cell? ⟨w.heap.size, 3, none⟩ = some (.slice none 0 0) := HR3.out.cell 3
  have r4 : w3.cell? ⟨w.heap.size, 4, none⟩ = some (.slice none 0 0) := HR3.out.cell 4
  have z0 := HR3.out.frozen 0
  have z1 := HR3.out.frozen 1
  have z2 := HR3.out.frozen 2
  have z3 := HR3.out.frozen 3
  have z4 := HR3.out.frozen 4
  go_wp2_with fail
  change bodyPost _ _ _ Exit.ret _ (put5b w3 w.heap.size 0 x)
  have HF : Hid (Blk (put5b w3 w.heap.size 0 x) w.heap.size (bmC x) 124) := put5r_blk HR3.out x
  have HTF : Hid (Tch (fun k => k = hp ∨ k = g) w (put5b w3 w.heap.size 0 x)) := HT3.out.trans (put5b_grown w3 w.heap.size 0 x) (fun _ _ h => h) (fun k hk h => by omega)
  have HPF : Hid (HpIn (put5b w3 w.heap.size 0 x) hp (.slice (some ⟨g, 0, none⟩) 0 cap) []) := ⟨(put5b_grown w3 w.heap.size 0 x).blk HP3.out.blk (by show ¬ hp = w.heap.size; omega), own_kept HP3.out.row (fun b e => put5b_other (by rw [← (by simpa [Value.ownBlock] using e : g = b)]; omega))⟩
  clear HP3 HT3 HR3 HX3 x0 x1 x2 x3 x4 r0 r1 r2 r3 r4 z0 z1 z2 z3 z4
  generalize put5b w3 w.heap.size 0 x = wF at *
  have f0 : wF.cell? ⟨w.heap.size, 0, none⟩ = some (I x.b.o) := HF.out.cell 0
  have f1 : wF.cell? ⟨w.heap.size, 1, none⟩ = some (I x.b.s) := HF.out.cell 1
  have f2 : wF.cell? ⟨w.heap.size, 2, none⟩ = some (I x.b.t) := HF.out.cell 2
  have f3 : wF.cell? ⟨w.heap.size, 3, none⟩ = some (.slice x.ca x.b.clock.length x.cc) := HF.out.cell 3
  have f4 : wF.cell? ⟨w.heap.size, 4, none⟩ = some (.slice x.ea x.b.effs.length x.ec) := HF.out.cell 4
  refine bodyPost_ret (v := .tuple #[bmV x, .bool true]) (by simp [results, Tryz.results161, go_sem, f0, f1, f2, f3, f4]) rfl ⟨rfl, ?_⟩
  exact ⟨HPF.out, HTF.out⟩


end Go.Proofs.YtfmcngncaffloaaGreatDoor

namespace Go.Proofs.YtfmcngncaffloaaGreatDoor
open Go.RowKit
set_option maxRecDepth 100000

/-- What Pop answers, and what it leaves. -/
def PopPost (w : World) (hp : Nat) (v : Value) (r : Option (Bm × List Bm)) (bs : List Bm) (e : Ending) (w' : World) : Prop :=
  match r with
  | none => e = .returned (.tuple #[zeroB, .bool false]) ∧ HpIn w' hp v bs ∧ Below w.heap.size w w'
  | some (x, l) => e = .returned (.tuple #[bmV x, .bool true]) ∧ HpIn w' hp (match v with | .slice a _ c => .slice a l.length c | v => v) l ∧ Tch (fun k => k = hp ∨ v.ownBlock = some k) w w'
theorem hpop_any (hp : Nat) (v : Value) (bs : List Bm) (w : World) (h : HpIn w hp v bs) (hl : bs.length ≤ 1000000) :
    Calls Tryz.prog 161 #[.pointer (some ⟨hp, 0, none⟩)] w fun e w' => PopPost w hp v (popP lessM bs) bs e w' := by
  cases bs with
  | nil =>
    refine (hpop_none hp v w h).mono ?_
    rintro e w' ⟨rfl, hb⟩
    exact ⟨rfl, h.kept hb, hb⟩
  | cons x l =>
    rcases h.row.2 with ⟨_, hz⟩ | ⟨g, cap, cur, rfl, _⟩
    · simp at hz
    · have hpo : ∀ (l' : List Bm) (w' : World), PopOk w hp g cap l' w' → HpIn w' hp (.slice (some ⟨g, 0, none⟩) l'.length cap) l' ∧ Tch (fun k => k = hp ∨ (Value.slice (some ⟨g, 0, none⟩) (x :: l).length cap).ownBlock = some k) w w' := fun l' w' h => ⟨h.1, h.2.mono (fun k _ hk => hk.imp id (fun e => by rw [e]; rfl))⟩
      by_cases hpos : 0 < l.length
      · have hy : (x :: l)[l.length]? = some ((x :: l)[l.length]'(by simp)) := List.getElem?_eq_getElem _
        refine (hpop_some hp g cap x _ l w h (by simp at hl; omega) hpos hy).mono ?_
        rintro e w' ⟨rfl, ho⟩
        exact ⟨rfl, hpo _ _ ho⟩
      · obtain rfl : l = [] := List.eq_nil_of_length_eq_zero (by omega)
        refine (hpop_one hp g cap x w h).mono ?_
        rintro e w' ⟨rfl, ho⟩
        have he : popP lessM [x] = some (x, []) := by
          unfold popP
          simp only [List.length_nil, List.take_zero]
          rw [sinkP, dif_neg (by simp)]
        rw [he]
        exact ⟨rfl, hpo _ _ ho⟩
theorem popP_len {α : Type} (less : α → α → Bool) (bs l : List α) (x : α) (h : popP less bs = some (x, l)) : l.length + 1 = bs.length := by
  cases bs with
  | nil => cases h
  | cons y m =>
    unfold popP at h
    simp only [Option.some.injEq, Prod.mk.injEq] at h
    rw [← h.2, sinkP_len, List.length_take, List.length_set, List.length_cons]
    omega
end Go.Proofs.YtfmcngncaffloaaGreatDoor

namespace Go.Proofs.YtfmcngncaffloaaGreatDoor
open Go.RowKit
set_option maxRecDepth 100000

/-- Has o the name that b has? -/
def likeB (b o : Wv.Bt) : Bool := (o.o == b.o) && (o.s == b.s)
set_option maxHeartbeats 800000 in
theorem like_any (x : Bm) (w : World) :
    Calls Tryz.prog 118 #[bmV x] w fun e w' => e = .returned (.func (.func 163) #[] #[.pointer (some ⟨w.heap.size, 0, none⟩)]) ∧ w' = w.alloc (.cells (bmC x) 124) := by
  go_enter Tryz.func118, Tryz.ntmps118
  go_wp2
  go_ret
  exact ⟨rfl, rfl⟩
set_option maxHeartbeats 800000 in
theorem like1_any (x y : Bm) (gb : Nat) (w : World) (h : Blk w gb (bmC y) 124) :
    Calls Tryz.prog 163 #[bmV x, .pointer (some ⟨gb, 0, none⟩)] w fun e w' => e = .returned (.bool (likeB y.b x.b)) ∧ Below w.heap.size w w' := by
  have HB : Hid (Blk (w.alloc (.cells (bmC x) 124)) gb (bmC y) 124) := h.alloc _
  have c0 : (w.alloc (.cells (bmC x) 124)).cell? ⟨gb, 0, none⟩ = some (I y.b.o) := HB.out.cell 0
  have c1 : (w.alloc (.cells (bmC x) 124)).cell? ⟨gb, 1, none⟩ = some (I y.b.s) := HB.out.cell 1
  clear h
  have HE : Hid (Below w.heap.size w (w.alloc (.cells (bmC x) 124))) := (Below.refl _ _).alloc (Nat.le_refl _) _
  clear HB
  unfold bmC at c0 c1
  have HL : Hid (likeB y.b x.b = ((x.b.o == y.b.o) && (x.b.s == y.b.s))) := rfl
  obtain ⟨q, hq⟩ : ∃ q, q = (x.b.o == y.b.o) := ⟨_, rfl⟩
  rw [← hq] at HL
  go_enter Tryz.func163, Tryz.ntmps163
  cases q
  · have hq2 : (x.b.o == y.b.o) = false := hq.symm
    clear hq
    go_wp2
    go_ret
    exact ⟨by rw [HL.out]; rfl, HE.out⟩
  · have hq2 : (x.b.o == y.b.o) = true := hq.symm
    clear hq
    go_wp2
    go_ret
    exact ⟨by rw [HL.out]; rfl, HE.out⟩

end Go.Proofs.YtfmcngncaffloaaGreatDoor

namespace Go.Proofs.YtfmcngncaffloaaGreatDoor
open Go.RowKit
set_option maxRecDepth 100000

/-- Items are taken out, the least first, until one fits. -/
def popAll {α : Type} (less : α → α → Bool) (f : α → Bool) : Nat → List α → List α → Option α × List α × List α
  | 0, bs, os => (none, bs, os)
  | n + 1, bs, os => match popP less bs with
    | none => (none, bs, os)
    | some (x, l) => if f x then (some x, l, os) else popAll less f n l (os ++ [x])
/-- The least of those that fit, if there is any, and the others. -/
def takeP {α : Type} (less : α → α → Bool) (f : α → Bool) (bs : List α) : Option α × List α :=
  let r := popAll less f (bs.length + 1) bs []
  (r.1, r.2.2.foldl (pushP less) r.2.1)
/-- What Take answers, and what it leaves. -/
def TakeHp (w : World) (hp : Nat) (v : Value) (r : Option Bm × List Bm) (e : Ending) (w' : World) : Prop := e = .returned (.tuple #[bmV (r.1.getD bmZ), .bool r.1.isSome]) ∧ HpOk w hp v r.2 w'
def popR {α : Type} (less : α → α → Bool) (bs : List α) : Option α × List α := match popP less bs with | none => (none, bs) | some (x, l) => (some x, l)
theorem hpop_u (hp : Nat) (v : Value) (bs : List Bm) (w : World) (h : HpIn w hp v bs) (hl : bs.length ≤ 1000000) :
    Calls Tryz.prog 161 #[.pointer (some ⟨hp, 0, none⟩)] w fun e w' => e = .returned (.tuple #[bmV ((popR lessM bs).1.getD bmZ), .bool (popR lessM bs).1.isSome]) ∧ ∃ v', HpIn w' hp v' (popR lessM bs).2 ∧ Tch (fun k => k = hp ∨ v.ownBlock = some k) w w' ∧ v'.ownBlock = v.ownBlock := by
  refine (hpop_any hp v bs w h hl).mono ?_
  intro e w' hh
  unfold PopPost at hh
  unfold popR
  cases hq : popP lessM bs with
  | none =>
    rw [hq] at hh
    obtain ⟨rfl, h1, h2⟩ := hh
    exact ⟨rfl, v, h1, Tch.below h2, rfl⟩
  | some p =>
    obtain ⟨x, l⟩ := p
    rw [hq] at hh
    obtain ⟨rfl, h1, h2⟩ := hh
    refine ⟨rfl, _, h1, h2, ?_⟩
    rcases h.row.2 with ⟨rfl, _⟩ | ⟨g, cap, cur, rfl, _⟩ <;> rfl
theorem popR_len {α : Type} (less : α → α → Bool) (bs : List α) : (popR less bs).2.length + (popR less bs).1.toList.length ≤ bs.length := by
  unfold popR
  cases hq : popP less bs with
  | none => simp
  | some p => have := popP_len less bs p.2 p.1 (by rw [hq]); simp; omega

def backP {α : Type} (less : α → α → Bool) (q : Option α × List α × List α) : Option α × List α := (q.1, q.2.2.foldl (pushP less) q.2.1)
/-- What is still to come, with this item in hand. -/
def finP {α : Type} (less : α → α → Bool) (f : α → Bool) (n : Nat) (r : Option α) (l os : List α) : Option α × List α :=
  match r with
  | none => backP less (none, l, os)
  | some x => if f x then backP less (some x, l, os) else backP less (popAll less f n l (os ++ [x]))
theorem fin_pop {α : Type} (less : α → α → Bool) (f : α → Bool) (n : Nat) (l os : List α) : backP less (popAll less f (n + 1) l os) = finP less f n (popR less l).1 (popR less l).2 os := by
  unfold finP popR
  rw [popAll]
  cases hq : popP less l with
  | none => rfl
  | some p =>
    obtain ⟨x, m⟩ := p
    simp only
    split <;> rfl
theorem take_fin {α : Type} (less : α → α → Bool) (f : α → Bool) (bs : List α) : takeP less f bs = finP less f bs.length (popR less bs).1 (popR less bs).2 [] := by
  rw [← fin_pop]
  rfl
/-- Taking under way: the heap, what was passed over, the item in hand, and the answer's block. -/
structure Tk1 (w wr : World) (hp : Nat) (v v' : Value) (ib : Nat) (ov : Value) (it : Bm) (l os : List Bm) : Prop where
  hpx : HpIn wr hp v' l
  old : ∀ b, v'.ownBlock = some b → v.ownBlock = some b ∨ w.heap.size ≤ b
  far : v'.ownBlock ≠ some ib ∧ v'.ownBlock ≠ some w.heap.size ∧ ∀ b, ov.ownBlock = some b → v'.ownBlock ≠ some b
  row : wr.ownsRow w.heap.size 124 5 ov os.length (flat Bm.cells os)
  item : Blk wr ib (bmC it) 124
  ans : Blk wr w.heap.size zB 124
  tch : Tch (fun k => k = hp ∨ v.ownBlock = some k) w wr
  apart : ov.ownBlock ≠ some ib ∧ ov.ownBlock ≠ some w.heap.size
  lt : w.heap.size < ib
  lth : hp < w.heap.size
theorem Tk1.step {w wr w2 : World} {hp : Nat} {v v' v2 : Value} {ib : Nat} {ov : Value} {it : Bm} {l l2 os : List Bm} (h : Tk1 w wr hp v v' ib ov it l os) (hp2 : HpIn w2 hp v2 l2) (hT : Tch (fun k => k = hp ∨ v'.ownBlock = some k) wr w2) (hv : ∀ b, v2.ownBlock = some b → v'.ownBlock = some b ∨ wr.heap.size ≤ b) :
    Tk1 w w2 hp v v2 ib ov it l2 os := by
  have hs := h.tch.size
  have hib := h.item.lt
  have han := h.ans.lt
  have hov : ∀ b, ov.ownBlock = some b → w.heap.size ≤ b ∧ b < wr.heap.size := fun b e => h.row.lt b e
  refine ⟨hp2, fun b e => ?_, ⟨fun e => ?_, fun e => ?_, fun b eo e => ?_⟩, own_kept h.row (fun b e => hT.block b (hov b e).2 ?_), hT.blk h.item ?_, hT.blk h.ans ?_, h.tch.trans hT (fun _ _ h => h) (fun k hk hh => ?_), h.apart, h.lt, h.lth⟩
  · rcases hv b e with h1 | h1
    · exact h.old b h1
    · right; omega
  · rcases hv _ e with h1 | h1
    · exact h.far.1 h1
    · omega
  · rcases hv _ e with h1 | h1
    · exact h.far.2.1 h1
    · omega
  · rcases hv _ e with h1 | h1
    · exact h.far.2.2 b eo h1
    · have := (hov b eo).2; omega
  · rintro (h1 | h1)
    · have := (hov b e).1; have := h.lth; omega
    · exact h.far.2.2 b e h1
  · rintro (h1 | h1)
    · have := h.lt; have := h.lth; omega
    · exact h.far.1 h1
  · rintro (h1 | h1)
    · have := h.lth; omega
    · exact h.far.2.1 h1
  · rcases hh with h1 | h1
    · exact Or.inl h1
    · rcases h.old _ h1 with h2 | h2
      · exact Or.inr h2
      · omega
theorem Tk1.kept {w wr w2 : World} {hp : Nat} {v v' : Value} {ib : Nat} {ov : Value} {it : Bm} {l os : List Bm} (h : Tk1 w wr hp v v' ib ov it l os) (hb : Below wr.heap.size wr w2) : Tk1 w w2 hp v v' ib ov it l os :=
  h.step (h.hpx.kept hb) (Tch.below hb) (fun _ e => Or.inl e)
/-- The item in hand is another one now. -/
theorem Tk1.setItem {w wr w2 : World} {hp : Nat} {v v' : Value} {ib : Nat} {ov : Value} {it it2 : Bm} {l os : List Bm} (h : Tk1 w wr hp v v' ib ov it l os) (hw : w2 = put5b wr ib 0 it2) : Tk1 w w2 hp v v' ib ov it2 l os := by
  have hT : Tch (fun j => j = ib) wr w2 := by rw [hw]; exact put5b_grown wr ib 0 it2
  have hib := h.lt
  have hth := h.lth
  refine ⟨⟨hT.blk h.hpx.blk (by show ¬ hp = ib; omega), own_kept h.hpx.row (fun b e => hT.block b (h.hpx.row.lt b e).2 (by intro e2; subst e2; exact h.far.1 e))⟩, h.old, h.far, own_kept h.row (fun b e => hT.block b (h.row.lt b e).2 (by intro e2; subst e2; exact h.apart.1 e)), ?_, hT.blk h.ans (by show ¬ w.heap.size = ib; omega), h.tch.trans hT (fun _ _ h => h) (fun k hk e => by omega), h.apart, h.lt, h.lth⟩
  rw [hw]
  exact ((((h.item.set 0 _).set 1 _).set 2 _).set 3 _).set 4 _
/-- One more is passed over. -/
theorem Tk1.pass {w wr w2 : World} {hp : Nat} {v v' : Value} {ib : Nat} {ov ov2 : Value} {it : Bm} {l os os2 : List Bm} (h : Tk1 w wr hp v v' ib ov it l os) (hr : w2.ownsRow w.heap.size 124 5 ov2 os2.length (flat Bm.cells os2)) (hT : Tch (fun k => ov.ownBlock = some k) wr w2) (hv : ∀ b, ov2.ownBlock = some b → ov.ownBlock = some b ∨ wr.heap.size ≤ b) : Tk1 w w2 hp v v' ib ov2 it l os2 := by
  have hs := h.tch.size
  have hib := h.item.lt
  have han := h.ans.lt
  have hlh := h.lth
  have hov : ∀ b, ov.ownBlock = some b → w.heap.size ≤ b ∧ b < wr.heap.size := fun b e => h.row.lt b e
  have hvl : ∀ b, v'.ownBlock = some b → b < wr.heap.size := fun b e => (h.hpx.row.lt b e).2
  refine ⟨⟨hT.blk h.hpx.blk (fun e => by have := (hov _ e).1; omega), own_kept h.hpx.row (fun b e => hT.block b (hvl b e) (fun e2 => h.far.2.2 b e2 e))⟩, h.old, ⟨h.far.1, h.far.2.1, fun b e e2 => ?_⟩, hr, hT.blk h.item h.apart.1, hT.blk h.ans h.apart.2, h.tch.trans hT (fun _ _ h => h) (fun k hk e => by have := (hov _ e).1; omega), ⟨fun e => ?_, fun e => ?_⟩, h.lt, h.lth⟩
  · rcases hv b e with h1 | h1
    · exact h.far.2.2 b h1 e2
    · have := hvl b e2; omega
  · rcases hv _ e with h1 | h1
    · exact h.apart.1 h1
    · omega
  · rcases hv _ e with h1 | h1
    · exact h.apart.2 h1
    · omega

theorem Tk1.done {w wr wF : World} {hp : Nat} {v v' : Value} {ib : Nat} {ov : Value} {it : Bm} {l os : List Bm} (h : Tk1 w wr hp v v' ib ov it l os) (hw : wF = put5b wr w.heap.size 0 it) : HpOk w hp v l wF ∧ Blk wF w.heap.size (bmC it) 124 := by
  have hT : Tch (fun j => j = w.heap.size) wr wF := by rw [hw]; exact put5b_grown wr w.heap.size 0 it
  have hth := h.lth
  refine ⟨⟨v', ⟨hT.blk h.hpx.blk (by show ¬ hp = w.heap.size; omega), own_kept h.hpx.row (fun b e => hT.block b (h.hpx.row.lt b e).2 (by intro e2; subst e2; exact h.far.2.1 e))⟩, h.tch.trans hT (fun _ _ h => h) (fun k hk e => by omega), h.old⟩, ?_⟩
  rw [hw]
  exact put5r_blk h.ans it
theorem bats_of {w : World} {base g cap n : Nat} {bs : List Bm} (h : w.ownsRow base 124 5 (.slice (some ⟨g, 0, none⟩) n cap) bs.length (flat Bm.cells bs)) (k : Nat) (hk : k < bs.length) :
    w.cell? ⟨g, k * 5, none⟩ = some (I bs[k].b.o) ∧ w.cell? ⟨g, k * 5 + 1, none⟩ = some (I bs[k].b.s) ∧ w.cell? ⟨g, k * 5 + 2, none⟩ = some (I bs[k].b.t) ∧ w.cell? ⟨g, k * 5 + 3, none⟩ = some (.slice bs[k].ca bs[k].b.clock.length bs[k].cc) ∧ w.cell? ⟨g, k * 5 + 4, none⟩ = some (.slice bs[k].ea bs[k].b.effs.length bs[k].ec) := by
  have hc := h.cells (g := g) rfl
  have hx : ∀ j (_ : j < 5) u, (bs[k].cells)[j]? = some u → w.cell? ⟨g, k * 5 + j, none⟩ = some u := fun j hj u hu => by
    have := hc (k * 5 + j) u ((flat_get Bm.cells 5 bmCells_len bs k hk j hj).trans hu)
    rw [Addr.add_lit, Nat.zero_add] at this
    exact this
  exact ⟨hx 0 (by omega) _ rfl, hx 1 (by omega) _ rfl, hx 2 (by omega) _ rfl, hx 3 (by omega) _ rfl, hx 4 (by omega) _ rfl⟩
theorem riseP_len {α : Type} (less : α → α → Bool) (bs : List α) (i : Nat) : (riseP less bs i).length = bs.length := by
  induction i using Nat.strongRecOn generalizing bs with
  | _ i ih =>
    rw [riseP]
    split
    · rename_i h
      rw [ih ((i - 1) / 2) (by omega), swapP_len]
    · rfl
theorem pushP_len {α : Type} (less : α → α → Bool) (bs : List α) (x : α) : (pushP less bs x).length = bs.length + 1 := by
  unfold pushP
  rw [riseP_len]
  simp
theorem pushAll_len {α : Type} (less : α → α → Bool) (os : List α) : ∀ l : List α, (os.foldl (pushP less) l).length = l.length + os.length := by
  induction os with
  | nil => intro l; rfl
  | cons x os ih => intro l; rw [List.foldl_cons, ih, pushP_len, List.length_cons]; omega

end Go.Proofs.YtfmcngncaffloaaGreatDoor

namespace Go.Proofs.YtfmcngncaffloaaGreatDoor
open Go.RowKit
set_option maxRecDepth 100000

set_option maxHeartbeats 800000 in
theorem htake_like (hp : Nat) (v : Value) (bs : List Bm) (gb : Nat) (y : Bm) (w : World) (h : HpIn w hp v bs) (hl : bs.length ≤ 1000) (hb : Blk w gb (bmC y) 124) (hg1 : gb ≠ hp) (hg2 : ¬ v.ownBlock = some gb) :
    Calls Tryz.prog 117 #[.pointer (some ⟨hp, 0, none⟩), .func (.func 163) #[] #[.pointer (some ⟨gb, 0, none⟩)]] w fun e w' => TakeHp w hp v (takeP lessM (fun m => likeB y.b m.b) bs) e w' := by
  have HP : Hid (HpIn w hp v bs) := h
  have HG : Hid (Blk w gb (bmC y) 124) := hb
  clear h hb
  go_enter Tryz.func117, Tryz.ntmps117
  go_wp2_with fail
  obtain ⟨w0, hw0⟩ : ∃ w0, w0 = w.alloc (.cells zB 124) := ⟨_, rfl⟩
  have HB0 : Hid (Below w.heap.size w w0) := by rw [hw0]; exact (Below.refl _ _).alloc (Nat.le_refl _) _
  have HR0 : Hid (Blk w0 w.heap.size zB 124) := by rw [hw0]; exact heap_alloc_new w _
  rw [show w.alloc (.cells #[.int .i64 0, .int .i64 0, .int .i64 0, .slice none 0 0, .slice none 0 0] 124) = w0 from hw0.symm]
  clear hw0
  refine (hpop_u hp v bs w0 (HP.out.kept HB0.out) (by omega)).mono ?_
  rintro e w1 ⟨rfl, v1, hp1, hT1, hv1⟩
  have HVB : Hid (∀ k, v.ownBlock = some k → k < w.heap.size) := fun k hk => (HP.out.row.lt k hk).2
  have hpw : hp < w.heap.size := HP.out.blk.lt
  have hs1 : w.heap.size < w1.heap.size := by have := hT1.size; have := HR0.out.lt; omega
  have HTF : Hid (takeP lessM (fun m => likeB y.b m.b) bs = finP lessM (fun m => likeB y.b m.b) bs.length (popR lessM bs).1 (popR lessM bs).2 []) := take_fin _ _ _
  have HLE : Hid ((popR lessM bs).2.length + (popR lessM bs).1.toList.length ≤ bs.length) := popR_len _ _
  go_wp2_with fail
  generalize (popR lessM bs).2 = l0 at *
  generalize (popR lessM bs).1 = r0 at *
  have HK : Hid (Tk1 w (w1.alloc (.cells (bmC (r0.getD bmZ)) 124)) hp v v1 w1.heap.size (.slice none 0 0) (r0.getD bmZ) l0 []) := by
    have hTw : Tch (fun k => k = hp ∨ v.ownBlock = some k) w w1 := (Tch.below HB0.out).trans hT1 (fun _ _ h => h) (fun _ _ h => h)
    refine ⟨hp1.kept ((Below.refl _ _).alloc (Nat.le_refl _) _), fun b e => Or.inl (by rw [← hv1]; exact e), ⟨?_, ?_, fun b e => by simp [Value.ownBlock] at e⟩, ⟨rfl, .inl ⟨rfl, rfl⟩⟩, heap_alloc_new w1 _, ?_, hTw.alloc _, ⟨by simp [Value.ownBlock], by simp [Value.ownBlock]⟩, hs1, hpw⟩
    · intro e; rw [hv1] at e; have := HVB.out _ e; omega
    · intro e; rw [hv1] at e; have := HVB.out _ e; omega
    · exact (hT1.blk HR0.out (by rintro (h | h); omega; have := HVB.out _ h; omega)).alloc _
  clear hp1 hT1 hv1 HB0 HR0 HP
  obtain ⟨wS, hwS⟩ : ∃ wS, wS = w1.alloc (.cells (bmC (r0.getD bmZ)) 124) := ⟨_, rfl⟩
  obtain ⟨ib, hib⟩ : ∃ ib, ib = w1.heap.size := ⟨_, rfl⟩
  change Code.wp _ _ _ _ (w1.alloc (.cells (bmC (r0.getD bmZ)) 124))
  rw [← hwS, ← hib] at HK
  rw [← hwS, ← hib]
  clear hwS hib hs1
  go_loopw [6, 8] (fun v6 v8 wr => ∃ (n : Nat) (r : Option Bm) (l os : List Bm) (oa : Option Addr) (oc : Nat) (v' : Value), v6 = .slice oa os.length oc ∧ v8 = .bool r.isSome ∧ os.length + n = bs.length ∧ l.length + r.toList.length ≤ n ∧ Hid (takeP lessM (fun m => likeB y.b m.b) bs = finP lessM (fun m => likeB y.b m.b) n r l os) ∧ Hid (Tk1 w wr hp v v' ib (.slice oa os.length oc) (r.getD bmZ) l os)) (fun v6 _ _ => match v6 with | .slice _ k _ => bs.length + 1 - k | _ => 0)
  case atStart => exact ⟨bs.length, r0, l0, [], none, 0, v1, rfl, rfl, by simp, HLE.out, HTF, HK⟩
  case round =>
    obtain ⟨n, r, l, os, oa, oc, v', rfl, rfl, hn, hln, HF, HKr⟩ := hrel
    clear HK HTF HLE
    cases r with
    | none =>
      have HKT := HKr
      have HFT : Hid (takeP lessM (fun m => likeB y.b m.b) bs = backP lessM (none, l, os)) := HF.out
      clear HKr HF
      go_wp2_with fail
      go_loopw [34] (fun v34 wX => ∃ (k : Nat) (v2 : Value), k ≤ os.length ∧ v34 = I k ∧ Hid (Tk1 w wX hp v v2 ib (.slice oa os.length oc) bmZ ((os.take k).foldl (pushP lessM) l) os)) (fun v34 _ => os.length - (intOf v34).toNat)
      case atStart => exact ⟨0, v', Nat.zero_le _, rfl, HKT⟩
      case round =>
        obtain ⟨k, v2, hk, rfl, HKq⟩ := hrel
        clear HKT
        by_cases hlt : k < os.length
        · obtain ⟨go, rfl⟩ : ∃ go, oa = some ⟨go, 0, none⟩ := by
            rcases HKq.out.row.2 with ⟨_, hz⟩ | ⟨g, cap, cur, e, _⟩
            · omega
            · cases e; exact ⟨g, rfl⟩
          obtain ⟨e0, e1, e2, e3, e4⟩ := bats_of HKq.out.row k hlt
          have HNX : Hid ((os.take (k + 1)).foldl (pushP lessM) l = pushP lessM ((os.take k).foldl (pushP lessM) l) os[k]) := by
            show _ = _
            rw [List.take_succ_eq_append_getElem hlt, List.foldl_append]
            rfl
          have HLN : Hid (((os.take k).foldl (pushP lessM) l).length ≤ 1000000) := by
            show _ ≤ _
            rw [pushAll_len, List.length_take]
            omega
          have hki : (k : Int) < os.length := by omega
          generalize os[k] = z at *
          go_wp2_with fail
          have HKa : Hid (Tk1 w (wr.alloc (.cells (bmC z) 124)) hp v v2 ib (.slice (some ⟨go, 0, none⟩) os.length oc) bmZ ((os.take k).foldl (pushP lessM) l) os) := HKq.out.kept ((Below.refl _ _).alloc (Nat.le_refl _) _)
          refine (hpush_any hp v2 ((os.take k).foldl (pushP lessM) l) z (wr.alloc (.cells (bmC z) 124)) HKa.out.hpx HLN.out).mono ?_
          rintro e w5 ⟨rfl, v3, hp3, hT3, hv3⟩
          have HK5 : Hid (Tk1 w w5 hp v v3 ib (.slice (some ⟨go, 0, none⟩) os.length oc) bmZ ((os.take (k + 1)).foldl (pushP lessM) l) os) := by
            show Tk1 _ _ _ _ _ _ _ _ _ _
            rw [HNX.out]
            exact HKa.out.step hp3 hT3 hv3
          clear hp3 hT3 hv3 HKa HKq e0 e1 e2 e3 e4 HNX
          go_wp2_with fail
          go_roundw
          case rel => exact ⟨k + 1, v3, hlt, by go_num, HK5⟩
          case measure => simp [intOf]; omega
        · have HT9 : Hid (Tk1 w wr hp v v2 ib (.slice oa os.length oc) bmZ (os.foldl (pushP lessM) l) os) := by
            have := HKq.out
            rw [List.take_of_length_le (by omega)] at this
            exact this
          have hki : ¬ (k : Int) < os.length := by omega
          clear HKq
          have x0 : wr.cell? ⟨ib, 0, none⟩ = some (I (bmZ).b.o) := HT9.out.item.cell 0
          have x1 : wr.cell? ⟨ib, 1, none⟩ = some (I (bmZ).b.s) := HT9.out.item.cell 1
          have x2 : wr.cell? ⟨ib, 2, none⟩ = some (I (bmZ).b.t) := HT9.out.item.cell 2
          have x3 : wr.cell? ⟨ib, 3, none⟩ = some (.slice (bmZ).ca (bmZ).b.clock.length (bmZ).cc) := HT9.out.item.cell 3
          have x4 : wr.cell? ⟨ib, 4, none⟩ = some (.slice (bmZ).ea (bmZ).b.effs.length (bmZ).ec) := HT9.out.item.cell 4
          have r0 : wr.cell? ⟨w.heap.size, 0, none⟩ = some (.int .i64 0) := HT9.out.ans.cell 0
          have r1 : wr.cell? ⟨w.heap.size, 1, none⟩ = some (.int .i64 0) := HT9.out.ans.cell 1
          have r2 : wr.cell? ⟨w.heap.size, 2, none⟩ = some (.int .i64 0) := HT9.out.ans.cell 2
          have r3 : wr.cell? ⟨w.heap.size, 3, none⟩ = some (.slice none 0 0) := HT9.out.ans.cell 3
          have r4 : wr.cell? ⟨w.heap.size, 4, none⟩ = some (.slice none 0 0) := HT9.out.ans.cell 4
          have z0 := HT9.out.ans.frozen 0
          have z1 := HT9.out.ans.frozen 1
          have z2 := HT9.out.ans.frozen 2
          have z3 := HT9.out.ans.frozen 3
          have z4 := HT9.out.ans.frozen 4
          go_wp2_with fail
          obtain ⟨wF, hwF⟩ : ∃ wF, wF = put5b wr w.heap.size 0 bmZ := ⟨_, rfl⟩
          have HOK : Hid (HpOk w hp v (os.foldl (pushP lessM) l) wF) := (HT9.out.done hwF).1
          have HBF : Hid (Blk wF w.heap.size (bmC bmZ) 124) := (HT9.out.done hwF).2
          change bodyPost _ _ _ Exit.ret _ (put5b wr w.heap.size 0 bmZ)
          rw [← hwF]
          clear hwF HT9 x0 x1 x2 x3 x4 r0 r1 r2 r3 r4 z0 z1 z2 z3 z4
          have f0 : wF.cell? ⟨w.heap.size, 0, none⟩ = some (I (bmZ).b.o) := HBF.out.cell 0
          have f1 : wF.cell? ⟨w.heap.size, 1, none⟩ = some (I (bmZ).b.s) := HBF.out.cell 1
          have f2 : wF.cell? ⟨w.heap.size, 2, none⟩ = some (I (bmZ).b.t) := HBF.out.cell 2
          have f3 : wF.cell? ⟨w.heap.size, 3, none⟩ = some (.slice (bmZ).ca (bmZ).b.clock.length (bmZ).cc) := HBF.out.cell 3
          have f4 : wF.cell? ⟨w.heap.size, 4, none⟩ = some (.slice (bmZ).ea (bmZ).b.effs.length (bmZ).ec) := HBF.out.cell 4
          refine bodyPost_ret (v := .tuple #[bmV bmZ, .bool false]) (by simp [results, Tryz.results117, go_sem, f0, f1, f2, f3, f4]) rfl ?_
          rw [HFT.out]
          exact ⟨rfl, HOK.out⟩
    | some x =>
      have i0 : wr.cell? ⟨ib, 0, none⟩ = some (I x.b.o) := HKr.out.item.cell 0
      have i1 : wr.cell? ⟨ib, 1, none⟩ = some (I x.b.s) := HKr.out.item.cell 1
      have i2 : wr.cell? ⟨ib, 2, none⟩ = some (I x.b.t) := HKr.out.item.cell 2
      have i3 : wr.cell? ⟨ib, 3, none⟩ = some (.slice x.ca x.b.clock.length x.cc) := HKr.out.item.cell 3
      have i4 : wr.cell? ⟨ib, 4, none⟩ = some (.slice x.ea x.b.effs.length x.ec) := HKr.out.item.cell 4
      go_wp2_with fail
      refine (like1_any x y gb wr (HKr.out.tch.blk HG.out (by rintro (h | h); exact hg1 h; exact hg2 h))).mono ?_
      rintro e w2 ⟨rfl, hb2⟩
      have HK2 : Hid (Tk1 w w2 hp v v' ib (.slice oa os.length oc) x l os) := HKr.out.kept hb2
      have HF2 : Hid (takeP lessM (fun m => likeB y.b m.b) bs = if likeB y.b x.b then backP lessM (some x, l, os) else backP lessM (popAll lessM (fun m => likeB y.b m.b) n l (os ++ [x]))) := HF.out
      clear HKr HF hb2 i0 i1 i2 i3 i4
      generalize likeB y.b x.b = bl at *
      cases bl
      · have HFN : Hid (takeP lessM (fun m => likeB y.b m.b) bs = backP lessM (popAll lessM (fun m => likeB y.b m.b) n l (os ++ [x]))) := HF2.out
        clear HF2
        have i0 : w2.cell? ⟨ib, 0, none⟩ = some (I x.b.o) := HK2.out.item.cell 0
        have i1 : w2.cell? ⟨ib, 1, none⟩ = some (I x.b.s) := HK2.out.item.cell 1
        have i2 : w2.cell? ⟨ib, 2, none⟩ = some (I x.b.t) := HK2.out.item.cell 2
        have i3 : w2.cell? ⟨ib, 3, none⟩ = some (.slice x.ca x.b.clock.length x.cc) := HK2.out.item.cell 3
        have i4 : w2.cell? ⟨ib, 4, none⟩ = some (.slice x.ea x.b.effs.length x.ec) := HK2.out.item.cell 4
        obtain ⟨ii, HI⟩ : ∃ i, Hid (Tryz.prog.info? 124 = some i ∧ i.zero = some (.agg #[.int .i64 0, .int .i64 0, .int .i64 0, .slice none 0 0, .slice none 0 0]) ∧ i.size = 5 ∧ i.bytes = 72) := by obtain ⟨i, h⟩ := info_parts infoBt; exact ⟨i, h⟩
        have hone : ∀ u ∈ x.cells, u.oneCell' = true := by have := bm_one [x]; simpa [flat] using this
        have HRW : Hid ((w2.alloc (.cells (bmC x) 124)).ownsRow w.heap.size 124 5 (.slice oa os.length oc) os.length (flat Bm.cells os)) := HK2.out.row.alloc _
        have HLT : Hid (∀ j u, (x.cells)[j]? = some u → (w2.alloc (.cells (bmC x) 124)).cell? ((⟨w2.heap.size, 0, none⟩ : Addr).add j) = some u) := lit_any w2 x.cells _
        have hsz2 : w.heap.size ≤ (w2.alloc (.cells (bmC x) 124)).heap.size := by have := HK2.out.tch.size; simp; omega
        have HSZ2 : Hid (w.heap.size ≤ (w2.alloc (.cells (bmC x) 124)).heap.size) := hsz2
        clear hsz2
        have n1 : os.length + 1 ≤ maxLen := by unfold maxLen; omega
        have n2 : (os.length + 1) * 72 ≤ 140737488355328 := by omega
        go_wp2_with (first | (at_builtin; refine wpList_append_own_at _ rfl _ _ _ rfl w.heap.size 124 ii (.agg #[.int .i64 0, .int .i64 0, .int .i64 0, .slice none 0 0, .slice none 0 0]) 5 72 Tryz.underlying108 HI.out.1 HI.out.2.1 HI.out.2.2.1 HI.out.2.2.2 rfl (by decide) (.slice oa os.length oc) os.length (flat Bm.cells os) rfl HRW.out ⟨w2.heap.size, 0, none⟩ 1 1 x.cells rfl rfl HLT.out hone n1 n2 HSZ2.out ?_; intro ov3 w3 hown3 hgrow3 hnil3 hat3))
        have hln' : l.length + 1 ≤ n := by simpa using hln
        obtain ⟨n', rfl⟩ : ∃ n', n = n' + 1 := ⟨n - 1, by omega⟩
        have hsn : (os ++ [x]).length = os.length + 1 := by simp
        obtain ⟨og, oc3, rfl⟩ : ∃ g c, ov3 = .slice (some ⟨g, 0, none⟩) (os ++ [x]).length c := by
          rcases hown3.2 with ⟨_, hz⟩ | ⟨g, cap, cur, e, _⟩
          · omega
          · exact ⟨g, cap, by rw [hsn]; exact e⟩
        have HK3 : Hid (Tk1 w w3 hp v v' ib (.slice (some ⟨og, 0, none⟩) (os ++ [x]).length oc3) x l (os ++ [x])) := by
          refine (HK2.out.kept ((Below.refl _ _).alloc (Nat.le_refl _) (.cells (bmC x) 124))).pass ?_ (Tch.grown hgrow3) (fun b e => ?_)
          · rw [hsn, flat_snoc5]
            rw [hsn] at hown3
            exact hown3
          · rcases hat3 with h | h
            · rw [e] at h; exact Or.inl h.symm
            · rw [e] at h; cases h; exact Or.inr (Nat.le_refl _)
        have HFP : Hid (takeP lessM (fun m => likeB y.b m.b) bs = finP lessM (fun m => likeB y.b m.b) n' (popR lessM l).1 (popR lessM l).2 (os ++ [x])) := by
          show _ = _
          rw [HFN.out, fin_pop]
        have HLP : Hid ((popR lessM l).2.length + (popR lessM l).1.toList.length ≤ l.length) := popR_len _ _
        clear hown3 hgrow3 hnil3 hat3 HK2 HFN HRW HLT HSZ2 i0 i1 i2 i3 i4 HI hone n1 n2
        refine (hpop_u hp v' l w3 HK3.out.hpx (by omega)).mono ?_
        rintro e w4 ⟨rfl, v4, hp4, hT4, hv4⟩
        have HK4 : Hid (Tk1 w w4 hp v v4 ib (.slice (some ⟨og, 0, none⟩) (os ++ [x]).length oc3) x (popR lessM l).2 (os ++ [x])) := HK3.out.step hp4 hT4 (fun b e => Or.inl (by rw [← hv4]; exact e))
        clear hp4 hT4 hv4 HK3
        generalize (popR lessM l).2 = l4 at *
        generalize (popR lessM l).1 = r4 at *
        have i0 : w4.cell? ⟨ib, 0, none⟩ = some (I x.b.o) := HK4.out.item.cell 0
        have i1 : w4.cell? ⟨ib, 1, none⟩ = some (I x.b.s) := HK4.out.item.cell 1
        have i2 : w4.cell? ⟨ib, 2, none⟩ = some (I x.b.t) := HK4.out.item.cell 2
        have i3 : w4.cell? ⟨ib, 3, none⟩ = some (.slice x.ca x.b.clock.length x.cc) := HK4.out.item.cell 3
        have i4 : w4.cell? ⟨ib, 4, none⟩ = some (.slice x.ea x.b.effs.length x.ec) := HK4.out.item.cell 4
        have z0 := HK4.out.item.frozen 0
        have z1 := HK4.out.item.frozen 1
        have z2 := HK4.out.item.frozen 2
        have z3 := HK4.out.item.frozen 3
        have z4 := HK4.out.item.frozen 4
        have HK5 : Hid (Tk1 w (put5b w4 ib 0 (r4.getD bmZ)) hp v v4 ib (.slice (some ⟨og, 0, none⟩) (os ++ [x]).length oc3) (r4.getD bmZ) l4 (os ++ [x])) := HK4.out.setItem rfl
        clear HK4
        go_wp2_with fail
        go_roundw
        case rel => exact ⟨n', r4, l4, os ++ [x], some ⟨og, 0, none⟩, oc3, v4, by rw [hsn], rfl, by omega, Nat.le_trans HLP.out (by omega), HFP, HK5⟩
        case measure => simp; omega
      · have HKT := HK2
        have HFT : Hid (takeP lessM (fun m => likeB y.b m.b) bs = backP lessM (some x, l, os)) := HF2.out
        clear HK2 HF2
        go_wp2_with fail
        go_loopw [34] (fun v34 wX => ∃ (k : Nat) (v2 : Value), k ≤ os.length ∧ v34 = I k ∧ Hid (Tk1 w wX hp v v2 ib (.slice oa os.length oc) x ((os.take k).foldl (pushP lessM) l) os)) (fun v34 _ => os.length - (intOf v34).toNat)
        case atStart => exact ⟨0, v', Nat.zero_le _, rfl, HKT⟩
        case round =>
          obtain ⟨k, v2, hk, rfl, HKq⟩ := hrel
          clear HKT
          by_cases hlt : k < os.length
          · obtain ⟨go, rfl⟩ : ∃ go, oa = some ⟨go, 0, none⟩ := by
              rcases HKq.out.row.2 with ⟨_, hz⟩ | ⟨g, cap, cur, e, _⟩
              · omega
              · cases e; exact ⟨g, rfl⟩
            obtain ⟨e0, e1, e2, e3, e4⟩ := bats_of HKq.out.row k hlt
            have HNX : Hid ((os.take (k + 1)).foldl (pushP lessM) l = pushP lessM ((os.take k).foldl (pushP lessM) l) os[k]) := by
              show _ = _
              rw [List.take_succ_eq_append_getElem hlt, List.foldl_append]
              rfl
            have HLN : Hid (((os.take k).foldl (pushP lessM) l).length ≤ 1000000) := by
              show _ ≤ _
              rw [pushAll_len, List.length_take]
              omega
            have hki : (k : Int) < os.length := by omega
            generalize os[k] = z at *
            go_wp2_with fail
            have HKa : Hid (Tk1 w (wr.alloc (.cells (bmC z) 124)) hp v v2 ib (.slice (some ⟨go, 0, none⟩) os.length oc) x ((os.take k).foldl (pushP lessM) l) os) := HKq.out.kept ((Below.refl _ _).alloc (Nat.le_refl _) _)
            refine (hpush_any hp v2 ((os.take k).foldl (pushP lessM) l) z (wr.alloc (.cells (bmC z) 124)) HKa.out.hpx HLN.out).mono ?_
            rintro e w5 ⟨rfl, v3, hp3, hT3, hv3⟩
            have HK5 : Hid (Tk1 w w5 hp v v3 ib (.slice (some ⟨go, 0, none⟩) os.length oc) x ((os.take (k + 1)).foldl (pushP lessM) l) os) := by
              show Tk1 _ _ _ _ _ _ _ _ _ _
              rw [HNX.out]
              exact HKa.out.step hp3 hT3 hv3
            clear hp3 hT3 hv3 HKa HKq e0 e1 e2 e3 e4 HNX
            go_wp2_with fail
            go_roundw
            case rel => exact ⟨k + 1, v3, hlt, by go_num, HK5⟩
            case measure => simp [intOf]; omega
          · have HT9 : Hid (Tk1 w wr hp v v2 ib (.slice oa os.length oc) x (os.foldl (pushP lessM) l) os) := by
              have := HKq.out
              rw [List.take_of_length_le (by omega)] at this
              exact this
            have hki : ¬ (k : Int) < os.length := by omega
            clear HKq
            have x0 : wr.cell? ⟨ib, 0, none⟩ = some (I (x).b.o) := HT9.out.item.cell 0
            have x1 : wr.cell? ⟨ib, 1, none⟩ = some (I (x).b.s) := HT9.out.item.cell 1
            have x2 : wr.cell? ⟨ib, 2, none⟩ = some (I (x).b.t) := HT9.out.item.cell 2
            have x3 : wr.cell? ⟨ib, 3, none⟩ = some (.slice (x).ca (x).b.clock.length (x).cc) := HT9.out.item.cell 3
            have x4 : wr.cell? ⟨ib, 4, none⟩ = some (.slice (x).ea (x).b.effs.length (x).ec) := HT9.out.item.cell 4
            have r0 : wr.cell? ⟨w.heap.size, 0, none⟩ = some (.int .i64 0) := HT9.out.ans.cell 0
            have r1 : wr.cell? ⟨w.heap.size, 1, none⟩ = some (.int .i64 0) := HT9.out.ans.cell 1
            have r2 : wr.cell? ⟨w.heap.size, 2, none⟩ = some (.int .i64 0) := HT9.out.ans.cell 2
            have r3 : wr.cell? ⟨w.heap.size, 3, none⟩ = some (.slice none 0 0) := HT9.out.ans.cell 3
            have r4 : wr.cell? ⟨w.heap.size, 4, none⟩ = some (.slice none 0 0) := HT9.out.ans.cell 4
            have z0 := HT9.out.ans.frozen 0
            have z1 := HT9.out.ans.frozen 1
            have z2 := HT9.out.ans.frozen 2
            have z3 := HT9.out.ans.frozen 3
            have z4 := HT9.out.ans.frozen 4
            go_wp2_with fail
            obtain ⟨wF, hwF⟩ : ∃ wF, wF = put5b wr w.heap.size 0 x := ⟨_, rfl⟩
            have HOK : Hid (HpOk w hp v (os.foldl (pushP lessM) l) wF) := (HT9.out.done hwF).1
            have HBF : Hid (Blk wF w.heap.size (bmC x) 124) := (HT9.out.done hwF).2
            change bodyPost _ _ _ Exit.ret _ (put5b wr w.heap.size 0 x)
            rw [← hwF]
            clear hwF HT9 x0 x1 x2 x3 x4 r0 r1 r2 r3 r4 z0 z1 z2 z3 z4
            have f0 : wF.cell? ⟨w.heap.size, 0, none⟩ = some (I (x).b.o) := HBF.out.cell 0
            have f1 : wF.cell? ⟨w.heap.size, 1, none⟩ = some (I (x).b.s) := HBF.out.cell 1
            have f2 : wF.cell? ⟨w.heap.size, 2, none⟩ = some (I (x).b.t) := HBF.out.cell 2
            have f3 : wF.cell? ⟨w.heap.size, 3, none⟩ = some (.slice (x).ca (x).b.clock.length (x).cc) := HBF.out.cell 3
            have f4 : wF.cell? ⟨w.heap.size, 4, none⟩ = some (.slice (x).ea (x).b.effs.length (x).ec) := HBF.out.cell 4
            refine bodyPost_ret (v := .tuple #[bmV x, .bool true]) (by simp [results, Tryz.results117, go_sem, f0, f1, f2, f3, f4]) rfl ?_
            rw [HFT.out]
            exact ⟨rfl, HOK.out⟩


end Go.Proofs.YtfmcngncaffloaaGreatDoor

namespace Go.Proofs.YtfmcngncaffloaaGreatDoor
open Go.RowKit
set_option maxRecDepth 100000

/-- Where the first of them stands, or -1: all that is asked of it is whether there is one. -/
def IdxOk (w : World) (b : Bool) (e : Ending) (w' : World) : Prop := ∃ i : Int, e = .returned (I i) ∧ decide (0 ≤ i) = b ∧ Below w.heap.size w w'
end Go.Proofs.YtfmcngncaffloaaGreatDoor

namespace Go.Proofs.YtfmcngncaffloaaGreatDoor
open Go.RowKit
set_option maxRecDepth 100000

/-- A message. -/
structure Ms where
  k : Int
  f : Int
  t : Int
  bs : List UInt8
  sp : Bool
def Ms.cells (m : Ms) : List Value := [I m.k, I m.f, I m.t, .string ⟨m.bs.toArray⟩, .bool m.sp]
abbrev msV (m : Ms) : Value := .agg #[I m.k, I m.f, I m.t, .string ⟨m.bs.toArray⟩, .bool m.sp]
abbrev msC (m : Ms) : Array Value := #[I m.k, I m.f, I m.t, .string ⟨m.bs.toArray⟩, .bool m.sp]
theorem ms_one (ls : List Ms) : ∀ u ∈ flat Ms.cells ls, u.oneCell' = true := by
  induction ls with
  | nil => intro u hu; simp [flat] at hu
  | cons m ls ih =>
    intro u hu
    simp only [flat, List.mem_append] at hu
    rcases hu with hu | hu
    · simp only [Ms.cells, List.mem_cons, List.not_mem_nil, or_false] at hu
      rcases hu with rfl | rfl | rfl | rfl | rfl <;> rfl
    · exact ih u hu
theorem infoMs : (Tryz.prog.info? 162).map (fun i => (i.zero, i.size, i.bytes)) = some (some (.agg #[.int .i64 0, .int .i64 0, .int .i64 0, .string ⟨#[]⟩, .bool false]), 5, 48) := by kernel_rfl
theorem flat_snocM (l : List Ms) (x : Ms) : flat Ms.cells (l ++ [x]) = flat Ms.cells l ++ x.cells := by
  rw [flat_append]
  show _ ++ (x.cells ++ []) = _
  rw [List.append_nil]
/-- What is under way, in memory. -/
structure PoIn (w : World) (own : Clr) (c pp ch : Nat) (pv : Value) (ms : List Ms) : Prop where
  blk : Blk w pp #[.chan (some ch), pv] 119
  chn : ∃ buf s r, w.heap[ch]? = some (.chan 40 buf false s r false) ∧ buf.size = ms.length
  row : w.ownsRow 0 162 5 pv ms.length (flat Ms.cells ms)
  own1 : own pp = c
  own2 : own ch = c
  own3 : ∀ g, pv.ownBlock = some g → own g = c
  most : ms.length ≤ 40
theorem PoIn.chlt {w : World} {own : Clr} {c pp ch : Nat} {pv : Value} {ms : List Ms} (h : PoIn w own c pp ch pv ms) : ch < w.heap.size := by
  obtain ⟨_, _, _, hc, _⟩ := h.chn
  exact (Array.getElem?_eq_some_iff.1 hc).1
theorem PoIn.keep {w w' : World} {own own' : Clr} {c pp ch : Nat} {pv : Value} {ms : List Ms} (h : PoIn w own c pp ch pv ms) (hs : Same own c w w') (he : Ext own own' w.heap.size) : PoIn w' own' c pp ch pv ms := by
  obtain ⟨buf, s, r, hc, hb⟩ := h.chn
  exact ⟨(hs pp h.blk.lt h.own1).trans h.blk, ⟨buf, s, r, (hs ch h.chlt h.own2).trans hc, hb⟩, own_kept h.row (fun g e => hs g (h.row.lt g e).2 (h.own3 g e)), (he pp h.blk.lt).trans h.own1, (he ch h.chlt).trans h.own2, fun g e => (he g (h.row.lt g e).2).trans (h.own3 g e), h.most⟩
/-- What a call leaves of what is under way. -/
def PoOk (w : World) (own : Clr) (c pp ch : Nat) (ms : List Ms) (w' : World) : Prop := ∃ own' pv', Ext own own' w.heap.size ∧ PoIn w' own' c pp ch pv' ms ∧ TchC own c w w'

set_option maxHeartbeats 1600000 in
theorem padd_room (own : Clr) (c pp ch : Nat) (pv : Value) (ms : List Ms) (m : Ms) (w : World) (h : PoIn w own c pp ch pv ms) (hl : ms.length < 40) :
    Calls Tryz.prog 81 #[.pointer (some ⟨pp, 0, none⟩), msV m] w fun e w' => e = .returned (.tuple #[]) ∧ PoOk w own c pp ch (ms ++ [m]) w' := by
  obtain ⟨wA, hwA⟩ : ∃ wA, wA = w.alloc (.cells (msC m) 162) := ⟨_, rfl⟩
  have HBA : Hid (Below w.heap.size w wA) := by rw [hwA]; exact (Below.refl _ _).alloc (Nat.le_refl _) _
  have HX : Hid (Blk wA w.heap.size (msC m) 162) := by rw [hwA]; exact heap_alloc_new w _
  have HP : Hid (PoIn wA own c pp ch pv ms) := h.keep (fun b hb _ => HBA.out.block b hb) (Ext.refl _ _)
  have HPW : Hid (PoIn w own c pp ch pv ms) := h
  have c0 : wA.cell? ⟨pp, 0, none⟩ = some (.chan (some ch)) := HP.out.blk.cell 0
  clear h
  refine calls_of_wpN Tryz.func81 rfl ?_
  simp only [Tryz.ntmps81, List.size_toArray, List.length_cons, List.length_nil, Nat.reduceAdd, Nat.reduceSub, Array.replicate_succ, Array.replicate_zero, List.push_toArray, List.append_toArray, List.nil_append, List.cons_append]
  refine wpN_seq (wpN_of ?_)
  go_wp2_with fail
  change wpN _ _ _ _ (w.alloc (.cells (msC m) 162))
  rw [← hwA]
  clear hwA
  refine wpN_seq (wpN_of ?_)
  go_wp2_with fail
  obtain ⟨buf, sn, rn, hch, hbuf⟩ := HP.out.chn
  refine wpN_seq (wpN_region ?_)
  change wpR _ _ _ [0, 1, 2] _ _
  refine wpR_comm (i := 0) (cases := #[Go.Conc.scase ch (.agg #[]) (.agg #[])]) (blocking := false) (shape := .select) (w1 := wA) rfl rfl (by simp [go_sem, execOp, Go.Conc.scase, Act.eval]) (fun fr cs es hs => Go.Conc.step_lone_select_send_room hs hch (by omega)) ?_
  simp only [Act.put, List.getElem_toArray, List.getElem_cons_zero, List.setIfInBounds_toArray, List.set_cons_succ, List.set_cons_zero]
  refine wpR_value (i := 1) rfl rfl (v := .int .i64 0) (w' := wA.setChan ch 40 (buf.push (.agg #[])) false (sn + 1) rn false) (by simp [go_sem, execOp, Act.eval]) ?_
  simp only [Act.put, List.getElem_toArray, List.getElem_cons_zero, List.getElem_cons_succ, List.setIfInBounds_toArray, List.set_cons_succ, List.set_cons_zero]
  refine wpR_value (i := 2) rfl rfl (v := .bool true) (w' := wA.setChan ch 40 (buf.push (.agg #[])) false (sn + 1) rn false) (by simp [go_sem, execOp, Act.eval]) ?_
  simp only [Act.put, List.getElem_toArray, List.getElem_cons_zero, List.getElem_cons_succ, List.setIfInBounds_toArray, List.set_cons_succ, List.set_cons_zero]
  refine wpR_end (wpN_of ?_)
  obtain ⟨w2, hw2⟩ : ∃ w2, w2 = wA.setChan ch 40 (buf.push (.agg #[])) false (sn + 1) rn false := ⟨_, rfl⟩
  have hT2 : Tch (fun k => k = ch) wA w2 := by rw [hw2]; exact (Tch.refl _ _).setChan _ _ _ _ _ _ _ (Or.inl rfl)
  have HC2 : Hid (∃ buf s r, w2.heap[ch]? = some (.chan 40 buf false s r false) ∧ buf.size = ms.length + 1) := ⟨_, _, _, by rw [hw2]; exact Go.Conc.heap_setChan _ _ _ _ _ _ _ _ HP.out.chlt, by simp [hbuf]⟩
  rw [← hw2]
  clear hw2 hch hbuf buf sn rn
  have hne1 : pp ≠ ch := by
    rintro rfl
    obtain ⟨_, _, _, hc, _⟩ := HP.out.chn
    cases HP.out.blk.symm.trans hc
  have HNG : Hid (¬ pv.ownBlock = some ch ∧ ¬ pv.ownBlock = some pp) := by
    obtain ⟨_, _, _, hc, _⟩ := HP.out.chn
    rcases HP.out.row.2 with ⟨rfl, _⟩ | ⟨g, cap, cur, rfl, _, hg, _, _, hcs, _⟩
    · exact ⟨by simp [Value.ownBlock], by simp [Value.ownBlock]⟩
    · refine ⟨fun e => ?_, fun e => ?_⟩
      · have e : g = ch := by simpa [Value.ownBlock] using e
        subst e
        cases hg.symm.trans hc
      · have e : g = pp := by simpa [Value.ownBlock] using e
        subst e
        have h9 := hg.symm.trans HP.out.blk
        simp at h9
  have HK2 : Hid (Blk w2 pp #[.chan (some ch), pv] 119) := hT2.blk HP.out.blk hne1
  have HX2 : Hid (Blk w2 w.heap.size (msC m) 162) := hT2.blk HX.out (by have := HPW.out.chlt; omega)
  have HR2 : Hid (w2.ownsRow 0 162 5 pv ms.length (flat Ms.cells ms)) := own_kept HP.out.row (fun g e => hT2.block g (HP.out.row.lt g e).2 (by rintro rfl; exact HNG.out.1 e))
  have HT2 : Hid (TchC own c w w2) := (Tch.below HBA.out).trans hT2 (fun _ _ h => h) (fun k _ e => by rw [e]; exact HPW.out.own2)
  have hs2 : w.heap.size < w2.heap.size := HX2.out.lt
  have hppw : pp < w.heap.size := HPW.out.blk.lt
  have hone : ∀ u ∈ m.cells, u.oneCell' = true := by have := ms_one [m]; simpa [flat] using this
  obtain ⟨i2, hi2, hy0, hy1, hy2⟩ := info_parts infoMs
  have HI2 : Hid (Tryz.prog.info? 162 = some i2 ∧ i2.zero = some (.agg #[.int .i64 0, .int .i64 0, .int .i64 0, .string ⟨#[]⟩, .bool false]) ∧ i2.size = 5 ∧ i2.bytes = 48) := ⟨hi2, hy0, hy1, hy2⟩
  clear hi2 hy0 hy1 hy2 hT2 c0
  have c1 : w2.cell? ⟨pp, 1, none⟩ = some pv := HK2.out.cell 1
  have x0 : w2.cell? ⟨w.heap.size, 0, none⟩ = some (I m.k) := HX2.out.cell 0
  have x1 : w2.cell? ⟨w.heap.size, 1, none⟩ = some (I m.f) := HX2.out.cell 1
  have x2 : w2.cell? ⟨w.heap.size, 2, none⟩ = some (I m.t) := HX2.out.cell 2
  have x3 : w2.cell? ⟨w.heap.size, 3, none⟩ = some (.string ⟨m.bs.toArray⟩) := HX2.out.cell 3
  have x4 : w2.cell? ⟨w.heap.size, 4, none⟩ = some (.bool m.sp) := HX2.out.cell 4
  have cA2 : (w2.alloc (.cells (msC m) 162)).cell? ⟨pp, 1, none⟩ = some pv := (HK2.out.alloc _).cell 1
  go_wp2_with fail
  go_region_law ((refine step_append_lies _ (by rfl) _ _ _ (by rfl) 0 162 i2 (.agg #[.int .i64 0, .int .i64 0, .int .i64 0, .string ⟨#[]⟩, .bool false]) 5 48 Tryz.underlying117 HI2.out.1 HI2.out.2.1 HI2.out.2.2.1 HI2.out.2.2.2 (by rfl) (by omega) pv ms.length (flat Ms.cells ms) (by rfl) (by first | exact HR2.out.alloc _ | exact (HR2.out.alloc _).drew | exact (HR2.out.drew).alloc _) ⟨w2.heap.size, 0, none⟩ 1 1 m.cells (by rfl) (by rfl) (by first | exact lit_any w2 _ _ | exact lit_drew w2 _ _) hone (by omega) (by unfold maxLen; omega) (by omega) (by omega) (w2.heap.size + 1) (by simp) ?_; intro g7 cap7 w7 hown7 hgrow7 hat7 hlt7; have HT7 : Hid (Tch (fun k => pv.ownBlock = some k) w2 w7) := (by first | exact ((Tch.refl _ w2).drew.alloc _).then (Tch.grown hgrow7) | exact ((Tch.refl _ w2).alloc _).then (Tch.grown hgrow7)); have HO7 : Hid (w7.ownsRow 0 162 5 (.slice (some ⟨g7, 0, none⟩) (ms.length + 1) cap7) (ms.length + 1) (flat Ms.cells ms ++ m.cells)) := hown7; have HA7 : Hid (pv.ownBlock = some g7 ∨ g7 = w2.heap.size + 1) := hat7; have HK7 : Hid (Blk w7 pp #[.chan (some ch), pv] 119) := HT7.out.blk HK2.out HNG.out.2; have c7 : w7.cell? ⟨pp, 1, none⟩ = some pv := HK7.out.cell 1; have z7 : w7.frozen? ⟨pp, 1, none⟩ = false := HK7.out.frozen 1; clear hown7 hgrow7 hat7 hlt7))
  all_goals
    (go_wp2_with fail
     have hpg : pp ≠ g7 := by
       rcases HA7.out with e | e
       · intro e2; rw [← e2] at e; exact HNG.out.2 e
       · omega
     have hcg : ch ≠ g7 := by
       rcases HA7.out with e | e
       · intro e2; rw [← e2] at e; exact HNG.out.1 e
       · have := HPW.out.chlt; omega
     have HE : Hid (PoOk w own c pp ch (ms ++ [m]) (w7.setCell ⟨pp, 1, none⟩ (.slice (some ⟨g7, 0, none⟩) (ms.length + 1) cap7))) := by
       have hlen : (ms ++ [m]).length = ms.length + 1 := by simp
       have hTT : TchC own c w w7 := HT2.out.trans HT7.out (fun _ _ h => h) (fun k hk e => HPW.out.own3 k e)
       refine ⟨newTo own w.heap.size c, .slice (some ⟨g7, 0, none⟩) (ms ++ [m]).length cap7, newTo_ext _ _ _, ⟨?_, ?_, ?_, ?_, ?_, ?_, by rw [hlen]; omega⟩, hTT.setCell _ _ (Or.inl HPW.out.own1)⟩
       · rw [hlen]; exact HK7.out.set 1 _
       · obtain ⟨buf, s, r, hc, hb⟩ := HC2.out
         have hclt : ch < w2.heap.size := (Array.getElem?_eq_some_iff.1 hc).1
         exact ⟨buf, s, r, by rw [heap_setCell_other _ ⟨pp, 1, none⟩ ch _ (by exact hne1.symm), HT7.out.block ch hclt HNG.out.1]; exact hc, by rw [hb, hlen]⟩
       · rw [hlen, flat_snocM]
         exact own_kept HO7.out (fun b e => heap_setCell_other _ ⟨pp, 1, none⟩ b _ (by cases e; exact hpg.symm))
       · exact (newTo_same _ _ _ _ HPW.out.blk.lt).trans HPW.out.own1
       · exact (newTo_same _ _ _ _ HPW.out.chlt).trans HPW.out.own2
       · intro g e
         cases e
         rcases HA7.out with e | e
         · exact (newTo_same _ _ _ _ (HPW.out.row.lt _ e).2).trans (HPW.out.own3 _ e)
         · exact newTo_new _ _ _ _ (by show w.heap.size ≤ g7; omega)
     clear HK7 HO7 HT7
     go_wp2
     go_end0
     exact ⟨rfl, HE.out⟩)

end Go.Proofs.YtfmcngncaffloaaGreatDoor

namespace Go.Proofs.YtfmcngncaffloaaGreatDoor
open Go.RowKit
set_option maxRecDepth 100000

theorem PoOk.from {w w5 w6 : World} {own : Clr} {c pp ch : Nat} {ms : List Ms} (hB : Below w.heap.size w w5) (h : PoOk w5 (newTo own w.heap.size 0) c pp ch ms w6) : PoOk w own c pp ch ms w6 := by
  obtain ⟨own', pv', hE, hR, hT⟩ := h
  refine ⟨own', pv', (newTo_ext own w.heap.size 0).trans hE hB.size, hR, (Tch.below hB).trans hT (fun _ _ h => h) (fun k hk h => ?_)⟩
  have h : newTo own w.heap.size 0 k = c := h
  rw [newTo_same _ _ _ _ hk] at h
  exact h
theorem PoIn.below {w w' : World} {own : Clr} {c pp ch : Nat} {pv : Value} {ms : List Ms} (h : PoIn w own c pp ch pv ms) (hB : Below w.heap.size w w') : PoIn w' (newTo own w.heap.size 0) c pp ch pv ms := h.keep (fun b hb _ => hB.block b hb) (newTo_ext _ _ _)
theorem own_sl {w : World} {base : Nat} {e : TypeId} {s n : Nat} {v : Value} {xs : List Value} (h : w.ownsRow base e s v n xs) : ∃ a c, v = .slice a n c := by
  rcases h.2 with ⟨rfl, rfl⟩ | ⟨g, cap, cur, rfl, _⟩
  · exact ⟨none, 0, rfl⟩
  · exact ⟨_, _, rfl⟩
theorem row_some {w : World} {base : Nat} {e : TypeId} {s n : Nat} {v : Value} {xs : List Value} (h : w.ownsRow base e s v n xs) (hn : 0 < n) : ∃ g c, v = .slice (some ⟨g, 0, none⟩) n c := by
  rcases h.2 with ⟨rfl, rfl⟩ | ⟨g, cap, cur, rfl, _⟩
  · omega
  · exact ⟨_, _, rfl⟩
end Go.Proofs.YtfmcngncaffloaaGreatDoor

namespace Go.Proofs.YtfmcngncaffloaaGreatDoor
open Go.RowKit
set_option maxRecDepth 100000

def mgCells (m : Ms) : List Value := [I m.k, I m.f, I m.t, .string ⟨m.bs.toArray⟩]
/-- The messages, in new memory. -/
def MsgsOk (w : World) (ms : List Ms) (e : Ending) (w' : World) : Prop := ∃ v, e = .returned v ∧ w'.ownsRow w.heap.size 59 4 v ms.length (flat mgCells ms) ∧ Below w.heap.size w w'

end Go.Proofs.YtfmcngncaffloaaGreatDoor

namespace Go.Proofs.YtfmcngncaffloaaGreatDoor
open Go.RowKit
set_option maxRecDepth 100000

end Go.Proofs.YtfmcngncaffloaaGreatDoor

namespace Go.Proofs.YtfmcngncaffloaaGreatDoor
open Go.RowKit
set_option maxRecDepth 100000

end Go.Proofs.YtfmcngncaffloaaGreatDoor
