import Derived.Test.YtfmcngncaffloaaDoorMem2
import Derived.Laws.CopyOwn
import Derived.Laws.OwnMore
import Derived.Deep.MidRow
import Derived.Test.YtfmcngncaffloaaDoorAppC
import Derived.Maps.AppendAt
import Derived.Test.YtfmcngncaffloaaDoorIsB4
import Derived.Deep.RegionHeldLaw
import Derived.Deep.RegionLaw
import Derived.Deep.AppendLies
namespace Go.Proofs.YtfmcngncaffloaaDoor
open Go.RowKit
set_option maxRecDepth 100000

/-- A copy into a row of the call's own, from its head on, of elements of any width; the source may be nil. -/
theorem run_copy_in {P : Program} (w : World) (base : Nat) (t ty e : TypeId) (size : Nat) (hu : P.underlying t = some (.slice e)) (hs : (P.info? e).map (·.size) = some size)
    (g n : Nat) (xs : List Value) (hown : w.ownsRow base e size (.slice (some ⟨g, 0, none⟩) n n) n xs) (a : Option Addr) (m c : Nat) (hm : m ≤ n) (cs : List Value) (hcl : cs.length = m * size) (hat : At w a cs) (h1 : ∀ u ∈ cs, u.oneCell' = true) :
    ∃ w', (Builtin.copy_ #[t, t] ty #[.slice (some ⟨g, 0, none⟩) n n, .slice a m c]).run P w = .ok (goInt m) w' ∧ w'.ownsRow base e size (.slice (some ⟨g, 0, none⟩) n n) n (cs ++ xs.drop cs.length) ∧ w.grownBy w' (some g) := by
  have hlen := hown.1
  rcases hown.2 with ⟨h, _⟩ | ⟨g', cap', cur, h, hbg, hg, hnc, hcm, hcs, htake⟩
  · simp at h
  simp only [Value.slice.injEq, Option.some.injEq, Addr.mk.injEq, and_true, true_and] at h
  obtain ⟨rfl, rfl⟩ := h
  have hmn : Nat.min m n = m := Nat.min_eq_left hm
  have hfit : cs.length ≤ cur.size := by rw [hcl, hcs]; exact Nat.mul_le_mul_right _ hm
  have hst := run_storeCells_at P g 0 e cs 0 cur w hg (by simpa using hfit) h1
  have hcur : cur.toList = xs := by rw [← htake, List.take_of_length_le (by rw [Array.length_toList, hcs]; exact Nat.le_refl _)]
  have hxl : cs.length ≤ xs.length := by rw [hlen, hcl]; exact Nat.mul_le_mul_right _ hm
  refine ⟨w.setRow g (cs ++ cur.toList.drop cs.length).toArray, ?_, ⟨?_, .inr ⟨g, n, _, rfl, hbg, setRow_heap w g cur _ e _ hg, hnc, hcm, ?_, ?_⟩⟩, ⟨rfl, rfl, rfl, by simp, fun k _ hk => setRow_other w g k _ (fun e => hk (by simp [e]))⟩⟩
  · cases hq : P.info? e with
    | none => simp [hq] at hs
    | some i =>
      have hi : i.size = size := by simpa [hq] using hs
      have hst' : (storeCells ⟨g, 0, none⟩ cs 0).run P w = .ok () (w.setRow g (cs ++ cur.toList.drop cs.length).toArray) := by simpa using hst
      cases a with
      | none =>
        have hnil : cs = [] := by
          cases cs with
          | nil => rfl
          | cons x l => obtain ⟨b, o, e, _⟩ := hat 0 x rfl; simp at e
        subst hnil
        simp only [Builtin.copy_, Builtin.lenOf, Builtin.firstCells, sizeOf, typeInfo]
        simp [hst', hmn, run_underlying hu, hq]
      | some ad =>
        have hl : (loadCells ad (m * i.size)).run P w = .ok cs.toArray w := by
          rw [hi, ← hcl]
          refine run_loadCells_list w ad cs fun j u hj => ?_
          obtain ⟨b, o, e, hc⟩ := hat j u hj
          cases e
          rw [Addr.add_lit]
          exact hc
        simp only [Builtin.copy_, Builtin.lenOf, Builtin.firstCells, sizeOf, typeInfo]
        simp [hst', hmn, run_underlying hu, hq, hl]
  · rw [List.length_append, List.length_drop, hlen, hcl]
    have := Nat.mul_le_mul_right size hm
    omega
  · simp only [List.size_toArray, List.length_append, List.length_drop, Array.length_toList]
    omega
  · rw [hcur]
    apply List.take_of_length_le
    show (cs ++ xs.drop cs.length).length ≤ _
    rw [List.length_append, List.length_drop, hlen]
    omega

theorem wpList_copy_in {P : Program} {w : World} {ops : Array Oper} {rest : List Oper} {o : Oper} {a : Act} {Q : Exit → Act → World → Prop} (hgd : o.guard = none) (d s : Operand) (t : TypeId)
    (ho : o.op = .call { callee := .builtin .copy, args := #[d, s], argTypes := #[t, t] }) (base : Nat) (e : TypeId) (size : Nat) (hu : P.underlying t = some (.slice e)) (hs : (P.info? e).map (·.size) = some size)
    (g n : Nat) (xs : List Value) (hown : w.ownsRow base e size (.slice (some ⟨g, 0, none⟩) n n) n xs) (sa : Option Addr) (m c : Nat) (hm : m ≤ n) (cs : List Value) (hcl : cs.length = m * size) (hat : At w sa cs) (h1 : ∀ u ∈ cs, u.oneCell' = true)
    (hd : a.eval d = .slice (some ⟨g, 0, none⟩) n n) (hsv : a.eval s = .slice sa m c)
    (h : ∀ w', w'.ownsRow base e size (.slice (some ⟨g, 0, none⟩) n n) n (cs ++ xs.drop cs.length) → w.grownBy w' (some g) → wpList P ops Q rest (a.put o.dst (goInt m)) w') : wpList P ops Q (o :: rest) a w := by
  refine wpList_plain hgd fun K hK => ?_
  obtain ⟨w', hr, h2, h3⟩ := run_copy_in (P := P) w base t o.type e size hu hs g n xs hown sa m c hm cs hcl hat h1
  unfold Oper.wp
  simp [execOp, ho, resolve, invoke, builtin, hd, hsv, hr, Result.andThen]
  exact hK _ _ (h w' h2 h3)

end Go.Proofs.YtfmcngncaffloaaDoor

namespace Go.Proofs.YtfmcngncaffloaaDoor
open Go.RowKit
set_option maxRecDepth 100000

theorem infoInt : (Tryd.prog.info? 3).map (fun i => (i.zero, i.size, i.bytes)) = some (some (.int .i64 0), 1, 8) := by kernel_rfl
theorem infoDot : (Tryd.prog.info? 40).map (fun i => (i.zero, i.size, i.bytes)) = some (some (.agg #[.int .i64 0, .int .i64 0, .int .i64 0]), 3, 24) := by kernel_rfl
theorem sizeInt : (Tryd.prog.info? 3).map (·.size) = some 1 := by kernel_rfl
theorem sizeDot : (Tryd.prog.info? 40).map (·.size) = some 3 := by kernel_rfl
theorem I_one (l : List Int) : ∀ u ∈ l.map I, u.oneCell' = true := by
  intro u hu
  obtain ⟨_, _, rfl⟩ := List.mem_map.1 hu
  rfl

theorem grow_new {w w1 w2 : World} {g : Nat} (hg : w.heap.size ≤ g) (h1 : w.grownBy w1 none) (h2 : w1.grownBy w2 (some g)) : w.grownBy w2 none :=
  ⟨h2.os.trans h1.os, h2.tape.trans h1.tape, h2.output.trans h1.output, Nat.le_trans h1.size h2.size, fun k hk _ => (h2.block k (Nat.lt_of_lt_of_le hk h1.size) (by intro e; cases e; omega)).trans (h1.block k hk (by simp))⟩
theorem set_two (l : List Value) (z x : Value) : ((l ++ [z, z]).set l.length x).set (l.length + 1) x = l ++ [x, x] := by
  rw [List.set_append_right _ _ (Nat.le_refl _), Nat.sub_self]
  simp

set_option maxHeartbeats 800000 in
theorem lentI_any (zs : List Int) (a : Option Addr) (n : Nat) (w : World) (h : At w a (zs.map I)) (hl : zs.length * 8 ≤ 140737488355328) :
    Calls Tryd.prog 18 #[.slice a zs.length n] w fun e w' => e = .returned (.slice (some ⟨w.heap.size, 0, none⟩) (zs.length + 2) (zs.length + 2)) ∧ w'.ownsRow w.heap.size 3 1 (.slice (some ⟨w.heap.size, 0, none⟩) (zs.length + 2) (zs.length + 2)) (zs.length + 2) ((zs ++ [-77, -77]).map I) ∧ w.grownBy w' none := by
  obtain ⟨i, hi, hz0, hz1, hz2⟩ := info_parts infoInt
  have h' : Hid (At w a (zs.map I)) := h
  clear h
  go_enter Tryd.func18, Tryd.ntmps18
  go_wp2_with (first | (at_make; go_must (refine wpList_make_full _ rfl _ _ 22 rfl w.heap.size 3 i (.int .i64 0) 1 Tryd.underlying22 hi hz0 hz1 _ _ _ _ (zs.length + 2) rfl rfl (by omega) (by omega) (by rw [hz2]; omega) (by unfold maxLen; omega) (Nat.le_refl _) ?_; intro w1 hown hgrow)))
  have hb1 : Below w.heap.size w w1 := ⟨hgrow.os, hgrow.tape, hgrow.output, hgrow.size, fun k hk => hgrow.block k hk (by simp)⟩
  obtain ⟨w2, hr2, hown2, hgrow2⟩ := run_copy_in (P := Tryd.prog) w1 w.heap.size 22 3 3 1 Tryd.underlying22 sizeInt w.heap.size (zs.length + 2) _ hown a zs.length n (by omega) (zs.map I) (by simp) (h'.out.kept hb1) (I_one zs)
  have hx : (zs.map I ++ (madeCells (Value.int IntKind.i64 0).cells ((zs.length + 2) * 1)).toList.drop (zs.map I).length) = zs.map I ++ [I 0, I 0] := by
    show (zs.map I ++ (madeCells #[Value.int IntKind.i64 0] ((zs.length + 2) * 1)).toList.drop (zs.map I).length) = _
    rw [toList_madeCells_one]
    simp
  rw [hx] at hown2
  have c1 : w2.cell? ⟨w.heap.size, zs.length, none⟩ = some (I 0) := by rw [hown2.cellAt _ (by omega)]; simp
  have f1 := hown2.frozenAt zs.length
  obtain ⟨hown3, hgrow3⟩ := hown2.stored zs.length (I (-77))
  have c2 : (w2.setCell ⟨w.heap.size, zs.length, none⟩ (I (-77))).cell? ⟨w.heap.size, zs.length + 1, none⟩ = some (I 0) := by rw [hown3.cellAt _ (by omega)]; simp
  have f2 := hown3.frozenAt (zs.length + 1)
  obtain ⟨hown4, hgrow4⟩ := hown3.stored (zs.length + 1) (I (-77))
  have hs2 := set_two (zs.map I) (I 0) (I (-77))
  rw [List.length_map] at hs2
  rw [hs2] at hown4
  have HO : Hid (((w2.setCell ⟨w.heap.size, zs.length, none⟩ (I (-77))).setCell ⟨w.heap.size, zs.length + 1, none⟩ (I (-77))).ownsRow w.heap.size 3 1 (.slice (some ⟨w.heap.size, 0, none⟩) (zs.length + 2) (zs.length + 2)) (zs.length + 2) ((zs ++ [-77, -77]).map I) ∧ w.grownBy ((w2.setCell ⟨w.heap.size, zs.length, none⟩ (I (-77))).setCell ⟨w.heap.size, zs.length + 1, none⟩ (I (-77))) none) :=
    ⟨by simpa using hown4, grow_new (Nat.le_refl _) (grow_new (Nat.le_refl _) (grow_new (Nat.le_refl _) hgrow hgrow2) hgrow3) hgrow4⟩
  rw [hr2]
  clear hown hgrow hown2 hgrow2 hown3 hgrow3 hown4 hgrow4 hr2 hx hb1 hs2
  go_wp2_with fail
  go_ret
  exact ⟨rfl, HO.out⟩

theorem madeDots (n : Nat) : (madeCells #[I 0, I 0, I 0] (n * 3)).toList = List.replicate (n * 3) (I 0) := by
  apply List.ext_getElem?
  intro j
  by_cases hj : j < n * 3
  · have : j % 3 = 0 ∨ j % 3 = 1 ∨ j % 3 = 2 := by omega
    rcases this with e | e | e <;> simp [madeCells, hj, e]
  · simp [madeCells, hj]
theorem dot_one (l : List Wv.Dt) : ∀ u ∈ flat dotCells l, u.oneCell' = true := by
  induction l with
  | nil => simp [flat]
  | cons d l ih =>
    intro u hu
    rw [flat, List.mem_append] at hu
    rcases hu with hu | hu
    · simp [dotCells] at hu
      rcases hu with rfl | rfl | rfl <;> rfl
    · exact ih u hu

set_option maxHeartbeats 800000 in
theorem lentD_any (ds : List Wv.Dt) (a : Option Addr) (n : Nat) (w : World) (h : At w a (flat dotCells ds)) (hl : ds.length * 24 ≤ 140737488355328) :
    Calls Tryd.prog 19 #[.slice a ds.length n] w fun e w' => e = .returned (.slice (some ⟨w.heap.size, 0, none⟩) (ds.length + 2) (ds.length + 2)) ∧ w'.ownsRow w.heap.size 40 3 (.slice (some ⟨w.heap.size, 0, none⟩) (ds.length + 2) (ds.length + 2)) (ds.length + 2) (flat dotCells ds ++ [I 0, I (-77), I 0, I 0, I (-77), I 0]) ∧ w.grownBy w' none := by
  obtain ⟨i, hi, hz0, hz1, hz2⟩ := info_parts infoDot
  have h' : Hid (At w a (flat dotCells ds)) := h
  clear h
  have hfl := flat_len dotCells 3 dotCells_len ds
  go_enter Tryd.func19, Tryd.ntmps19
  go_wp2_with (first | (at_make; go_must (refine wpList_make_full _ rfl _ _ 41 rfl w.heap.size 40 i (.agg #[.int .i64 0, .int .i64 0, .int .i64 0]) 3 Tryd.underlying41 hi hz0 hz1 _ _ _ _ (ds.length + 2) rfl rfl (by omega) (by omega) (by rw [hz2]; omega) (by unfold maxLen; omega) (Nat.le_refl _) ?_; intro w1 hown hgrow)))
  have hb1 : Below w.heap.size w w1 := ⟨hgrow.os, hgrow.tape, hgrow.output, hgrow.size, fun k hk => hgrow.block k hk (by simp)⟩
  obtain ⟨w2, hr2, hown2, hgrow2⟩ := run_copy_in (P := Tryd.prog) w1 w.heap.size 41 3 40 3 Tryd.underlying41 sizeDot w.heap.size (ds.length + 2) _ hown a ds.length n (by omega) (flat dotCells ds) hfl (h'.out.kept hb1) (dot_one ds)
  have hx : (flat dotCells ds ++ (madeCells (Value.agg #[.int .i64 0, .int .i64 0, .int .i64 0]).cells ((ds.length + 2) * 3)).toList.drop (flat dotCells ds).length) = flat dotCells ds ++ [I 0, I 0, I 0, I 0, I 0, I 0] := by
    show (flat dotCells ds ++ (madeCells #[I 0, I 0, I 0] ((ds.length + 2) * 3)).toList.drop (flat dotCells ds).length) = _
    rw [madeDots, hfl, List.drop_replicate, show (ds.length + 2) * 3 - ds.length * 3 = 6 by omega]
    rfl
  rw [hx] at hown2
  have e0 : ds.length * 3 = (flat dotCells ds).length := hfl.symm
  have e1 : (ds.length + 1) * 3 = (flat dotCells ds).length + 3 := by omega
  have c0 : (w2).cell? ⟨w.heap.size, ds.length * 3, none⟩ = some (I 0) := by rw [hown2.cellAt _ (by omega)]; simp [e0]
  have f0 := hown2.frozenAt (ds.length * 3)
  obtain ⟨ho0, hg0⟩ := hown2.stored (ds.length * 3) (I 0)
  have c1 : ((w2).setCell ⟨w.heap.size, ds.length * 3, none⟩ (I 0)).cell? ⟨w.heap.size, ds.length * 3 + 1, none⟩ = some (I 0) := by rw [ho0.cellAt _ (by omega)]; simp [e0]
  have f1 := ho0.frozenAt (ds.length * 3 + 1)
  obtain ⟨ho1, hg1⟩ := ho0.stored (ds.length * 3 + 1) (I (-77))
  have c2 : (((w2).setCell ⟨w.heap.size, ds.length * 3, none⟩ (I 0)).setCell ⟨w.heap.size, ds.length * 3 + 1, none⟩ (I (-77))).cell? ⟨w.heap.size, ds.length * 3 + 2, none⟩ = some (I 0) := by rw [ho1.cellAt _ (by omega)]; simp [e0]
  have f2 := ho1.frozenAt (ds.length * 3 + 2)
  obtain ⟨ho2, hg2⟩ := ho1.stored (ds.length * 3 + 2) (I 0)
  have c3 : ((((w2).setCell ⟨w.heap.size, ds.length * 3, none⟩ (I 0)).setCell ⟨w.heap.size, ds.length * 3 + 1, none⟩ (I (-77))).setCell ⟨w.heap.size, ds.length * 3 + 2, none⟩ (I 0)).cell? ⟨w.heap.size, (ds.length + 1) * 3, none⟩ = some (I 0) := by rw [ho2.cellAt _ (by omega)]; simp [e0, e1]
  have f3 := ho2.frozenAt ((ds.length + 1) * 3)
  obtain ⟨ho3, hg3⟩ := ho2.stored ((ds.length + 1) * 3) (I 0)
  have c4 : (((((w2).setCell ⟨w.heap.size, ds.length * 3, none⟩ (I 0)).setCell ⟨w.heap.size, ds.length * 3 + 1, none⟩ (I (-77))).setCell ⟨w.heap.size, ds.length * 3 + 2, none⟩ (I 0)).setCell ⟨w.heap.size, (ds.length + 1) * 3, none⟩ (I 0)).cell? ⟨w.heap.size, (ds.length + 1) * 3 + 1, none⟩ = some (I 0) := by rw [ho3.cellAt _ (by omega)]; simp [e0, e1, Nat.add_assoc]
  have f4 := ho3.frozenAt ((ds.length + 1) * 3 + 1)
  obtain ⟨ho4, hg4⟩ := ho3.stored ((ds.length + 1) * 3 + 1) (I (-77))
  have c5 : ((((((w2).setCell ⟨w.heap.size, ds.length * 3, none⟩ (I 0)).setCell ⟨w.heap.size, ds.length * 3 + 1, none⟩ (I (-77))).setCell ⟨w.heap.size, ds.length * 3 + 2, none⟩ (I 0)).setCell ⟨w.heap.size, (ds.length + 1) * 3, none⟩ (I 0)).setCell ⟨w.heap.size, (ds.length + 1) * 3 + 1, none⟩ (I (-77))).cell? ⟨w.heap.size, (ds.length + 1) * 3 + 2, none⟩ = some (I 0) := by rw [ho4.cellAt _ (by omega)]; simp [e0, e1, Nat.add_assoc]
  have f5 := ho4.frozenAt ((ds.length + 1) * 3 + 2)
  obtain ⟨ho5, hg5⟩ := ho4.stored ((ds.length + 1) * 3 + 2) (I 0)
  have hs : ((((((flat dotCells ds ++ [I 0, I 0, I 0, I 0, I 0, I 0]).set (ds.length * 3) (I 0)).set (ds.length * 3 + 1) (I (-77))).set (ds.length * 3 + 2) (I 0)).set ((ds.length + 1) * 3) (I 0)).set ((ds.length + 1) * 3 + 1) (I (-77))).set ((ds.length + 1) * 3 + 2) (I 0) = flat dotCells ds ++ [I 0, I (-77), I 0, I 0, I (-77), I 0] := by
    rw [e0, e1]
    simp [List.set_append_right, Nat.add_assoc]
  rw [hs] at ho5
  have HO : Hid ((((((((w2).setCell ⟨w.heap.size, ds.length * 3, none⟩ (I 0)).setCell ⟨w.heap.size, ds.length * 3 + 1, none⟩ (I (-77))).setCell ⟨w.heap.size, ds.length * 3 + 2, none⟩ (I 0)).setCell ⟨w.heap.size, (ds.length + 1) * 3, none⟩ (I 0)).setCell ⟨w.heap.size, (ds.length + 1) * 3 + 1, none⟩ (I (-77))).setCell ⟨w.heap.size, (ds.length + 1) * 3 + 2, none⟩ (I 0)).ownsRow w.heap.size 40 3 (.slice (some ⟨w.heap.size, 0, none⟩) (ds.length + 2) (ds.length + 2)) (ds.length + 2) (flat dotCells ds ++ [I 0, I (-77), I 0, I 0, I (-77), I 0]) ∧ w.grownBy (((((((w2).setCell ⟨w.heap.size, ds.length * 3, none⟩ (I 0)).setCell ⟨w.heap.size, ds.length * 3 + 1, none⟩ (I (-77))).setCell ⟨w.heap.size, ds.length * 3 + 2, none⟩ (I 0)).setCell ⟨w.heap.size, (ds.length + 1) * 3, none⟩ (I 0)).setCell ⟨w.heap.size, (ds.length + 1) * 3 + 1, none⟩ (I (-77))).setCell ⟨w.heap.size, (ds.length + 1) * 3 + 2, none⟩ (I 0)) none) :=
    ⟨ho5, grow_new (Nat.le_refl _) (grow_new (Nat.le_refl _) (grow_new (Nat.le_refl _) (grow_new (Nat.le_refl _) (grow_new (Nat.le_refl _) (grow_new (Nat.le_refl _) (grow_new (Nat.le_refl _) hgrow hgrow2) hg0) hg1) hg2) hg3) hg4) hg5⟩
  rw [hr2]
  clear hown hgrow hown2 hgrow2 hr2 hx hb1 e0 e1 hs hg0 hg1 hg2 hg3 hg4 hg5 ho0 ho1 ho2 ho3 ho4 ho5
  go_wp2_with fail
  go_ret
  exact ⟨rfl, HO.out⟩

end Go.Proofs.YtfmcngncaffloaaDoor

namespace Go.Proofs.YtfmcngncaffloaaDoor
open Go.RowKit
set_option maxRecDepth 100000

/-- A block that is known whole. -/
def Blk (w : World) (g : Nat) (cs : Array Value) (t : TypeId) : Prop := w.heap[g]? = some (.cells cs t (0, 0))
theorem Blk.cell {w : World} {g : Nat} {cs : Array Value} {t : TypeId} (h : Blk w g cs t) (j : Nat) : w.cell? ⟨g, j, none⟩ = cs[j]? := by
  rw [cell_of_row w g j cs t (0, 0) h]
theorem Blk.frozen {w : World} {g : Nat} {cs : Array Value} {t : TypeId} (h : Blk w g cs t) (j : Nat) : w.frozen? ⟨g, j, none⟩ = false := frozen_of_row w g j cs t h
theorem Blk.set {w : World} {g : Nat} {cs : Array Value} {t : TypeId} (h : Blk w g cs t) (j : Nat) (u : Value) : Blk (w.setCell ⟨g, j, none⟩ u) g (cs.setIfInBounds j u) t := heap_setCell_same w g j cs t u h
theorem Blk.other {w : World} {g : Nat} {cs : Array Value} {t : TypeId} (h : Blk w g cs t) {a : Addr} (ha : g ≠ a.block) (u : Value) : Blk (w.setCell a u) g cs t := (heap_setCell_other w a g u ha).trans h
theorem Blk.lt {w : World} {g : Nat} {cs : Array Value} {t : TypeId} (h : Blk w g cs t) : g < w.heap.size := by
  have := Array.getElem?_eq_some_iff.1 h
  exact this.1
theorem Blk.grown {w w' : World} {g : Nat} {cs : Array Value} {t : TypeId} {row : Option Nat} (h : Blk w g cs t) (hg : w.grownBy w' row) (hne : some g ≠ row) : Blk w' g cs t := (hg.block g h.lt hne).trans h
theorem Blk.kept {w w' : World} {B g : Nat} {cs : Array Value} {t : TypeId} (h : Blk w g cs t) (hb : Below B w w') (hg : g < B) : Blk w' g cs t := (hb.block g hg).trans h

theorem Blk.second (w : World) (o : Obj) (cs : Array Value) (t : TypeId) : Blk ((w.alloc o).alloc (.cells cs t)) (w.heap.size + 1) cs t := by
  have := heap_alloc_new (w.alloc o) (.cells cs t)
  rwa [show (w.alloc o).heap.size = w.heap.size + 1 by simp] at this
theorem own_lt {w : World} {base : Nat} {e : TypeId} {size g n c : Nat} {xs : List Value} (h : w.ownsRow base e size (.slice (some ⟨g, 0, none⟩) n c) n xs) : g < w.heap.size := (h.lt g rfl).2
theorem own_at {w : World} {base : Nat} {e : TypeId} {size g n c : Nat} {xs : List Value} (h : w.ownsRow base e size (.slice (some ⟨g, 0, none⟩) n c) n xs) : At w (some ⟨g, 0, none⟩) xs := by
  intro j u hj
  refine ⟨g, 0, rfl, ?_⟩
  have hl : j < xs.length := (List.getElem?_eq_some_iff.1 hj).1
  rw [Nat.zero_add, h.cellAt j (by rw [← h.1]; exact hl)]
  exact hj
theorem own_kept {w w' : World} {base : Nat} {e : TypeId} {size n : Nat} {v : Value} {xs : List Value} (h : w.ownsRow base e size v n xs) (hb : ∀ g, v.ownBlock = some g → w'.heap[g]? = w.heap[g]?) : w'.ownsRow base e size v n xs := by
  refine ⟨h.1, ?_⟩
  rcases h.2 with h2 | ⟨g, cap, cur, rfl, hbg, hg, r⟩
  · exact .inl h2
  · exact .inr ⟨g, cap, cur, rfl, hbg, (hb g rfl).trans hg, r⟩
theorem at_block {w w' : World} {g : Nat} {cs : List Value} (h : At w (some ⟨g, 0, none⟩) cs) (hb : w'.heap[g]? = w.heap[g]?) : At w' (some ⟨g, 0, none⟩) cs := by
  intro j u hj
  obtain ⟨p, o, e, hc⟩ := h j u hj
  cases e
  exact ⟨g, 0, rfl, (World.cell?_of_block (w := w) (a := ⟨g, 0 + j, none⟩) hb).trans hc⟩
theorem lit_any (w : World) (cs : List Value) (t : TypeId) : ∀ j u, cs[j]? = some u → (w.alloc (.cells cs.toArray t)).cell? ((⟨w.heap.size, 0, none⟩ : Addr).add j) = some u := by
  intro j u hu
  rw [Addr.add_lit, Nat.zero_add, World.cell?_alloc_mark]
  simpa using hu
theorem lit_drew (w : World) (cs : List Value) (t : TypeId) : ∀ j u, cs[j]? = some u → (w.alloc (.cells cs.toArray t)).drew.cell? ((⟨w.heap.size, 0, none⟩ : Addr).add j) = some u := lit_any w cs t
theorem Blk.drew {w : World} {g : Nat} {cs : Array Value} {t : TypeId} (h : Blk w g cs t) : Blk w.drew g cs t := h
theorem Blk.alloc {w : World} {g : Nat} {cs : Array Value} {t : TypeId} (h : Blk w g cs t) (o : Obj) : Blk (w.alloc o) g cs t := (Below.heap_alloc w o g h.lt).trans h

end Go.Proofs.YtfmcngncaffloaaDoor

namespace Go.Proofs.YtfmcngncaffloaaDoor
open Go.RowKit
set_option maxRecDepth 100000

theorem lentI_at (zs : List Int) (a : Option Addr) (n : Nat) (w : World) (G : Nat) (hG : w.heap.size = G) (h : At w a (zs.map I)) (hl : zs.length * 8 ≤ 140737488355328) :
    Calls Tryd.prog 18 #[.slice a zs.length n] w fun e w' => e = .returned (.slice (some ⟨G, 0, none⟩) (zs.length + 2) (zs.length + 2)) ∧ w'.ownsRow G 3 1 (.slice (some ⟨G, 0, none⟩) (zs.length + 2) (zs.length + 2)) (zs.length + 2) ((zs ++ [-77, -77]).map I) ∧ w.grownBy w' none := by
  subst hG
  exact lentI_any zs a n w h hl
theorem lentD_at (ds : List Wv.Dt) (a : Option Addr) (n : Nat) (w : World) (G : Nat) (hG : w.heap.size = G) (h : At w a (flat dotCells ds)) (hl : ds.length * 24 ≤ 140737488355328) :
    Calls Tryd.prog 19 #[.slice a ds.length n] w fun e w' => e = .returned (.slice (some ⟨G, 0, none⟩) (ds.length + 2) (ds.length + 2)) ∧ w'.ownsRow G 40 3 (.slice (some ⟨G, 0, none⟩) (ds.length + 2) (ds.length + 2)) (ds.length + 2) (flat dotCells ds ++ [I 0, I (-77), I 0, I 0, I (-77), I 0]) ∧ w.grownBy w' none := by
  subst hG
  exact lentD_any ds a n w h hl

/-- A row that stands apart from the two that grow. -/
structure Fix (w : World) (B : Nat) (vD vE : Value) (g : Nat) (cells : List Value) : Prop where
  ge : B + 2 ≤ g
  lt : g < w.heap.size
  nd : some g ≠ vD.ownBlock
  ne : some g ≠ vE.ownBlock
  cells : At w (some ⟨g, 0, none⟩) cells
def beyondD : List Value := [I 0, I (-77), I 0, I 0, I (-77), I 0]
/-- The cells of what is lent: its own Effects, Clock, the Effects' list, the Dots' list. -/
abbrev lentCells (b : Wv.Bt) (B : Nat) (ev vE vD : Value) : Array Value := #[I b.o, I b.s, I b.t, .slice (some ⟨B + 2, 0, none⟩) b.clock.length (b.clock.length + 2), ev, .slice (some ⟨B + 2, 0, none⟩) (b.clock.length + 2) (b.clock.length + 2), vE, vD]
def Em.lentV (m : Em) : Value := .slice m.da (m.e.dots.length + 2) m.dc
/-- What is lent, while its lists grow. -/
structure LentIn (w : World) (B : Nat) (b : Wv.Bt) (ca ea : Option Addr) (cc ec : Nat) (ev vD vE : Value) (nd ns : List Em) : Prop where
  k0 : Blk w B #[I b.o, I b.s, I b.t, .slice ca b.clock.length cc, .slice ea b.effs.length ec] 25
  k1 : Blk w (B + 1) (lentCells b B ev vE vD) 33
  clock : Fix w B vD vE (B + 2) ((b.clock ++ [-77, -77]).map I)
  dots : ∀ m ∈ nd, ∃ g, m.da = some ⟨g, 0, none⟩ ∧ m.dc = m.e.dots.length + 2 ∧ Fix w B vD vE g (flat dotCells m.e.dots ++ beyondD)
  ownD : w.ownsRow (B + 3) 41 1 vD nd.length (nd.map Em.lentV)
  ownE : w.ownsRow (B + 3) 43 7 vE ns.length (flat Em.cells ns)
  ne : ∀ g, vD.ownBlock = some g → vE.ownBlock ≠ some g
theorem Fix.turn {w w' : World} {B : Nat} {vD vE vD' vE' : Value} {g : Nat} {cs : List Value} (h : Fix w B vD vE g cs) (hs : w.heap.size ≤ w'.heap.size) (hb : w'.heap[g]? = w.heap[g]?)
    (hD : vD'.ownBlock = vD.ownBlock ∨ ∃ k, vD'.ownBlock = some k ∧ w.heap.size ≤ k) (hE : vE'.ownBlock = vE.ownBlock ∨ ∃ k, vE'.ownBlock = some k ∧ w.heap.size ≤ k) : Fix w' B vD' vE' g cs := by
  have hl := h.lt
  refine ⟨h.ge, Nat.lt_of_lt_of_le hl hs, ?_, ?_, at_block h.cells hb⟩
  · rcases hD with e | ⟨k, e, hk⟩
    · rw [e]; exact h.nd
    · rw [e]; intro x; cases x; omega
  · rcases hE with e | ⟨k, e, hk⟩
    · rw [e]; exact h.ne
    · rw [e]; intro x; cases x; omega
theorem LentIn.growD {w w' : World} {B : Nat} {b : Wv.Bt} {ca ea : Option Addr} {cc ec : Nat} {ev vD vE vD' : Value} {nd ns : List Em} {m : Em} {gm : Nat} (h : LentIn w B b ca ea cc ec ev vD vE nd ns) (hs : w.heap.size ≤ w'.heap.size)
    (hb : ∀ k, k < w.heap.size → k ≠ B + 1 → some k ≠ vD.ownBlock → w'.heap[k]? = w.heap[k]?) (hk : Blk w' (B + 1) (lentCells b B ev vE vD') 33)
    (ho : w'.ownsRow (B + 3) 41 1 vD' (nd.length + 1) (nd.map Em.lentV ++ [m.lentV])) (hat : vD'.ownBlock = vD.ownBlock ∨ ∃ k, vD'.ownBlock = some k ∧ w.heap.size ≤ k)
    (hm : m.da = some ⟨gm, 0, none⟩) (hmc : m.dc = m.e.dots.length + 2) (hg1 : w.heap.size ≤ gm) (hg2 : gm < w'.heap.size) (hg3 : some gm ≠ vD'.ownBlock) (hc : At w' (some ⟨gm, 0, none⟩) (flat dotCells m.e.dots ++ beyondD)) :
    LentIn w' B b ca ea cc ec ev vD' vE (nd ++ [m]) ns := by
  have hcl := h.clock.lt
  have hdl := h.ownD.lt
  have hel := h.ownE.lt
  refine ⟨?_, hk, h.clock.turn hs (hb _ hcl (by omega) h.clock.nd) hat (Or.inl rfl), ?_, ?_, own_kept h.ownE fun g hg => hb g (hel g hg).2 (by have := (hel g hg).1; omega) (fun e => h.ne g e.symm hg), ?_⟩
  · exact (hb B (by omega) (by omega) (fun e => by have := (hdl B e.symm).1; omega)).trans h.k0
  · intro x hx
    rw [List.mem_append, List.mem_singleton] at hx
    rcases hx with hx | rfl
    · obtain ⟨g, e1, e2, f⟩ := h.dots x hx
      exact ⟨g, e1, e2, f.turn hs (hb g f.lt (by have := f.ge; omega) f.nd) hat (Or.inl rfl)⟩
    · exact ⟨gm, hm, hmc, ⟨by omega, hg2, hg3, fun e => by have := (hel gm e.symm).2; omega, hc⟩⟩
  · rw [List.length_append, List.map_append]; exact ho
  · intro g hg
    rcases hat with e | ⟨k, e, hk'⟩
    · exact h.ne g (e ▸ hg)
    · intro hE
      rw [e] at hg
      cases hg
      have := (hel g hE).2
      omega
theorem LentIn.growE {w w' : World} {B : Nat} {b : Wv.Bt} {ca ea : Option Addr} {cc ec : Nat} {ev ev' vD vE vE' : Value} {nd ns news : List Em} (h : LentIn w B b ca ea cc ec ev vD vE nd ns) (hs : w.heap.size ≤ w'.heap.size)
    (hb : ∀ k, k < w.heap.size → k ≠ B + 1 → some k ≠ vE.ownBlock → w'.heap[k]? = w.heap[k]?) (hk : Blk w' (B + 1) (lentCells b B ev' vE' vD) 33)
    (ho : w'.ownsRow (B + 3) 43 7 vE' (ns.length + news.length) (flat Em.cells ns ++ flat Em.cells news)) (hat : vE'.ownBlock = vE.ownBlock ∨ ∃ k, vE'.ownBlock = some k ∧ w.heap.size ≤ k) :
    LentIn w' B b ca ea cc ec ev' vD vE' nd (ns ++ news) := by
  have hcl := h.clock.lt
  have hdl := h.ownD.lt
  have hel := h.ownE.lt
  have hfa : ∀ l : List Em, flat Em.cells (l ++ news) = flat Em.cells l ++ flat Em.cells news := by
    intro l
    induction l with
    | nil => rfl
    | cons x l ih => simp only [List.cons_append, flat, ih, List.append_assoc]
  refine ⟨?_, hk, h.clock.turn hs (hb _ hcl (by omega) h.clock.ne) (Or.inl rfl) hat, ?_, own_kept h.ownD fun g hg => hb g (hdl g hg).2 (by have := (hdl g hg).1; omega) (fun e => h.ne g hg e.symm), ?_, ?_⟩
  · exact (hb B (by omega) (by omega) (fun e => by have := (hel B e.symm).1; omega)).trans h.k0
  · intro x hx
    obtain ⟨g, e1, e2, f⟩ := h.dots x hx
    exact ⟨g, e1, e2, f.turn hs (hb g f.lt (by have := f.ge; omega) f.ne) (Or.inl rfl) hat⟩
  · rw [List.length_append, hfa]; exact ho
  · intro g hg
    rcases hat with e | ⟨k, e, hk'⟩
    · rw [e]; exact h.ne g hg
    · rw [e]
      intro hE
      cases hE
      have := (hdl g hg).2
      omega
theorem LentIn.kept {w w' : World} {B : Nat} {b : Wv.Bt} {ca ea : Option Addr} {cc ec : Nat} {ev vD vE : Value} {nd ns : List Em} (h : LentIn w B b ca ea cc ec ev vD vE nd ns) (hb : Below w.heap.size w w') : LentIn w' B b ca ea cc ec ev vD vE nd ns :=
  ⟨h.k0.kept hb h.k0.lt, h.k1.kept hb h.k1.lt, h.clock.turn hb.size (hb.block _ h.clock.lt) (Or.inl rfl) (Or.inl rfl),
    fun m hm => by obtain ⟨g, e1, e2, f⟩ := h.dots m hm; exact ⟨g, e1, e2, f.turn hb.size (hb.block _ f.lt) (Or.inl rfl) (Or.inl rfl)⟩,
    own_kept h.ownD fun g hg => hb.block g (h.ownD.lt g hg).2, own_kept h.ownE fun g hg => hb.block g (h.ownE.lt g hg).2, h.ne⟩

end Go.Proofs.YtfmcngncaffloaaDoor

namespace Go.Proofs.YtfmcngncaffloaaDoor
open Go.RowKit
set_option maxRecDepth 100000

theorem infoEff : (Tryd.prog.info? 43).map (fun i => (i.zero, i.size, i.bytes)) = some (some (.agg #[.int .i64 0, .int .i64 0, .int .i64 0, .int .i64 0, .int .i64 0, .int .i64 0, .slice none 0 0]), 7, 72) := by kernel_rfl
theorem eff_one (m : Em) (g : Nat) : ∀ u ∈ [I m.e.op, I m.e.ob, I m.e.va, I m.e.ref.o, I m.e.ref.s, I m.e.ref.i, .slice (some ⟨g + 1, 0, none⟩) m.e.dots.length (m.e.dots.length + 2)], u.oneCell' = true := by
  intro u hu
  simp only [List.mem_cons, List.mem_nil_iff, or_false] at hu
  rcases hu with rfl | rfl | rfl | rfl | rfl | rfl | rfl <;> rfl
def beyondE : Em := ⟨⟨-77, 0, 0, ⟨0, 0, 0⟩, []⟩, none, 0⟩
theorem bey_one : ∀ u ∈ beyondE.cells ++ beyondE.cells, u.oneCell' = true := by
  intro u hu
  simp only [beyondE, Em.cells, Em.dv, List.cons_append, List.nil_append, List.mem_cons, List.mem_nil_iff, or_false] at hu
  rcases hu with rfl | rfl | rfl | rfl | rfl | rfl | rfl | rfl | rfl | rfl | rfl | rfl | rfl | rfl <;> rfl
theorem LentIn.turnEv {w : World} {B : Nat} {b : Wv.Bt} {ca ea : Option Addr} {cc ec : Nat} {ev vD vE : Value} {nd ns : List Em} (h : LentIn w B b ca ea cc ec ev vD vE nd ns) (ev' : Value) : LentIn (w.setCell ⟨B + 1, 4, none⟩ ev').drew B b ca ea cc ec ev' vD vE nd ns := by
  have hel := h.ownE.lt
  have := h.growE (w' := (w.setCell ⟨B + 1, 4, none⟩ ev').drew) (ev' := ev') (vE' := vE) (news := []) (by simp [World.setCell]) (fun k _ h2 _ => heap_setCell_other w ⟨B + 1, 4, none⟩ k ev' h2) (h.k1.set 4 ev') (by
    rw [flat, List.append_nil]
    exact own_kept h.ownE fun g hg => heap_setCell_other w ⟨B + 1, 4, none⟩ g ev' (by show g ≠ B + 1; have := (hel g hg).1; omega)) (Or.inl rfl)
  rwa [List.append_nil] at this
theorem infoSlD : (Tryd.prog.info? 41).map (fun i => (i.zero, i.size, i.bytes)) = some (some (.slice none 0 0), 1, 24) := by kernel_rfl

set_option maxHeartbeats 1600000 in
theorem lent_any (b : Wv.Bt) (ca ea : Option Addr) (cc ec : Nat) (ms : List Em) (w : World) (h : BatAt w b ca ea ms) (hc : b.clock.length * 8 ≤ 140737488351232) (he : b.effs.length * 72 ≤ 140737488351232) (hd : ∀ m ∈ ms, m.e.dots.length * 24 ≤ 140737488351232) :
    Calls Tryd.prog 6 #[bV b ca ea cc ec] w fun e w' => e = .returned (.pointer (some ⟨w.heap.size + 1, 0, none⟩)) ∧ ∃ gE cE vD nd, nd.map (·.e) = b.effs ∧ LentIn w' w.heap.size b ca ea cc ec (.slice (some ⟨gE, 0, none⟩) b.effs.length cE) vD (.slice (some ⟨gE, 0, none⟩) (b.effs.length + 2) cE) nd (nd ++ [beyondE, beyondE]) ∧ Below w.heap.size w w' := by
  have h' : Hid (BatAt w b ca ea ms) := h
  have hd' : Hid (∀ m ∈ ms, m.e.dots.length * 24 ≤ 140737488351232) := hd
  clear h hd
  obtain ⟨i, hi, hz0, hz1, hz2⟩ := info_parts infoSlD
  obtain ⟨i2, hi2, hy0, hy1, hy2⟩ := info_parts infoEff
  go_enter Tryd.func6, Tryd.ntmps6
  go_wp2_with fail
  refine (lentI_at b.clock ca cc _ (w.heap.size + 2) (by simp) ?_ (by omega)).mono ?_
  · exact h'.out.clock.kept (((Below.refl _ _).alloc (Nat.le_refl _) _).alloc (by simp) _)
  rintro e w1 ⟨rfl, ho1, hg1⟩
  have k0 : Blk w1 w.heap.size #[I b.o, I b.s, I b.t, .slice ca b.clock.length cc, .slice ea b.effs.length ec] 25 := by
    refine Blk.grown ?_ hg1 (by simp)
    exact Blk.kept (B := w.heap.size + 1) (heap_alloc_new w _) ((Below.refl _ _).alloc (by simp) _) (by omega)
  have k1 : Blk w1 (w.heap.size + 1) #[I b.o, I b.s, I b.t, .slice ca b.clock.length cc, .slice ea b.effs.length ec, .slice none 0 0, .slice none 0 0, .slice none 0 0] 33 := Blk.grown (Blk.second _ _ _ _) hg1 (by simp)
  have hb1 : Below w.heap.size w w1 := Below.grown (((Below.refl _ _).alloc (Nat.le_refl _) _).alloc (by simp) _) hg1 (by simp; omega) (by simp)
  have y5 : w1.cell? ⟨w.heap.size + 1, 5, none⟩ = some (.slice none 0 0) := k1.cell 5
  have z5 := k1.frozen 5
  have H1 : Hid (w1.ownsRow (w.heap.size + 2) 3 1 (.slice (some ⟨w.heap.size + 2, 0, none⟩) (b.clock.length + 2) (b.clock.length + 2)) (b.clock.length + 2) ((b.clock ++ [-77, -77]).map I) ∧ Below w.heap.size w w1) := ⟨ho1, hb1⟩
  have K0 : Hid (Blk w1 w.heap.size #[I b.o, I b.s, I b.t, .slice ca b.clock.length cc, .slice ea b.effs.length ec] 25) := k0
  have K1 : Hid (Blk w1 (w.heap.size + 1) #[I b.o, I b.s, I b.t, .slice ca b.clock.length cc, .slice ea b.effs.length ec, .slice none 0 0, .slice none 0 0, .slice none 0 0] 33) := k1
  clear ho1 hg1 k0 k1 hb1
  go_wp2_with fail
  generalize hw2 : w1.setCell ⟨w.heap.size + 1, 5, none⟩ (.slice (some ⟨w.heap.size + 2, 0, none⟩) (b.clock.length + 2) (b.clock.length + 2)) = w2
  have k0 : Hid (Blk w2 w.heap.size #[I b.o, I b.s, I b.t, .slice ca b.clock.length cc, .slice ea b.effs.length ec] 25) := by rw [← hw2]; exact K0.out.other (by simp) _
  have k1 : Hid (Blk w2 (w.heap.size + 1) #[I b.o, I b.s, I b.t, .slice ca b.clock.length cc, .slice ea b.effs.length ec, .slice (some ⟨w.heap.size + 2, 0, none⟩) (b.clock.length + 2) (b.clock.length + 2), .slice none 0 0, .slice none 0 0] 33) := by rw [← hw2]; exact K1.out.set 5 _
  have H2 : Hid (w2.ownsRow (w.heap.size + 2) 3 1 (.slice (some ⟨w.heap.size + 2, 0, none⟩) (b.clock.length + 2) (b.clock.length + 2)) (b.clock.length + 2) ((b.clock ++ [-77, -77]).map I) ∧ Below w.heap.size w w2) := by
    rw [← hw2]
    exact ⟨ownsRow_setCell_below H1.out.1 (by simp) _, H1.out.2.setCell (by simp) _⟩
  clear hw2 y5 z5 H1 K0 K1
  have y5 : w2.cell? ⟨w.heap.size + 1, 5, none⟩ = some (.slice (some ⟨w.heap.size + 2, 0, none⟩) (b.clock.length + 2) (b.clock.length + 2)) := k1.out.cell 5
  have y3 : w2.cell? ⟨w.heap.size + 1, 3, none⟩ = some (.slice ca b.clock.length cc) := k1.out.cell 3
  have z3 := k1.out.frozen 3
  have u3 : w2.cell? ⟨w.heap.size, 3, none⟩ = some (.slice ca b.clock.length cc) := k0.out.cell 3
  go_region
  generalize hw3 : (w2.setCell ⟨w.heap.size + 1, 3, none⟩ (.slice (some ⟨w.heap.size + 2, 0, none⟩) b.clock.length (b.clock.length + 2))).drew = w3
  have HL : Hid (LentIn w3 w.heap.size b ca ea cc ec (.slice ea b.effs.length ec) (.slice none 0 0) (.slice none 0 0) [] []) := by
    rw [← hw3]
    have hO := ownsRow_setCell_below H2.out.1 (a := ⟨w.heap.size + 1, 3, none⟩) (by simp) (.slice (some ⟨w.heap.size + 2, 0, none⟩) b.clock.length (b.clock.length + 2))
    exact ⟨k0.out.other (a := ⟨w.heap.size + 1, 3, none⟩) (by simp) _, k1.out.set 3 _, ⟨Nat.le_refl _, own_lt hO, by simp [Value.ownBlock], by simp [Value.ownBlock], own_at hO⟩, by simp, World.ownsRow_nil _ _ _ _, World.ownsRow_nil _ _ _ _, by simp [Value.ownBlock]⟩
  have HB : Hid (Below w.heap.size w w3) := by rw [← hw3]; exact (H2.out.2.setCell (by simp) _).drew
  clear hw3 k0 k1 H2 y5 y3 z3
  go_wp2_with fail
  go_loopw [4] (fun x wr => ∃ k : Nat, k ≤ b.effs.length ∧ x = I k ∧ ∃ vD vE ns, Hid (ns.map (·.e) = (ms.take k).map (·.e)) ∧ Hid (LentIn wr w.heap.size b ca ea cc ec (.slice ea b.effs.length ec) vD vE ns ns) ∧ Hid (Below w.heap.size w wr)) (fun x _ => b.effs.length - (intOf x).toNat)
  case atStart => exact ⟨0, Nat.zero_le _, rfl, _, _, [], rfl, HL, HB⟩
  case round =>
    obtain ⟨k, hk, rfl, vD, vE, ns, hns, hL, hB⟩ := hrel
    clear HL HB
    have u4 : wr.cell? ⟨w.heap.size, 4, none⟩ = some (.slice ea b.effs.length ec) := hL.out.k0.cell 4
    by_cases hlt : k < b.effs.length
    · have hlt' : k < ms.length := by have := congrArg List.length h'.out.effs; simp at this; omega
      obtain ⟨p2, q2, hea, hp2, hce⟩ := effs_at h'.out.cells (by omega)
      obtain ⟨c0, c1, c2, c3, c4, c5, c6⟩ := hce k hlt'
      replace c0 := cell_kept hB.out c0
      replace c1 := cell_kept hB.out c1
      replace c2 := cell_kept hB.out c2
      replace c3 := cell_kept hB.out c3
      replace c4 := cell_kept hB.out c4
      replace c5 := cell_kept hB.out c5
      replace c6 := cell_kept hB.out c6
      have hpr := lt_of_cell c0
      have hki : (k : Int) < (b.effs.length : Int) := by omega
      have HM : Hid (ms[k] ∈ ms ∧ (ms.take (k + 1)).map (·.e) = (ms.take k).map (·.e) ++ [ms[k].e]) := by
        refine ⟨List.getElem_mem _, ?_⟩
        rw [← List.take_append_getElem hlt', List.map_append]; rfl
      generalize ms[k] = m at c0 c1 c2 c3 c4 c5 c6 HM
      clear hce
      rw [hea] at u4
      clear hea
      have hdm := hd'.out m HM.out.1
      go_wp2_with fail
      refine (lentD_at m.e.dots m.da m.dc _ (wr.heap.size + 1) (by simp) ?_ (by omega)).mono ?_
      · exact ((h'.out.dots m HM.out.1).kept hB.out).kept ((Below.refl _ _).alloc (Nat.le_refl _) _)
      rintro e w4 ⟨rfl, ho4, hg4⟩
      have hb4 : Below wr.heap.size wr w4 := Below.grown ((Below.refl _ _).alloc (Nat.le_refl _) _) hg4 (by simp) (by simp)
      have HL4 : Hid (LentIn w4 w.heap.size b ca ea cc ec (.slice ea b.effs.length ec) vD vE ns ns) := hL.out.kept hb4
      have HE4 : Hid (Blk w4 wr.heap.size #[I m.e.op, I m.e.ob, I m.e.va, I m.e.ref.o, I m.e.ref.s, I m.e.ref.i, .slice m.da m.e.dots.length m.dc] 43) := Blk.grown (heap_alloc_new wr _) hg4 (by simp)
      have HD4 : Hid (w4.ownsRow (wr.heap.size + 1) 40 3 (.slice (some ⟨wr.heap.size + 1, 0, none⟩) (m.e.dots.length + 2) (m.e.dots.length + 2)) (m.e.dots.length + 2) (flat dotCells m.e.dots ++ beyondD)) := ho4
      have HB4 : Hid (Below wr.heap.size wr w4) := hb4
      clear ho4 hg4 hb4 c0 c1 c2 c3 c4 c5 c6 u4
      have y7 : w4.cell? ⟨w.heap.size + 1, 7, none⟩ = some vD := HL4.out.k1.cell 7
      have hnl : ns.length < b.effs.length := by
        have := congrArg List.length hns.out
        simp at this
        omega
      have hbl : w.heap.size + 2 < w4.heap.size := HL4.out.clock.lt
      have hwl : w.heap.size + 2 < wr.heap.size := hL.out.clock.lt
      have hw4 : wr.heap.size ≤ w4.heap.size := HB4.out.size
      have HN1 : Hid (some (w.heap.size + 1) ≠ vD.ownBlock ∧ some wr.heap.size ≠ vD.ownBlock) := ⟨fun e => by have := (hL.out.ownD.lt _ e.symm).1; omega, fun e => by have := (hL.out.ownD.lt _ e.symm).2; omega⟩
      go_wp2_with (first | (at_builtin; go_must (refine wpList_append_lies _ rfl _ _ _ rfl (w.heap.size + 3) 41 i (.slice none 0 0) 1 24 Tryd.underlying31 hi hz0 hz1 hz2 rfl (by omega) vD ns.length (ns.map Em.lentV) rfl (HL4.out.ownD.alloc _) ⟨w4.heap.size, 0, none⟩ 1 1 [.slice (some ⟨wr.heap.size + 1, 0, none⟩) (m.e.dots.length + 2) (m.e.dots.length + 2)] rfl rfl (lit_any w4 _ _) (by intro u hu; rw [List.mem_singleton] at hu; subst hu; rfl) (by omega) (by unfold maxLen; omega) (by omega) (by simp; omega) (w4.heap.size + 1) (by simp) ?_; intro g5 cap5 w5 hown5 hgrow5 hat5 hlt5; have K5 : Hid (Blk w5 (w.heap.size + 1) (lentCells b w.heap.size (.slice ea b.effs.length ec) vE vD) 33) := Blk.grown (HL4.out.k1.alloc _) hgrow5 HN1.out.1; have E5 : Hid (Blk w5 wr.heap.size #[I m.e.op, I m.e.ob, I m.e.va, I m.e.ref.o, I m.e.ref.s, I m.e.ref.i, .slice m.da m.e.dots.length m.dc] 43) := Blk.grown (HE4.out.alloc _) hgrow5 HN1.out.2; have y7b : w5.cell? ⟨w.heap.size + 1, 7, none⟩ = some vD := K5.out.cell 7; have z7 := K5.out.frozen 7; have e6 : w5.cell? ⟨wr.heap.size, 6, none⟩ = some (.slice m.da m.e.dots.length m.dc) := E5.out.cell 6; have f6 := E5.out.frozen 6; have HG5 : Hid ((w5.ownsRow (w.heap.size + 3) 41 1 (.slice (some ⟨g5, 0, none⟩) (ns.length + 1) cap5) (ns.length + 1) (ns.map Em.lentV ++ [.slice (some ⟨wr.heap.size + 1, 0, none⟩) (m.e.dots.length + 2) (m.e.dots.length + 2)])) ∧ (w4.alloc (.cells #[.slice (some ⟨wr.heap.size + 1, 0, none⟩) (m.e.dots.length + 2) (m.e.dots.length + 2)] 41)).grownBy w5 vD.ownBlock ∧ (vD.ownBlock = some g5 ∨ g5 = w4.heap.size + 1)) := ⟨hown5, hgrow5, hat5⟩; clear hown5 hgrow5 hat5)))
      have h4g : wr.heap.size + 1 < w4.heap.size := own_lt HD4.out
      generalize hw6 : (w5.setCell ⟨w.heap.size + 1, 7, none⟩ (.slice (some ⟨g5, 0, none⟩) (ns.length + 1) cap5)).setCell ⟨wr.heap.size, 6, none⟩ (.slice (some ⟨wr.heap.size + 1, 0, none⟩) m.e.dots.length (m.e.dots.length + 2)) = w6
      have HB6 : Hid (∀ k, k ≠ w.heap.size + 1 → k ≠ wr.heap.size → w6.heap[k]? = w5.heap[k]?) := by
        show ∀ k, _
        intro k h1 h2
        rw [← hw6, heap_setCell_other _ ⟨wr.heap.size, 6, none⟩ k _ h2, heap_setCell_other _ ⟨w.heap.size + 1, 7, none⟩ k _ h1]
      have HS6 : Hid (w6.heap.size = w5.heap.size) := by show _ = _; rw [← hw6]; simp [World.setCell]
      have HW5 : Hid (∀ k, k < w4.heap.size → some k ≠ vD.ownBlock → w5.heap[k]? = w4.heap[k]?) := by
        show ∀ k, _
        intro k h1 h2
        rw [HG5.out.2.1.block k (by simp; omega) h2, Below.heap_alloc w4 _ k h1]
      have hs5 : w4.heap.size + 1 ≤ w5.heap.size := by have := HG5.out.2.1.size; simpa using this
      have HG : Hid (g5 < wr.heap.size ∧ vD.ownBlock = some g5 ∨ g5 = w4.heap.size + 1) := by
        rcases HG5.out.2.2 with e | e
        · exact Or.inl ⟨(hL.out.ownD.lt _ e).2, e⟩
        · exact Or.inr e
      have hg3 : w.heap.size + 3 ≤ g5 := (HG5.out.1.lt g5 rfl).1
      have hgn : g5 ≠ wr.heap.size ∧ g5 ≠ wr.heap.size + 1 := by rcases HG.out with ⟨h, _⟩ | h <;> omega
      have HL6 : Hid (LentIn w6 w.heap.size b ca ea cc ec (.slice ea b.effs.length ec) (.slice (some ⟨g5, 0, none⟩) (ns.length + 1) cap5) vE (ns ++ [⟨m.e, some ⟨wr.heap.size + 1, 0, none⟩, m.e.dots.length + 2⟩]) ns) := by
        refine hL.out.growD (gm := wr.heap.size + 1) (by rw [HS6.out]; omega) ?_ ?_ ?_ ?_ rfl rfl (by omega) (by rw [HS6.out]; omega) ?_ ?_
        · intro k h1 h2 h3
          rw [HB6.out k h2 (by omega), HW5.out k (by omega) h3, HB4.out.block k h1]
        · rw [← hw6]
          exact (K5.out.set 7 _).other (by show w.heap.size + 1 ≠ wr.heap.size; omega) _
        · refine own_kept HG5.out.1 fun g hg => ?_
          obtain rfl : g5 = g := by simpa [Value.ownBlock] using hg
          exact HB6.out _ (by omega) hgn.1
        · rcases HG.out with ⟨_, e⟩ | e
          · exact Or.inl e.symm
          · exact Or.inr ⟨g5, rfl, by omega⟩
        · intro e
          cases e
          exact hgn.2 rfl
        · refine at_block (own_at HD4.out) ?_
          rw [HB6.out _ (by omega) (by omega), HW5.out _ h4g (fun e => by have := (hL.out.ownD.lt _ e.symm).2; omega)]
      have HE6 : Hid (Blk w6 wr.heap.size #[I m.e.op, I m.e.ob, I m.e.va, I m.e.ref.o, I m.e.ref.s, I m.e.ref.i, .slice (some ⟨wr.heap.size + 1, 0, none⟩) m.e.dots.length (m.e.dots.length + 2)] 43) := by
        rw [← hw6]
        exact (E5.out.other (a := ⟨w.heap.size + 1, 7, none⟩) (by show wr.heap.size ≠ w.heap.size + 1; omega) _).set 6 _
      have HB6' : Hid (Below w.heap.size w w6) := by
        refine hB.out.trans (HB4.out.mono (by omega) |>.trans ?_)
        rw [← hw6]
        exact (((Below.refl _ _).alloc (by omega) _).grown HG5.out.2.1 (by simp; omega) (fun k e => by have := (hL.out.ownD.lt k e).1; omega)).setCell (by show w.heap.size ≤ w.heap.size + 1; omega) _ |>.setCell (by show w.heap.size ≤ wr.heap.size; omega) _
      have HEn : Hid (some (w.heap.size + 1) ≠ vE.ownBlock ∧ some wr.heap.size ≠ vE.ownBlock) := ⟨fun e => by have := (hL.out.ownE.lt _ e.symm).1; omega, fun e => by have := (hL.out.ownE.lt _ e.symm).2; omega⟩
      have hs6 : wr.heap.size + 1 < w6.heap.size := by rw [HS6.out]; omega
      clear hw6 HB6 HS6 HW5 HG hg3 hgn K5 E5 y7 y7b z7 e6 f6 hs5 h4g HE4 HD4 HL4 HB4 hbl hw4 HN1 HG5
      have y6 : w6.cell? ⟨w.heap.size + 1, 6, none⟩ = some vE := HL6.out.k1.cell 6
      have z6 := HL6.out.k1.frozen 6
      have e0 : w6.cell? ⟨wr.heap.size, 0, none⟩ = some (I m.e.op) := HE6.out.cell 0
      have e1 : w6.cell? ⟨wr.heap.size, 1, none⟩ = some (I m.e.ob) := HE6.out.cell 1
      have e2 : w6.cell? ⟨wr.heap.size, 2, none⟩ = some (I m.e.va) := HE6.out.cell 2
      have e3 : w6.cell? ⟨wr.heap.size, 3, none⟩ = some (I m.e.ref.o) := HE6.out.cell 3
      have e4 : w6.cell? ⟨wr.heap.size, 4, none⟩ = some (I m.e.ref.s) := HE6.out.cell 4
      have e5 : w6.cell? ⟨wr.heap.size, 5, none⟩ = some (I m.e.ref.i) := HE6.out.cell 5
      have e6 : w6.cell? ⟨wr.heap.size, 6, none⟩ = some (.slice (some ⟨wr.heap.size + 1, 0, none⟩) m.e.dots.length (m.e.dots.length + 2)) := HE6.out.cell 6
      have y6b : (w6.alloc (.cells #[I m.e.op, I m.e.ob, I m.e.va, I m.e.ref.o, I m.e.ref.s, I m.e.ref.i, .slice (some ⟨wr.heap.size + 1, 0, none⟩) m.e.dots.length (m.e.dots.length + 2)] 43)).cell? ⟨w.heap.size + 1, 6, none⟩ = some vE := (HL6.out.k1.alloc _).cell 6
      go_region_law
        ((refine step_append_lies _ (by rfl) _ _ _ (by rfl) (w.heap.size + 3) 43 i2 (.agg #[.int .i64 0, .int .i64 0, .int .i64 0, .int .i64 0, .int .i64 0, .int .i64 0, .slice none 0 0]) 7 72 Tryd.underlying23 hi2 hy0 hy1 hy2 (by rfl) (by omega) vE ns.length (flat Em.cells ns) (by rfl) (by first | exact HL6.out.ownE.alloc _ | exact (HL6.out.ownE.alloc _).drew | exact (HL6.out.ownE.drew).alloc _) ⟨w6.heap.size, 0, none⟩ 1 1 [I m.e.op, I m.e.ob, I m.e.va, I m.e.ref.o, I m.e.ref.s, I m.e.ref.i, .slice (some ⟨wr.heap.size + 1, 0, none⟩) m.e.dots.length (m.e.dots.length + 2)] (by rfl) (by rfl) (by first | exact lit_any w6 _ _ | exact lit_drew w6 _ _) (eff_one m wr.heap.size) (by omega) (by unfold maxLen; omega) (by omega) (by simp; omega) (w6.heap.size + 1) (by simp) ?_; intro g7 cap7 w7 hown7 hgrow7 hat7 hlt7; have HT7 : Hid (Blk w7 (w.heap.size + 1) (lentCells b w.heap.size (.slice ea b.effs.length ec) vE (.slice (some ⟨g5, 0, none⟩) (ns.length + 1) cap5)) 33 ∧ Blk w7 wr.heap.size #[I m.e.op, I m.e.ob, I m.e.va, I m.e.ref.o, I m.e.ref.s, I m.e.ref.i, .slice (some ⟨wr.heap.size + 1, 0, none⟩) m.e.dots.length (m.e.dots.length + 2)] 43) := (by first | exact ⟨Blk.grown (HL6.out.k1.alloc _) hgrow7 HEn.out.1, Blk.grown (HE6.out.alloc _) hgrow7 HEn.out.2⟩ | exact ⟨Blk.grown (HL6.out.k1.alloc _).drew hgrow7 HEn.out.1, Blk.grown (HE6.out.alloc _).drew hgrow7 HEn.out.2⟩); have z7 := HT7.out.1.frozen 6; have y6c : w7.cell? ⟨w.heap.size + 1, 6, none⟩ = some vE := HT7.out.1.cell 6))
      all_goals
        (have hg7 : w.heap.size + 3 ≤ g7 := (hown7.lt g7 rfl).1
         have LF : Hid (LentIn (w7.setCell ⟨w.heap.size + 1, 6, none⟩ (.slice (some ⟨g7, 0, none⟩) (ns.length + 1) cap7)) w.heap.size b ca ea cc ec (.slice ea b.effs.length ec) (.slice (some ⟨g5, 0, none⟩) (ns.length + 1) cap5) (.slice (some ⟨g7, 0, none⟩) (ns.length + 1) cap7) (ns ++ [⟨m.e, some ⟨wr.heap.size + 1, 0, none⟩, m.e.dots.length + 2⟩]) (ns ++ [⟨m.e, some ⟨wr.heap.size + 1, 0, none⟩, m.e.dots.length + 2⟩])) := by
           refine HL6.out.growE ?_ ?_ (HT7.out.1.set 6 _) ?_ ?_
           · have := hgrow7.size; simp at this; simp [World.setCell]; omega
           · intro k h1 h2 h3
             rw [heap_setCell_other _ ⟨w.heap.size + 1, 6, none⟩ k _ h2, hgrow7.block k (by simp; omega) h3]
             exact Below.heap_alloc w6 _ k h1
           · refine own_kept hown7 fun g hg => ?_
             obtain rfl : g7 = g := by simpa [Value.ownBlock] using hg
             exact heap_setCell_other _ ⟨w.heap.size + 1, 6, none⟩ _ _ (by show g7 ≠ w.heap.size + 1; omega)
           · rcases hat7 with e | e
             · exact Or.inl e.symm
             · exact Or.inr ⟨g7, rfl, by omega⟩
         have HBF : Hid (Below w.heap.size w (w7.setCell ⟨w.heap.size + 1, 6, none⟩ (.slice (some ⟨g7, 0, none⟩) (ns.length + 1) cap7))) := HB6'.out.trans (((((Below.refl _ _).alloc (by omega) _).drew).grown hgrow7 (by simp; omega) (fun k e => by have := (hL.out.ownE.lt k e).1; omega)).setCell (by show w.heap.size ≤ w.heap.size + 1; omega) _)
         clear HT7 hown7 hgrow7 hat7 hlt7 z7 y6c e0 e1 e2 e3 e4 e5 e6 y6 z6 y6b
         go_wp2_with fail
         go_roundw
         case rel => exact ⟨k + 1, by omega, by go_num, _, _, _, (by show List.map _ _ = _; rw [List.map_append, hns.out, HM.out.2]; rfl), LF, HBF⟩
         case measure => simp [intOf]; omega)
    · obtain rfl : k = b.effs.length := by omega
      have HNL : Hid (ns.map (·.e) = b.effs) := by
        show ns.map (·.e) = b.effs
        rw [hns.out, h'.out.effs]
        rw [List.take_of_length_le (by simp)]
      have HOE : Hid (wr.ownsRow (w.heap.size + 3) 43 7 vE b.effs.length (flat Em.cells ns)) := by
        have := hL.out.ownE
        have hl : ns.length = b.effs.length := by have := congrArg List.length HNL.out; simpa using this
        rwa [hl] at this
      have hwl : w.heap.size + 2 < wr.heap.size := hL.out.clock.lt
      have HEn : Hid (some (w.heap.size + 1) ≠ vE.ownBlock ∧ some w.heap.size ≠ vE.ownBlock) := ⟨fun e => by have := (hL.out.ownE.lt _ e.symm).1; omega, fun e => by have := (hL.out.ownE.lt _ e.symm).1; omega⟩
      have y6 : wr.cell? ⟨w.heap.size + 1, 6, none⟩ = some vE := hL.out.k1.cell 6
      go_wp2_with (first | (at_builtin; go_must (refine wpList_append_lies _ rfl _ _ _ rfl (w.heap.size + 3) 43 i2 (.agg #[.int .i64 0, .int .i64 0, .int .i64 0, .int .i64 0, .int .i64 0, .int .i64 0, .slice none 0 0]) 7 72 Tryd.underlying23 hi2 hy0 hy1 hy2 rfl (by omega) vE b.effs.length (flat Em.cells ns) rfl (HOE.out.alloc _) ⟨wr.heap.size, 0, none⟩ 2 2 (beyondE.cells ++ beyondE.cells) rfl rfl (lit_any wr _ _) bey_one (by omega) (by unfold maxLen; omega) (by omega) (by simp; omega) (wr.heap.size + 1) (by simp) ?_; intro g5 cap5 w5 hown5 hgrow5 hat5 hlt5; have K5 : Hid (Blk w5 (w.heap.size + 1) (lentCells b w.heap.size (.slice ea b.effs.length ec) vE vD) 33) := Blk.grown (hL.out.k1.alloc _) hgrow5 HEn.out.1; have y6b : w5.cell? ⟨w.heap.size + 1, 6, none⟩ = some vE := K5.out.cell 6; have z6 := K5.out.frozen 6)))
      have hg5 : w.heap.size + 3 ≤ g5 := (hown5.lt g5 rfl).1
      have hcap : b.effs.length + 2 ≤ cap5 := by
        rcases hown5.2 with ⟨h, _⟩ | ⟨g', cap', cur, h, _, _, hc, _⟩
        · simp at h
        · simp only [Value.slice.injEq, true_and] at h
          omega
      generalize hw6 : w5.setCell ⟨w.heap.size + 1, 6, none⟩ (.slice (some ⟨g5, 0, none⟩) (b.effs.length + 2) cap5) = w6
      have HL6 : Hid (LentIn w6 w.heap.size b ca ea cc ec (.slice ea b.effs.length ec) vD (.slice (some ⟨g5, 0, none⟩) (b.effs.length + 2) cap5) ns (ns ++ [beyondE, beyondE])) := by
        have hl : ns.length = b.effs.length := by have := congrArg List.length HNL.out; simpa using this
        rw [← hw6]
        refine hL.out.growE ?_ ?_ (K5.out.set 6 _) ?_ ?_
        · have := hgrow5.size; simp at this; simp [World.setCell]; omega
        · intro k h1 h2 h3
          rw [heap_setCell_other _ ⟨w.heap.size + 1, 6, none⟩ k _ h2, hgrow5.block k (by simp; omega) h3]
          exact Below.heap_alloc wr _ k h1
        · rw [hl]
          refine own_kept hown5 fun g hg => ?_
          obtain rfl : g5 = g := by simpa [Value.ownBlock] using hg
          exact heap_setCell_other _ ⟨w.heap.size + 1, 6, none⟩ _ _ (by show g5 ≠ w.heap.size + 1; omega)
        · rcases hat5 with e | e
          · exact Or.inl e.symm
          · exact Or.inr ⟨g5, rfl, by omega⟩
      have HB6 : Hid (Below w.heap.size w w6) := by
        rw [← hw6]
        exact hB.out.trans ((((Below.refl _ _).alloc (by omega) _).grown hgrow5 (by simp; omega) (fun k e => by have := (hL.out.ownE.lt k e).1; omega)).setCell (by show w.heap.size ≤ w.heap.size + 1; omega) _)
      clear hw6 hown5 hgrow5 hat5 hlt5 K5 y6b z6 y6 HOE HEn
      have y6 : w6.cell? ⟨w.heap.size + 1, 6, none⟩ = some (.slice (some ⟨g5, 0, none⟩) (b.effs.length + 2) cap5) := HL6.out.k1.cell 6
      have y4 : w6.cell? ⟨w.heap.size + 1, 4, none⟩ = some (.slice ea b.effs.length ec) := HL6.out.k1.cell 4
      have z4 := HL6.out.k1.frozen 4
      have u4' : w6.cell? ⟨w.heap.size, 4, none⟩ = some (.slice ea b.effs.length ec) := HL6.out.k0.cell 4
      go_region
      go_wp2_with fail
      go_ret
      exact ⟨rfl, g5, cap5, vD, ns, HNL.out, HL6.out.turnEv _, (HB6.out.setCell (by show w.heap.size ≤ w.heap.size + 1; omega) _).drew⟩

end Go.Proofs.YtfmcngncaffloaaDoor
