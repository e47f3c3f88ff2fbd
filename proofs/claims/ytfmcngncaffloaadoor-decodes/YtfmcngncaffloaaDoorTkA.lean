import Derived.Test.YtfmcngncaffloaaDoorRdrA
import Derived.Deep.QuietTactic
import Derived.BigQuiet
import Derived.Test.YtfmcngncaffloaaDoorRdrB
namespace Go.Proofs.YtfmcngncaffloaaDoor.Wv

def numB (l : List UInt8) : Nat := l.foldl (fun n b => 256 * n + b.toNat) 0
theorem numB_snoc (l : List UInt8) (b : UInt8) : numB (l ++ [b]) = 256 * numB l + b.toNat := by simp [numB]
theorem numB_take (l : List UInt8) (k : Nat) (h : k < l.length) : numB (l.take (k + 1)) = 256 * numB (l.take k) + l[k].toNat := by
  rw [List.take_succ_eq_append_getElem h, numB_snoc]
theorem numB_lt : ∀ (n : Nat) (l : List UInt8), l.length ≤ n → n ≤ 4 → numB l < 256 ^ n := by
  intro n
  induction n with
  | zero =>
    intro l h _
    have : l = [] := List.eq_nil_of_length_eq_zero (by omega)
    subst this
    simp [numB]
  | succ n ih =>
    intro l h h4
    by_cases hl : l = []
    · subst hl; simp [numB]; exact Nat.pow_pos (by omega)
    · obtain ⟨m, b, rfl⟩ : ∃ m b, l = m ++ [b] := ⟨l.dropLast, l.getLast hl, (List.dropLast_concat_getLast hl).symm⟩
      have := ih m (by simp at h; omega) (by omega)
      have hb := byte_lt b
      rw [numB_snoc, Nat.pow_succ]
      omega

end Go.Proofs.YtfmcngncaffloaaDoor.Wv
namespace Go.Proofs.YtfmcngncaffloaaDoor
open Go.RowKit
set_option maxRecDepth 100000

set_option maxHeartbeats 800000 in
theorem number_any (l : List UInt8) (w : World) (hl : l.length ≤ 4) :
    Calls Tryd.prog 27 #[.string ⟨l.toArray⟩] w fun e w' => e = .returned (I (Wv.numB l : Nat)) ∧ w' = w := by
  have hs := str_size l
  go_enter Tryd.func27, Tryd.ntmps27
  go_wp2
  go_loop [3, 4] (fun c i => ∃ k : Nat, k ≤ l.length ∧ i = .int .i64 k ∧ c = .int .i64 (Wv.numB (l.take k) : Nat)) (fun _ i => l.length - (intOf i).toNat)
  case atStart => exact ⟨0, Nat.zero_le _, rfl, rfl⟩
  case round =>
    obtain ⟨k, hk, rfl, rfl⟩ := hrel
    by_cases hlt : k < l.length
    · have hb := Wv.byte_lt l[k]
      have hn : Wv.numB (l.take k) < 16777216 := Wv.numB_lt 3 (l.take k) (by simp; omega) (by omega)
      have HS : Hid (Wv.numB (l.take (k + 1)) = 256 * Wv.numB (l.take k) + l[k].toNat) := Wv.numB_take l k hlt
      generalize Wv.numB (l.take k) = c at *
      go_wp2
      exact ⟨⟨k + 1, by omega, by go_num, val_int (by rw [HS.out]; show wrap64 (256 * (c : Int) + wrap64 (l[k].toNat : Int)) = _; unfold wrap64; omega)⟩, by simp [intOf]; omega⟩
    · obtain rfl : k = l.length := by omega
      go_wp2
      go_ret
      exact ⟨ret_int (by first | rfl | rw [List.take_length]), rfl⟩

/-- A text that is taken from, and how far that has come. -/
def Tk (w : World) (g : Nat) (c : List UInt8) : Wv.St → Prop
  | some k => Blk w g #[.string ⟨(c.drop k).toArray⟩, .bool false] 66 ∧ k ≤ c.length
  | none => Blk w g #[.string ⟨#[]⟩, .bool true] 66
theorem Tk.lt {w : World} {g : Nat} {c : List UInt8} {q : Wv.St} (h : Tk w g c q) : g < w.heap.size := by
  cases q with
  | some k => exact Blk.lt h.1
  | none => exact Blk.lt h
theorem Tk.grown {w w' : World} {g : Nat} {c : List UInt8} {q : Wv.St} {row : Option Nat} (h : Tk w g c q) (hg : w.grownBy w' row) (hne : some g ≠ row) : Tk w' g c q := by
  cases q with
  | some k => exact ⟨Blk.grown h.1 hg hne, h.2⟩
  | none => exact Blk.grown h hg hne
theorem Tk.other {w : World} {g : Nat} {c : List UInt8} {q : Wv.St} (h : Tk w g c q) {a : Addr} (ha : g ≠ a.block) (u : Value) : Tk (w.setCell a u) g c q := by
  cases q with
  | some k => exact ⟨Blk.other h.1 ha u, h.2⟩
  | none => exact Blk.other h ha u
theorem Tk.alloc {w : World} {g : Nat} {c : List UInt8} {q : Wv.St} (h : Tk w g c q) (o : Obj) : Tk (w.alloc o) g c q := by
  cases q with
  | some k => exact ⟨Blk.alloc h.1 o, h.2⟩
  | none => exact Blk.alloc h o
theorem Tk.kept {w w' : World} {B g : Nat} {c : List UInt8} {q : Wv.St} (h : Tk w g c q) (hb : Below B w w') (hg : g < B) : Tk w' g c q := by
  cases q with
  | some k => exact ⟨Blk.kept h.1 hb hg, h.2⟩
  | none => exact Blk.kept h hb hg
theorem str_drop (l : List UInt8) (n : Nat) : (⟨l.toArray⟩ : ByteArray).extract n l.length = ⟨(l.drop n).toArray⟩ := by
  apply ByteArray.ext
  simp [ByteArray.data_extract]
  exact List.take_of_length_le (by simp)
theorem grown_set2 (w : World) (g j j2 : Nat) (u u2 : Value) : w.grownBy ((w.setCell ⟨g, j, none⟩ u).setCell ⟨g, j2, none⟩ u2) (some g) :=
  grown_trans (grown_set w g j u) (grown_set _ g j2 u2)

set_option maxHeartbeats 800000 in
theorem take_some (c : List UInt8) (k n : Nat) (g : Nat) (w : World) (h : Tk w g c (some k)) (hn : n ≤ 4) (hk : k + n ≤ c.length) (hc : c.length ≤ 1048576) :
    Calls Tryd.prog 28 #[.pointer (some ⟨g, 0, none⟩), I n] w fun e w' => e = .returned (I (Wv.numB ((c.drop k).take n) : Nat)) ∧ Tk w' g c (some (k + n)) ∧ w.grownBy w' (some g) := by
  have h' : Hid (Blk w g #[.string ⟨(c.drop k).toArray⟩, .bool false] 66) := h.1
  have c0 : w.cell? ⟨g, 0, none⟩ = some (.string ⟨(c.drop k).toArray⟩) := h'.out.cell 0
  have z0 := h'.out.frozen 0
  have hs := str_size (c.drop k)
  have hl : (c.drop k).length = c.length - k := by simp
  have hx : (⟨(c.drop k).toArray⟩ : ByteArray).extract 0 n = ⟨((c.drop k).take n).toArray⟩ := str_take _ _
  have HY : Hid ((⟨(c.drop k).toArray⟩ : ByteArray).extract n (c.drop k).length = ⟨(c.drop (k + n)).toArray⟩) := by show _ = _; rw [str_drop, List.drop_drop]
  have hnn : n ≤ (c.drop k).length := by omega
  have HK : Hid (k + n ≤ c.length) := hk
  have hln : (c.drop k).length ≤ 1048576 := by omega
  clear h hk hc hl
  generalize c.drop k = l at *
  go_enter Tryd.func28, Tryd.ntmps28
  go_wp2_with fail
  refine (number_any (l.take n) _ (by simp; omega)).mono ?_
  rintro e w1 ⟨rfl, hw1⟩
  subst hw1
  go_wp2
  rw [HY.out]
  go_ret
  exact ⟨rfl, ⟨h'.out.set 0 _, HK.out⟩, grown_set _ _ _ _⟩

set_option maxHeartbeats 800000 in
theorem take_out (c l : List UInt8) (o : Bool) (n : Nat) (g : Nat) (w : World) (h : Blk w g #[.string ⟨l.toArray⟩, .bool o] 66) (hn : l.length < n) (_hl : n ≤ 4) :
    Calls Tryd.prog 28 #[.pointer (some ⟨g, 0, none⟩), I n] w fun e w' => e = .returned (I 0) ∧ Tk w' g c none ∧ w.grownBy w' (some g) := by
  have h' : Hid (Blk w g #[.string ⟨l.toArray⟩, .bool o] 66) := h
  have c0 : w.cell? ⟨g, 0, none⟩ = some (.string ⟨l.toArray⟩) := h'.out.cell 0
  have c1 : w.cell? ⟨g, 1, none⟩ = some (.bool o) := h'.out.cell 1
  have z0 := h'.out.frozen 0
  have z1 := h'.out.frozen 1
  have hs := str_size l
  clear h
  go_enter Tryd.func28, Tryd.ntmps28
  go_wp2
  go_ret
  exact ⟨rfl, (h'.out.set 1 _).set 0 _, grown_set2 _ _ _ _ _ _⟩

theorem numB_one (b : UInt8) : Wv.numB [b] = b.toNat := by simp [Wv.numB]
theorem numB_two (a b : UInt8) : Wv.numB [a, b] = 256 * a.toNat + b.toNat := by simp [Wv.numB]
theorem drop_one (c : List UInt8) (k : Nat) (h : k < c.length) : (c.drop k).take 1 = [c.getD k 0] := by
  rw [List.drop_eq_getElem_cons h, List.take_succ_cons, List.take_zero]
  simp [List.getD, h]
theorem drop_two (c : List UInt8) (k : Nat) (h : k + 2 ≤ c.length) : (c.drop k).take 2 = [c.getD k 0, c.getD (k + 1) 0] := by
  rw [List.drop_eq_getElem_cons (show k < c.length by omega), List.drop_eq_getElem_cons (show k + 1 < c.length by omega), List.take_succ_cons, List.take_succ_cons, List.take_zero]
  simp [List.getD, show k < c.length by omega, show k + 1 < c.length by omega]
/-- A byte; two. -/
theorem take1_any (c : List UInt8) (q : Wv.St) (g : Nat) (w : World) (h : Tk w g c q) (hc : c.length ≤ 1048576) :
    Calls Tryd.prog 28 #[.pointer (some ⟨g, 0, none⟩), I 1] w fun e w' => e = .returned (I (Wv.one c q)) ∧ Tk w' g c (Wv.nxt c q) ∧ w.grownBy w' (some g) := by
  cases q with
  | none => exact take_out c [] true 1 g w h (by simp) (by omega)
  | some k =>
    by_cases hk : k < c.length
    · have := take_some c k 1 g w h (by omega) (by omega) hc
      rw [drop_one c k hk, numB_one] at this
      simp only [Wv.one, Wv.nxt, hk, if_true]
      exact this
    · have := take_out c (c.drop k) false 1 g w h.1 (by simp; omega) (by omega)
      simp only [Wv.one, Wv.nxt, hk, if_false]
      exact this
theorem take2_any (c : List UInt8) (q : Wv.St) (g : Nat) (w : World) (h : Tk w g c q) (hc : c.length ≤ 1048576) :
    Calls Tryd.prog 28 #[.pointer (some ⟨g, 0, none⟩), I 2] w fun e w' => e = .returned (I (Wv.two false c q)) ∧ Tk w' g c (Wv.nxt2 c q) ∧ w.grownBy w' (some g) := by
  cases q with
  | none => exact take_out c [] true 2 g w h (by simp) (by omega)
  | some k =>
    by_cases hk : k + 2 ≤ c.length
    · have := take_some c k 2 g w h (by omega) hk hc
      rw [drop_two c k hk, numB_two] at this
      have e1 : Wv.nxt2 c (some k) = some (k + 2) := by simp [Wv.nxt2, Wv.nxt, show k < c.length by omega, show k + 1 < c.length by omega]
      have e2 : Wv.two false c (some k) = ((256 * (c.getD k 0).toNat + (c.getD (k + 1) 0).toNat : Nat) : Int) := by
        unfold Wv.two
        rw [e1]
        simp [Wv.one, Wv.nxt, show k < c.length by omega, show k + 1 < c.length by omega]
      rw [e1, e2]
      exact this
    · have := take_out c (c.drop k) false 2 g w h.1 (by simp; omega) (by omega)
      have e1 : Wv.nxt2 c (some k) = none := by
        unfold Wv.nxt2
        by_cases h0 : k < c.length
        · simp [Wv.nxt, h0, show ¬ k + 1 < c.length by omega]
        · simp [Wv.nxt, h0]
      have e2 : Wv.two false c (some k) = 0 := by unfold Wv.two; rw [e1]; rfl
      rw [e1, e2]
      exact this

end Go.Proofs.YtfmcngncaffloaaDoor

namespace Go.Proofs.YtfmcngncaffloaaDoor
open Go.RowKit
set_option maxRecDepth 100000

set_option maxHeartbeats 800000 in
theorem tdot_any (c : List UInt8) (q : Wv.St) (g : Nat) (w : World) (h : Tk w g c q) (hc : c.length ≤ 1048576) :
    Calls Tryd.prog 42 #[.pointer (some ⟨g, 0, none⟩)] w fun e w' => e = .returned (dotV (Wv.dotR c q)) ∧ Tk w' g c (Wv.nxt3 c q) ∧ w.grownBy w' (some g) := by
  have hlt := h.lt
  have hne : g ≠ w.heap.size := by omega
  have h' : Hid (Tk (w.alloc (.cells #[.int .i64 0, .int .i64 0, .int .i64 0] 40)) g c q) := h.alloc _
  have HK : Hid (Blk (w.alloc (.cells #[.int .i64 0, .int .i64 0, .int .i64 0] 40)) w.heap.size #[.int .i64 0, .int .i64 0, .int .i64 0] 40) := heap_alloc_new w _
  clear h
  go_enter Tryd.func42, Tryd.ntmps42
  go_wp2_with fail
  refine (take1_any c q g _ h'.out hc).mono ?_
  rintro e w1 ⟨rfl, hR, hG⟩
  have HR : Hid (Tk w1 g c (Wv.nxt c q)) := hR
  have HG : Hid ((w.alloc (.cells #[.int .i64 0, .int .i64 0, .int .i64 0] 40)).grownBy w1 (some g)) := hG
  clear hR hG
  go_wp2_with fail
  refine (take1_any c _ g _ HR.out hc).mono ?_
  rintro e w2 ⟨rfl, hR2, hG2⟩
  have HR2 : Hid (Tk w2 g c (Wv.nxt2 c q)) := hR2
  have HG2 : Hid ((w.alloc (.cells #[.int .i64 0, .int .i64 0, .int .i64 0] 40)).grownBy w2 (some g)) := grown_trans HG.out hG2
  clear hR2 hG2
  go_wp2_with fail
  refine (take1_any c _ g _ HR2.out hc).mono ?_
  rintro e w3 ⟨rfl, hR3, hG3⟩
  have HR3 : Hid (Tk w3 g c (Wv.nxt3 c q)) := hR3
  have HG3 : Hid ((w.alloc (.cells #[.int .i64 0, .int .i64 0, .int .i64 0] 40)).grownBy w3 (some g)) := grown_trans HG2.out hG3
  have HK3 : Hid (Blk w3 w.heap.size #[.int .i64 0, .int .i64 0, .int .i64 0] 40) := HK.out.grown HG3.out (by simp; omega)
  have d0 : w3.cell? ⟨w.heap.size, 0, none⟩ = some (.int .i64 0) := HK3.out.cell 0
  have d1 : w3.cell? ⟨w.heap.size, 1, none⟩ = some (.int .i64 0) := HK3.out.cell 1
  have d2 : w3.cell? ⟨w.heap.size, 2, none⟩ = some (.int .i64 0) := HK3.out.cell 2
  have z0 := HK3.out.frozen 0
  have z1 := HK3.out.frozen 1
  have z2 := HK3.out.frozen 2
  clear hR3 hG3
  go_wp2
  have HF : Hid (Blk (((w3.setCell ⟨w.heap.size, 0, none⟩ (I (Wv.one c q))).setCell ⟨w.heap.size, 1, none⟩ (I (Wv.one c (Wv.nxt c q)))).setCell ⟨w.heap.size, 2, none⟩ (I (Wv.one c (Wv.nxt2 c q)))) w.heap.size #[I (Wv.one c q), I (Wv.one c (Wv.nxt c q)), I (Wv.one c (Wv.nxt2 c q))] 40) := ((HK3.out.set 0 _).set 1 _).set 2 _
  have HZ : Hid (Tk (((w3.setCell ⟨w.heap.size, 0, none⟩ (I (Wv.one c q))).setCell ⟨w.heap.size, 1, none⟩ (I (Wv.one c (Wv.nxt c q)))).setCell ⟨w.heap.size, 2, none⟩ (I (Wv.one c (Wv.nxt2 c q)))) g c (Wv.nxt3 c q)) := ((HR3.out.other hne _).other hne _).other hne _
  have HY : Hid (w.grownBy (((w3.setCell ⟨w.heap.size, 0, none⟩ (I (Wv.one c q))).setCell ⟨w.heap.size, 1, none⟩ (I (Wv.one c (Wv.nxt c q)))).setCell ⟨w.heap.size, 2, none⟩ (I (Wv.one c (Wv.nxt2 c q)))) (some g)) := grown_set_new (grown_set_new (grown_set_new (grown_new HG3.out) (Nat.le_refl _) _) (Nat.le_refl _) _) (Nat.le_refl _) _
  generalize (((w3.setCell ⟨w.heap.size, 0, none⟩ (I (Wv.one c q))).setCell ⟨w.heap.size, 1, none⟩ (I (Wv.one c (Wv.nxt c q)))).setCell ⟨w.heap.size, 2, none⟩ (I (Wv.one c (Wv.nxt2 c q)))) = wF at *
  have f0 : wF.cell? ⟨w.heap.size, 0, none⟩ = some (I (Wv.one c q)) := HF.out.cell 0
  have f1 : wF.cell? ⟨w.heap.size, 1, none⟩ = some (I (Wv.one c (Wv.nxt c q))) := HF.out.cell 1
  have f2 : wF.cell? ⟨w.heap.size, 2, none⟩ = some (I (Wv.one c (Wv.nxt2 c q))) := HF.out.cell 2
  refine bodyPost_ret (v := dotV (Wv.dotR c q)) (by simp [results, Tryd.results42, go_sem, f0, f1, f2]; exact ⟨rfl, rfl, rfl⟩) rfl ⟨rfl, HZ.out, HY.out⟩

end Go.Proofs.YtfmcngncaffloaaDoor

namespace Go.Proofs.YtfmcngncaffloaaDoor
open Go.RowKit
set_option maxRecDepth 100000

theorem Tk.drew {w : World} {g : Nat} {c : List UInt8} {q : Wv.St} (h : Tk w g c q) : Tk w.drew g c q := by
  cases q with
  | some k => exact h
  | none => exact h
/-- The taking of an effect under way: the text, the answer's block, the effect's. -/
structure Et (w wi : World) (g E : Nat) (c : List UInt8) (q : Wv.St) (es : Array Value) : Prop where
  rd : Tk wi g c q
  grown : w.grownBy wi (some g)
  kR : Blk wi w.heap.size eff0 43
  kE : Blk wi E es 43
  lt : w.heap.size < E
  lg : g < w.heap.size
theorem Et.kept {w wi wj : World} {g E : Nat} {c : List UInt8} {q : Wv.St} {es : Array Value} (h : Et w wi g E c q es) (hb : Below wi.heap.size wi wj) : Et w wj g E c q es :=
  ⟨h.rd.kept hb h.rd.lt, grown_trans h.grown ⟨hb.os, hb.tape, hb.output, hb.size, fun k hk _ => hb.block k hk⟩, h.kR.kept hb h.kR.lt, h.kE.kept hb h.kE.lt, h.lt, h.lg⟩
theorem Et.alloc {w wi : World} {g E : Nat} {c : List UInt8} {q : Wv.St} {es : Array Value} (h : Et w wi g E c q es) (o : Obj) : Et w (wi.alloc o) g E c q es :=
  h.kept ((Below.refl _ _).alloc (Nat.le_refl _) _)
theorem Et.read {w wi wj : World} {g E : Nat} {c : List UInt8} {q q' : Wv.St} {es : Array Value} (h : Et w wi g E c q es) (hg : wi.grownBy wj (some g)) (hr : Tk wj g c q') : Et w wj g E c q' es :=
  ⟨hr, grown_trans h.grown hg, h.kR.grown hg (by have := h.lg; simp; omega), h.kE.grown hg (by have := h.lg; have := h.lt; simp; omega), h.lt, h.lg⟩
theorem Et.set {w wi : World} {g E : Nat} {c : List UInt8} {q : Wv.St} {es : Array Value} (h : Et w wi g E c q es) (j : Nat) (u : Value) : Et w (wi.setCell ⟨E, j, none⟩ u) g E c q (es.setIfInBounds j u) :=
  ⟨h.rd.other (by have := h.lg; have := h.lt; show g ≠ E; omega) u, grown_set_new h.grown (by have := h.lt; show w.heap.size ≤ E; omega) u, h.kR.other (by have := h.lt; show w.heap.size ≠ E; omega) u, h.kE.set j u, h.lt, h.lg⟩
theorem Et.begin {w w3 : World} {g : Nat} {c : List UInt8} {q : Wv.St} (h1 : Tk w3 g c q) (h2 : w.grownBy w3 (some g)) (h4 : Blk w3 w.heap.size eff0 43) (h5 : g < w.heap.size) (es : Array Value) :
    Et w (w3.alloc (.cells es 43)) g w3.heap.size c q es :=
  ⟨h1.alloc _, grown_trans h2 (grown_new (grown_refl _ _)), h4.alloc _, heap_alloc_new w3 _, h4.lt, h5⟩
theorem Et.fin {w wi : World} {g E : Nat} {c : List UInt8} {q : Wv.St} {es : Array Value} (h : Et w wi g E c q es) (a0 a1 a2 a3 a4 a5 a6 : Value) :
    Tk (put7 wi w.heap.size a0 a1 a2 a3 a4 a5 a6) g c q ∧ w.grownBy (put7 wi w.heap.size a0 a1 a2 a3 a4 a5 a6) (some g) := by
  have hl := h.lg
  refine ⟨?_, ?_⟩
  · unfold put7
    exact ((((((h.rd.other (by show g ≠ w.heap.size; omega) _).other (by show g ≠ w.heap.size; omega) _).other (by show g ≠ w.heap.size; omega) _).other (by show g ≠ w.heap.size; omega) _).other (by show g ≠ w.heap.size; omega) _).other (by show g ≠ w.heap.size; omega) _).other (by show g ≠ w.heap.size; omega) _
  · unfold put7
    exact grown_set_new (grown_set_new (grown_set_new (grown_set_new (grown_set_new (grown_set_new (grown_set_new h.grown (Nat.le_refl _) _) (Nat.le_refl _) _) (Nat.le_refl _) _) (Nat.le_refl _) _) (Nat.le_refl _) _) (Nat.le_refl _) _) (Nat.le_refl _) _
theorem Et.drew {w wi : World} {g E : Nat} {c : List UInt8} {q : Wv.St} {es : Array Value} (h : Et w wi g E c q es) : Et w wi.drew g E c q es :=
  ⟨h.rd.drew, ⟨h.grown.os, h.grown.tape, h.grown.output, h.grown.size, h.grown.block⟩, h.kR.drew, h.kE.drew, h.lt, h.lg⟩
theorem Et.grow {w wi wj : World} {g E : Nat} {c : List UInt8} {q : Wv.St} {es : Array Value} {row : Option Nat} (h : Et w wi g E c q es) (hg : wi.grownBy wj row) (hr : ∀ b, row = some b → E < b) : Et w wj g E c q es := by
  have h1 := h.lt
  have h2 := h.lg
  have ne : ∀ k, k ≤ E → some k ≠ row := fun k hk e => by have := hr k e.symm; omega
  exact ⟨h.rd.grown hg (ne _ (by omega)), ⟨hg.os.trans h.grown.os, hg.tape.trans h.grown.tape, hg.output.trans h.grown.output, Nat.le_trans h.grown.size hg.size, fun k hk hk2 => (hg.block k (Nat.lt_of_lt_of_le hk h.grown.size) (ne _ (by omega))).trans (h.grown.block k hk hk2)⟩,
    h.kR.grown hg (ne _ (by omega)), h.kE.grown hg (ne _ (by omega)), h.lt, h.lg⟩
theorem lit_second (w : World) (o : Obj) (cs : List Value) (t : TypeId) : ∀ j u, cs[j]? = some u → ((w.alloc o).alloc (.cells cs.toArray t)).cell? ((⟨w.heap.size + 1, 0, none⟩ : Addr).add j) = some u := by
  have := lit_any (w.alloc o) cs t
  rwa [show (w.alloc o).heap.size = w.heap.size + 1 by simp] at this
theorem effF_ref0 {c : List UInt8} {q : Wv.St} {op : Int} (ho : Wv.one c q = op) (hr : Wv.rRef op = 0) : (Wv.effF false c q).1.ref = ⟨0, 0, 0⟩ := by
  show (if Wv.rRef (Wv.one c q) = 0 then (⟨0, 0, 0⟩ : Wv.Dt) else _) = _
  rw [ho, if_pos hr]
theorem effF_ref1 {c : List UInt8} {q : Wv.St} {op : Int} (ho : Wv.one c q = op) (hr : ¬ Wv.rRef op = 0) : (Wv.effF false c q).1.ref = Wv.dotR c (Wv.nxt2 c (Wv.nxt2 c q)) := by
  show (if Wv.rRef (Wv.one c q) = 0 then (⟨0, 0, 0⟩ : Wv.Dt) else _) = _
  rw [ho, if_neg hr]; rfl

end Go.Proofs.YtfmcngncaffloaaDoor
