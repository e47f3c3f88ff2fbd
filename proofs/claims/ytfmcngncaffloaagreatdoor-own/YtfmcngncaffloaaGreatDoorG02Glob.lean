import Derived.Test.YtfmcngncaffloaaGreatDoorG01SumA
import Derived.ShutString
import Derived.Lib.SmallJoins
namespace Go.Proofs.YtfmcngncaffloaaGreatDoor
open Go.RowKit
set_option maxRecDepth 100000

/-- A byte as a cell. -/
abbrev B8 (b : UInt8) : Value := .int .u8 (b.toNat : Int)

theorem conv_cells (w : World) (a : Addr) (cap : Nat) (l : List UInt8) (hc : ∀ j u, (l.map B8)[j]? = some u → w.cell? (a.add j) = some u) :
    (convert 170 9 (.slice (some a) l.length cap)).run Tryz.prog w = .ok (.string ⟨l.toArray⟩) w :=
  run_convert_bytes_back w _ _ _ a cap l Tryz.underlying170 Tryz.underlying5 Tryz.underlying9 (fun j hj => hc j _ (by simp [hj]))
theorem conv_lit (w : World) (l : List UInt8) (cs : Array Value) (k cap : Nat) (hk : k = l.length) (hcs : cs = (l.map B8).toArray) :
    (convert 170 9 (.slice (some ⟨w.heap.size, 0, none⟩) k cap)).run Tryz.prog (w.alloc (.cells cs 5)) = .ok (.string ⟨l.toArray⟩) (w.alloc (.cells cs 5)) := by
  subst hk hcs
  refine conv_cells _ _ _ l fun j u hu => ?_
  rw [Addr.add_lit, Nat.zero_add, World.cell?_alloc_mark]
  simpa using hu
theorem ret_str {a b : ByteArray} (h : a = b) : Ending.returned (.string a) = .returned (.string b) := by rw [h]
theorem str_append (a b : List UInt8) : (⟨a.toArray⟩ ++ ⟨b.toArray⟩ : ByteArray) = ⟨(a ++ b).toArray⟩ := by
  apply ByteArray.ext
  simp [ByteArray.data_append]
theorem str_eta (s : ByteArray) : s = ⟨s.data.toList.toArray⟩ := by apply ByteArray.ext; simp

set_option maxHeartbeats 400000 in
theorem seal_any (s : ByteArray) (w : World) (hs : s.size ≤ 1048576) :
    Calls Tryz.prog 160 #[.string s] w fun e w' => e = .returned (.string ⟨(s.data.toList ++ Wv.be4 (Wv.sum s.data.toList : Nat)).toArray⟩) ∧ Below w.heap.size w w' := by
  have hq := conv_lit w (Wv.be4 (Wv.sum s.data.toList : Nat)) #[.int .u8 ((Wv.sum s.data.toList : Int) / 16777216 % 256), .int .u8 ((Wv.sum s.data.toList : Int) / 65536 % 256), .int .u8 ((Wv.sum s.data.toList : Int) / 256 % 256), .int .u8 ((Wv.sum s.data.toList : Int) % 256)] 4 4 rfl
    (by simp only [Wv.be4, B8, List.map, Wv.ofNat_toNat])
  have hm : s.size ≤ maxLen := by unfold maxLen; omega
  have hle : ¬ 9223372036854775807 < s.size + (Wv.be4 (Wv.sum s.data.toList : Nat)).length := by simp [Wv.be4]; omega
  go_enter Tryz.func160, Tryz.ntmps160
  go_wp2_with (go_at_call 186; refine (of_any _ _ hm).mono ?_; rintro e w' ⟨rfl, h⟩; subst h)
  go_ret
  exact ⟨ret_str (by rw [str_eta s, str_append]), by go_grown⟩

end Go.Proofs.YtfmcngncaffloaaGreatDoor

namespace Go.Proofs.YtfmcngncaffloaaGreatDoor
open Go.RowKit

abbrev I (n : Int) : Value := .int .i64 n
/-- An error of errors.New's make; a fault of a batch. -/
abbrev Sent (a : Addr) : Value := .iface 308 (.pointer (some a))
abbrev Flt (s : ByteArray) (why : Value) : Value := .iface 202 (.agg #[.string s, why])
/-- What the package-level variables hold, as far as Encode reads them. -/
structure Gl (w : World) (eb ef : Addr) : Prop where
  errBatch : w.cell? ⟨0, 0, none⟩ = some (Sent eb)
  errFrame : True
  ne : eb ≠ ef
  atB : ∃ ca ta, w.heap[eb.block]? = some (.cells ca ta (0, 0))
  atF : ∃ ca ta, w.heap[ef.block]? = some (.cells ca ta (0, 0))
  rules : ∀ j, j < 42 → w.cell? ⟨1, j, none⟩ = some (I (Wv.tab.getD j 0))
theorem lt_of_cell {w : World} {b o : Nat} {u : Value} (h : w.cell? ⟨b, o, none⟩ = some u) : b < w.heap.size := World.block_lt_of_cell? w _ h
theorem lt_of_heap {w : World} {k : Nat} {o : Obj} (h : w.heap[k]? = some o) : k < w.heap.size := (Array.getElem?_eq_some_iff.1 h).1
/-- A cell, a block that were there stand there still. -/
theorem cell_kept {w w' : World} (hb : Below w.heap.size w w') {b o : Nat} {u : Value} (h : w.cell? ⟨b, o, none⟩ = some u) : w'.cell? ⟨b, o, none⟩ = some u := by
  rw [hb.cell (p := ⟨b, o, none⟩) (lt_of_cell h)]; exact h
theorem heap_kept {w w' : World} (hb : Below w.heap.size w w') {k : Nat} {o : Obj} (h : w.heap[k]? = some o) : w'.heap[k]? = some o := by
  rw [hb.block k (lt_of_heap h)]; exact h
theorem Gl.kept {w w' : World} {eb ef : Addr} (g : Gl w eb ef) (hb : Below w.heap.size w w') : Gl w' eb ef :=
  ⟨cell_kept hb g.errBatch, trivial, g.ne, g.atB.imp fun _ h => h.imp fun _ h => heap_kept hb h, g.atF.imp fun _ h => h.imp fun _ h => heap_kept hb h, fun j h => cell_kept hb (g.rules j h)⟩
theorem belowN {B : Nat} {w w' : World} (h : Below B w w') (n : Nat) : Below B w (w'.drewN n) := ⟨h.os, h.tape, h.output, h.size, h.block⟩

end Go.Proofs.YtfmcngncaffloaaGreatDoor
