import Derived.Test.YtfmcngncaffloaaDoorSumA
import Derived.ShutString
import Derived.Lib.SmallJoins
namespace Go.Proofs.YtfmcngncaffloaaDoor
open Go.RowKit
set_option maxRecDepth 100000

/-- A byte as a cell. -/
abbrev B8 (b : UInt8) : Value := .int .u8 (b.toNat : Int)

theorem conv_cells (w : World) (a : Addr) (cap : Nat) (l : List UInt8) (hc : ∀ j u, (l.map B8)[j]? = some u → w.cell? (a.add j) = some u) :
    (convert 50 9 (.slice (some a) l.length cap)).run Tryd.prog w = .ok (.string ⟨l.toArray⟩) w :=
  run_convert_bytes_back w _ _ _ a cap l Tryd.underlying50 Tryd.underlying5 Tryd.underlying9 (fun j hj => hc j _ (by simp [hj]))
theorem conv_lit (w : World) (l : List UInt8) (cs : Array Value) (k cap : Nat) (hk : k = l.length) (hcs : cs = (l.map B8).toArray) :
    (convert 50 9 (.slice (some ⟨w.heap.size, 0, none⟩) k cap)).run Tryd.prog (w.alloc (.cells cs 5)) = .ok (.string ⟨l.toArray⟩) (w.alloc (.cells cs 5)) := by
  subst hk hcs
  refine conv_cells _ _ _ l fun j u hu => ?_
  rw [Addr.add_lit, Nat.zero_add, World.cell?_alloc_mark]
  simpa using hu
theorem ret_str {a b : ByteArray} (h : a = b) : Ending.returned (.string a) = .returned (.string b) := by rw [h]
theorem str_append (a b : List UInt8) : (⟨a.toArray⟩ ++ ⟨b.toArray⟩ : ByteArray) = ⟨(a ++ b).toArray⟩ := by
  apply ByteArray.ext
  simp [ByteArray.data_append]
theorem str_eta (s : ByteArray) : s = ⟨s.data.toList.toArray⟩ := by apply ByteArray.ext; simp

set_option maxHeartbeats 400000 in
theorem seal_any (s : ByteArray) (w : World) (hs : s.size ≤ 1048576) :
    Calls Tryd.prog 36 #[.string s] w fun e w' => e = .returned (.string ⟨(s.data.toList ++ Wv.be4 (Wv.sum s.data.toList : Nat)).toArray⟩) ∧ Below w.heap.size w w' := by
  have hq := conv_lit w (Wv.be4 (Wv.sum s.data.toList : Nat)) #[.int .u8 ((Wv.sum s.data.toList : Int) / 16777216 % 256), .int .u8 ((Wv.sum s.data.toList : Int) / 65536 % 256), .int .u8 ((Wv.sum s.data.toList : Int) / 256 % 256), .int .u8 ((Wv.sum s.data.toList : Int) % 256)] 4 4 rfl
    (by simp only [Wv.be4, B8, List.map, Wv.ofNat_toNat])
  have hm : s.size ≤ maxLen := by unfold maxLen; omega
  have hle : ¬ 9223372036854775807 < s.size + (Wv.be4 (Wv.sum s.data.toList : Nat)).length := by simp [Wv.be4]; omega
  go_enter Tryd.func36, Tryd.ntmps36
  go_wp2_with (go_at_call 51; refine (of_any _ _ hm).mono ?_; rintro e w' ⟨rfl, h⟩; subst h)
  go_ret
  exact ⟨ret_str (by rw [str_eta s, str_append]), by go_grown⟩

end Go.Proofs.YtfmcngncaffloaaDoor
