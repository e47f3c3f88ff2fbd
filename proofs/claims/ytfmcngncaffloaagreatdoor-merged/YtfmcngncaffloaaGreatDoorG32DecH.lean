import Derived.Test.YtfmcngncaffloaaGreatDoorG29DecA
namespace Go.Proofs.YtfmcngncaffloaaGreatDoor.Wv

theorem nxt_le {s : List UInt8} {q : St} {k : Nat} (h : nxt s q = some k) : k ≤ s.length := by
  cases q with
  | none => cases h
  | some j =>
    simp only [nxt] at h
    split at h
    · cases h; omega
    · cases h
theorem run_le {α : Type} {F : St → α × St} {L : Nat} (hF : ∀ q k, (F q).2 = some k → k ≤ L) (n : Nat) (q : St) (hq : ∀ k, q = some k → k ≤ L) (k : Nat) (h : (run F n q).2 = some k) : k ≤ L := by
  cases n with
  | zero => exact hq k h
  | succ n => exact hF _ k h
theorem eff5_le {p : Bool} {s : List UInt8} {q : St} {k : Nat} (h : eff5 p s q = some k) : k ≤ s.length := by
  unfold eff5 at h
  split at h
  · cases h
  · exact nxt_le h
theorem eff6_le {p : Bool} {s : List UInt8} {q : St} {k : Nat} (h : eff6 p s q = some k) : k ≤ s.length := by
  unfold eff6 at h
  split at h
  · exact eff5_le h
  · exact nxt_le h
theorem effF_le {p : Bool} {s : List UInt8} {q : St} {k : Nat} (h : (effF p s q).2 = some k) : k ≤ s.length := by
  have h' : (effD p s q).2 = some k := h
  unfold effD at h'
  split at h'
  · exact run_le (fun q k h => nxt_le h) _ _ (fun k h => nxt_le h) k h'
  · exact eff6_le h'
theorem batF_le {p : Bool} {s : List UInt8} {q : St} {k : Nat} (h : (batF p s q).2 = some k) : k ≤ s.length :=
  run_le (fun _ _ h => effF_le h) _ _ (fun _ h => nxt_le h) k h
theorem body_tail (s : List UInt8) : body s ++ tail4 s = s := List.take_append_drop _ _
theorem body_len (s : List UInt8) : (body s).length = s.length - 4 := by simp [body]
theorem seal_iff (s : List UInt8) : body s ++ be4 (sum (body s) : Nat) = s ↔ tail4 s = be4 (sum (body s) : Nat) :=
  ⟨fun h => (List.append_cancel_left (h.trans (body_tail s).symm)).symm, fun h => by rw [← h, body_tail]⟩

end Go.Proofs.YtfmcngncaffloaaGreatDoor.Wv
namespace Go.Proofs.YtfmcngncaffloaaGreatDoor
open Go.RowKit
set_option maxRecDepth 100000

theorem str_size (l : List UInt8) : (⟨l.toArray⟩ : ByteArray).size = l.length := by simp [ByteArray.size]
theorem str_take (l : List UInt8) (n : Nat) : (⟨l.toArray⟩ : ByteArray).extract 0 n = ⟨(l.take n).toArray⟩ := by
  apply ByteArray.ext
  simp [ByteArray.data_extract]

set_option maxHeartbeats 800000 in
theorem sopen_yes (l : List UInt8) (w : World) (h : 4 ≤ l.length) (h2 : l.length ≤ 65535) (ht : Wv.tail4 l = Wv.be4 (Wv.sum (Wv.body l) : Nat)) :
    Calls Tryz.prog 168 #[.string ⟨l.toArray⟩] w fun e w' => e = .returned (.tuple #[.string ⟨(Wv.body l).toArray⟩, .bool true]) ∧ Below w.heap.size w w' := by
  have hs := str_size l
  have hx : (⟨l.toArray⟩ : ByteArray).extract 0 (l.length - 4) = ⟨(Wv.body l).toArray⟩ := str_take l _
  have HT : Hid _ := ht
  clear ht
  go_enter Tryz.func168, Tryz.ntmps168
  go_wp2_with fail
  rw [hx]
  have hq := seal_any ⟨(Wv.body l).toArray⟩ w (by rw [str_size, Wv.body_len]; omega)
  rw [show (⟨(Wv.body l).toArray⟩ : ByteArray).data.toList = Wv.body l from rfl] at hq
  refine hq.mono ?_
  rintro e w1 ⟨rfl, hb1⟩
  have HB : Hid (Below w.heap.size w w1) := hb1
  clear hb1 hq
  rw [(Wv.seal_iff l).2 HT.out]
  go_wp2
  go_ret2
  exact ⟨rfl, HB.out⟩

end Go.Proofs.YtfmcngncaffloaaGreatDoor
