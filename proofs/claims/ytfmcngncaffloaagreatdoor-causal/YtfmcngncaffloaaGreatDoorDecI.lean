import Derived.Test.YtfmcngncaffloaaGreatDoorG37DecC
import Derived.Test.YtfmcngncaffloaaGreatDoorDecH
namespace Go.Proofs.YtfmcngncaffloaaGreatDoor.Wv

theorem two_first (l : List UInt8) (h : 2 ≤ l.length) : two true l (some 0) = num2 l := by
  simp [two, one, nxt, num2, show 0 < l.length by omega, show 1 < l.length by omega]
theorem nxt_first (l : List UInt8) (h : 2 ≤ l.length) : nxt2 l (some 0) = some 2 := by
  simp [nxt2, nxt, show 0 < l.length by omega, show 1 < l.length by omega]
theorem nxt_short (l : List UInt8) (h : l.length < 2) : nxt2 l (some 0) = none := by
  unfold nxt2
  by_cases h0 : 0 < l.length
  · simp [nxt, h0, show ¬ 1 < l.length by omega]
  · simp [nxt, h0]
theorem num2_le (l : List UInt8) : 0 ≤ num2 l ∧ num2 l ≤ 65535 := by
  have h1 := byte_lt (l.getD 0 0)
  have h2 := byte_lt (l.getD 1 0)
  unfold num2
  omega

end Go.Proofs.YtfmcngncaffloaaGreatDoor.Wv
namespace Go.Proofs.YtfmcngncaffloaaGreatDoor
open Go.RowKit
set_option maxRecDepth 100000

set_option maxHeartbeats 800000 in
theorem fopen_short (l : List UInt8) (w : World) (g0 : Gd w) (h : l.length < 2) :
    Calls Tryz.prog 164 #[.string ⟨l.toArray⟩] w fun e w' => (∃ n y, e = .returned (.tuple #[.pointer none, FltF n y])) ∧ Below w.heap.size w w' := by
  have hlen : l.length ≤ 9223372036854775807 := by omega
  have G0 : Hid (Gd w) := g0
  have HR : Hid (Rd (w.alloc (.cells #[.string ⟨l.toArray⟩, I 0, .nilIface] 252)) w.heap.size l (some 0)) := heap_alloc_new w _
  have HB : Hid (Below w.heap.size w (w.alloc (.cells #[.string ⟨l.toArray⟩, I 0, .nilIface] 252))) := (Below.refl _ _).alloc (Nat.le_refl _) _
  have HQ : Hid (Wv.nxt2 l (some 0) = none) := Wv.nxt_short l h
  clear g0
  go_enter Tryz.func164, Tryz.ntmps164
  go_wp2_with fail
  refine (rtwo_any l (some 0) w.heap.size _ w G0.out HB.out (Nat.le_refl _) HR.out hlen).mono ?_
  rintro e w1 ⟨rfl, hR, hG⟩
  rw [HQ.out] at hR
  obtain ⟨a, n, y, hR⟩ := hR
  have HB1 : Hid (Below w.heap.size w w1) := below_g HB.out hG (Nat.le_refl _)
  have c2 : w1.cell? ⟨w.heap.size, 2, none⟩ = some (FltF n y) := hR.cell 2
  clear hR hG HR
  go_wp2
  go_region
  all_goals
    (go_wp2
     go_ret2
     exact ⟨⟨_, _, rfl⟩, HB1.out.drew⟩)

set_option maxHeartbeats 800000 in
theorem fopen_len (l : List UInt8) (w : World) (g0 : Gd w) (h : 2 ≤ l.length) (hlen : l.length ≤ 9223372036854775807) (hn : ¬ Wv.num2 l = l.length) :
    Calls Tryz.prog 164 #[.string ⟨l.toArray⟩] w fun e w' => (∃ n y, e = .returned (.tuple #[.pointer none, FltF n y])) ∧ Below w.heap.size w w' := by
  have G0 : Hid (Gd w) := g0
  have hs := str_size l
  have HR : Hid (Rd (w.alloc (.cells #[.string ⟨l.toArray⟩, I 0, .nilIface] 252)) w.heap.size l (some 0)) := heap_alloc_new w _
  have HB : Hid (Below w.heap.size w (w.alloc (.cells #[.string ⟨l.toArray⟩, I 0, .nilIface] 252))) := (Below.refl _ _).alloc (Nat.le_refl _) _
  have HQ : Hid (Wv.nxt2 l (some 0) = some 2) := Wv.nxt_first l h
  have HT : Hid (Wv.two true l (some 0) = Wv.num2 l) := Wv.two_first l h
  clear g0
  go_enter Tryz.func164, Tryz.ntmps164
  go_wp2_with fail
  refine (rtwo_any l (some 0) w.heap.size _ w G0.out HB.out (Nat.le_refl _) HR.out hlen).mono ?_
  rintro e w1 ⟨rfl, hR, hG⟩
  rw [HQ.out] at hR
  rw [HT.out]
  have HB1 : Hid (Below w.heap.size w w1) := below_g HB.out hG (Nat.le_refl _)
  have c1 : w1.cell? ⟨w.heap.size, 1, none⟩ = some (I 2) := Blk.cell hR 1
  have c2 : w1.cell? ⟨w.heap.size, 2, none⟩ = some .nilIface := Blk.cell hR 2
  obtain ⟨ad, ha⟩ := (G0.out.kept HB1.out).len
  have hz := lt_of_cell ha
  clear hR hG HR
  generalize Wv.num2 l = nn at *
  have hn' : (nn == (l.length : Int)) = false := beq_eq_false_iff_ne.2 hn
  have hn2 : (nn != (l.length : Int)) = true := by rw [bne, hn']; rfl
  go_wp2
  go_region
  all_goals
    (go_wp2
     go_ret2
     exact ⟨⟨_, _, rfl⟩, HB1.out.drew⟩)

/-- What open asks of the bytes. -/
def opens (l : List UInt8) : Prop := 4 ≤ l.length ∧ Wv.num2 l = l.length ∧ Wv.tail4 l = Wv.be4 (Wv.sum (Wv.body l) : Nat)

set_option maxHeartbeats 800000 in
theorem fopen_sum (l : List UInt8) (w : World) (g0 : Gd w) (h : 2 ≤ l.length) (hlen : l.length ≤ 9223372036854775807) (hn : Wv.num2 l = l.length) (ho : ¬ opens l) :
    Calls Tryz.prog 164 #[.string ⟨l.toArray⟩] w fun e w' => (∃ n y, e = .returned (.tuple #[.pointer none, FltF n y])) ∧ Below w.heap.size w w' := by
  have G0 : Hid (Gd w) := g0
  have hs := str_size l
  have h6 : l.length ≤ 65535 := by have := (Wv.num2_le l).2; omega
  have HR : Hid (Rd (w.alloc (.cells #[.string ⟨l.toArray⟩, I 0, .nilIface] 252)) w.heap.size l (some 0)) := heap_alloc_new w _
  have HB : Hid (Below w.heap.size w (w.alloc (.cells #[.string ⟨l.toArray⟩, I 0, .nilIface] 252))) := (Below.refl _ _).alloc (Nat.le_refl _) _
  have HQ : Hid (Wv.nxt2 l (some 0) = some 2) := Wv.nxt_first l h
  have HT : Hid (Wv.two true l (some 0) = (l.length : Int)) := (Wv.two_first l h).trans hn
  have HS : Hid (∀ w1 : World, Calls Tryz.prog 168 #[.string ⟨l.toArray⟩] w1 fun e w' => e = .returned (.tuple #[.string ⟨#[]⟩, .bool false]) ∧ Below w1.heap.size w1 w') := by
    intro w1
    by_cases h4 : 4 ≤ l.length
    · exact sopen_no l w1 h4 h6 (fun e => ho ⟨h4, hn, e⟩)
    · exact sopen_short l w1 (by omega)
  clear g0 ho hn
  go_enter Tryz.func164, Tryz.ntmps164
  go_wp2_with fail
  refine (rtwo_any l (some 0) w.heap.size _ w G0.out HB.out (Nat.le_refl _) HR.out hlen).mono ?_
  rintro e w1 ⟨rfl, hR, hG⟩
  rw [HQ.out] at hR
  rw [HT.out]
  have HB1 : Hid (Below w.heap.size w w1) := below_g HB.out hG (Nat.le_refl _)
  have HK : Hid (Blk w1 w.heap.size #[.string ⟨l.toArray⟩, I 2, .nilIface] 252) := hR
  have c2 : w1.cell? ⟨w.heap.size, 2, none⟩ = some .nilIface := HK.out.cell 2
  clear hR hG HR
  go_wp2_with fail
  refine (HS.out _).mono ?_
  rintro e w2 ⟨rfl, hb2⟩
  have HB2 : Hid (Below w.heap.size w w2) := HB1.out.trans (hb2.mono HB1.out.size)
  have c1 : w2.cell? ⟨w.heap.size, 1, none⟩ = some (I 2) := cell_kept hb2 (HK.out.cell 1)
  obtain ⟨ad, ha⟩ := (G0.out.kept HB2.out).sum
  have hz := lt_of_cell ha
  clear hb2 c2
  go_wp2
  go_region
  all_goals
    (go_wp2
     go_ret2
     exact ⟨⟨_, _, rfl⟩, HB2.out.drew⟩)

set_option maxHeartbeats 800000 in
theorem fopen_yes (l : List UInt8) (w : World) (g0 : Gd w) (ho : opens l) :
    Calls Tryz.prog 164 #[.string ⟨l.toArray⟩] w fun e w' => e = .returned (.tuple #[.pointer (some ⟨w.heap.size, 0, none⟩), .nilIface]) ∧ Rd w' w.heap.size (Wv.body l) (some 2) ∧ Below w.heap.size w w' := by
  obtain ⟨h4, hn, ht⟩ := ho
  have G0 : Hid (Gd w) := g0
  have hs := str_size l
  have h6 : l.length ≤ 65535 := by have := (Wv.num2_le l).2; omega
  have HR : Hid (Rd (w.alloc (.cells #[.string ⟨l.toArray⟩, I 0, .nilIface] 252)) w.heap.size l (some 0)) := heap_alloc_new w _
  have HB : Hid (Below w.heap.size w (w.alloc (.cells #[.string ⟨l.toArray⟩, I 0, .nilIface] 252))) := (Below.refl _ _).alloc (Nat.le_refl _) _
  have HQ : Hid (Wv.nxt2 l (some 0) = some 2) := Wv.nxt_first l (by omega)
  have HT : Hid (Wv.two true l (some 0) = (l.length : Int)) := (Wv.two_first l (by omega)).trans hn
  have HS : Hid (∀ w1 : World, Calls Tryz.prog 168 #[.string ⟨l.toArray⟩] w1 fun e w' => e = .returned (.tuple #[.string ⟨(Wv.body l).toArray⟩, .bool true]) ∧ Below w1.heap.size w1 w') := fun w1 => sopen_yes l w1 h4 h6 ht
  clear g0 hn ht
  go_enter Tryz.func164, Tryz.ntmps164
  go_wp2_with fail
  refine (rtwo_any l (some 0) w.heap.size _ w G0.out HB.out (Nat.le_refl _) HR.out (by omega)).mono ?_
  rintro e w1 ⟨rfl, hR, hG⟩
  rw [HQ.out] at hR
  rw [HT.out]
  have HB1 : Hid (Below w.heap.size w w1) := below_g HB.out hG (Nat.le_refl _)
  have HK : Hid (Blk w1 w.heap.size #[.string ⟨l.toArray⟩, I 2, .nilIface] 252) := hR
  have c2 : w1.cell? ⟨w.heap.size, 2, none⟩ = some .nilIface := HK.out.cell 2
  clear hR hG HR
  go_wp2_with fail
  refine (HS.out _).mono ?_
  rintro e w2 ⟨rfl, hb2⟩
  have HB2 : Hid (Below w.heap.size w w2) := HB1.out.trans (hb2.mono HB1.out.size)
  have HK2 : Hid (Blk w2 w.heap.size #[.string ⟨l.toArray⟩, I 2, .nilIface] 252) := HK.out.kept hb2 HK.out.lt
  have c0 : w2.cell? ⟨w.heap.size, 0, none⟩ = some (.string ⟨l.toArray⟩) := HK2.out.cell 0
  have z0 := HK2.out.frozen 0
  clear hb2 c2
  go_wp2
  go_ret2
  exact ⟨rfl, HK2.out.set 0 _, HB2.out.setCell (Nat.le_refl _) _⟩

end Go.Proofs.YtfmcngncaffloaaGreatDoor
