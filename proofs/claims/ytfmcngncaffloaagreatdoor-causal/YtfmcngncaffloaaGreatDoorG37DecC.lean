import Derived.Test.YtfmcngncaffloaaGreatDoorDecA
import Derived.Deep.QuietTactic
import Derived.BigQuiet
namespace Go.Proofs.YtfmcngncaffloaaGreatDoor
open Go.RowKit
set_option maxRecDepth 100000

theorem str_get (c : List UInt8) (k : Nat) (hk : k < c.length) (h : k < (⟨c.toArray⟩ : ByteArray).size) : (⟨c.toArray⟩ : ByteArray)[k] = c.getD k 0 := by
  simp [ByteArray.getElem_eq_getElem_data, hk]
theorem grown_drewD {w w' : World} {row : Option Nat} (h : w.grownBy w' row) (n : Nat) : w.grownBy (w'.drewN n) row := ⟨h.os, h.tape, h.output, h.size, h.block⟩
theorem grown_drew0 {w w' : World} {row : Option Nat} {n : Nat} (h : (w.drewN n).grownBy w' row) : w.grownBy w' row := ⟨h.os, h.tape, h.output, h.size, h.block⟩
set_option maxHeartbeats 800000 in
theorem one_some (c : List UInt8) (k : Nat) (g : Nat) (w : World) (h : Rd w g c (some k)) (hk : k < c.length) (hc : c.length ≤ 9223372036854775807) :
    Calls Tryz.prog 190 #[.pointer (some ⟨g, 0, none⟩)] w fun e w' => e = .returned (I (c.getD k 0).toNat) ∧ Rd w' g c (some (k + 1)) ∧ w.grownBy w' (some g) := by
  have h' : Hid (Blk w g #[.string ⟨c.toArray⟩, I k, .nilIface] 252) := h
  have c0 : w.cell? ⟨g, 0, none⟩ = some (.string ⟨c.toArray⟩) := h'.out.cell 0
  have c1 : w.cell? ⟨g, 1, none⟩ = some (I k) := h'.out.cell 1
  have c2 : w.cell? ⟨g, 2, none⟩ = some .nilIface := h'.out.cell 2
  have z1 := h'.out.frozen 1
  have hs : (⟨c.toArray⟩ : ByteArray).size = c.length := by simp [ByteArray.size]
  have hb := Wv.byte_lt (c.getD k 0)
  clear h
  go_enter Tryz.func190, Tryz.ntmps190
  go_wp2
  go_quiet (fail)
  go_wp2
  go_quiet (fail)
  go_wp2
  go_ret
  exact ⟨ret_int (by rw [str_get c k hk]; unfold wrap64; omega), h'.out.set 1 _, grown_drewD (grown_drew0 (grown_set _ _ _ _)) _⟩

set_option maxHeartbeats 800000 in
theorem one_end (c : List UInt8) (k : Nat) (g : Nat) (w w0 : World) (g0 : Gd w0) (hb : Below w0.heap.size w0 w) (h : Rd w g c (some k)) (hk : ¬ k < c.length) :
    Calls Tryz.prog 190 #[.pointer (some ⟨g, 0, none⟩)] w fun e w' => e = .returned (I 0) ∧ Rd w' g c none ∧ w.grownBy w' (some g) := by
  have h' : Hid (Blk w g #[.string ⟨c.toArray⟩, I k, .nilIface] 252) := h
  have c0 : w.cell? ⟨g, 0, none⟩ = some (.string ⟨c.toArray⟩) := h'.out.cell 0
  have c1 : w.cell? ⟨g, 1, none⟩ = some (I k) := h'.out.cell 1
  obtain ⟨a, ha⟩ := g0.cut
  have ha := cell_kept hb ha
  have hz := lt_of_cell ha
  have hs : (⟨c.toArray⟩ : ByteArray).size = c.length := by simp [ByteArray.size]
  clear h g0 hb
  go_enter Tryz.func190, Tryz.ntmps190
  go_wp2
  go_quiet (fail)
  go_wp2_with fail
  refine (fail_some c k g _ _ (w.drewN nq) h'.out).mono ?_
  rintro e w1 ⟨rfl, ⟨a1, n1, y1, hR⟩, hg⟩
  have HR : Hid (Blk w1 g #[.string ⟨c.toArray⟩, I a1, FltF n1 y1] 252) := hR
  have HG : Hid (w.grownBy w1 (some g)) := grown_drew0 hg
  have c2 : w1.cell? ⟨g, 2, none⟩ = some (FltF n1 y1) := hR.cell 2
  clear hR hg c0 c1 ha hz
  go_wp2
  go_ret
  exact ⟨rfl, ⟨_, _, _, HR.out⟩, HG.out⟩

set_option maxHeartbeats 800000 in
theorem one_none (c : List UInt8) (g : Nat) (w w0 : World) (g0 : Gd w0) (hb : Below w0.heap.size w0 w) (h : Rd w g c none) :
    Calls Tryz.prog 190 #[.pointer (some ⟨g, 0, none⟩)] w fun e w' => e = .returned (I 0) ∧ Rd w' g c none ∧ w.grownBy w' (some g) := by
  have HN : Hid (Rd w g c none) := h
  obtain ⟨a, n, y, h⟩ := h
  have h' : Hid (Blk w g #[.string ⟨c.toArray⟩, I a, FltF n y] 252) := h
  have c0 : w.cell? ⟨g, 0, none⟩ = some (.string ⟨c.toArray⟩) := h'.out.cell 0
  have c1 : w.cell? ⟨g, 1, none⟩ = some (I a) := h'.out.cell 1
  have c2 : w.cell? ⟨g, 2, none⟩ = some (FltF n y) := h'.out.cell 2
  obtain ⟨ad, ha⟩ := g0.cut
  have ha := cell_kept hb ha
  have hz := lt_of_cell ha
  clear h g0 hb
  by_cases hk : (c.length : Int) ≤ a
  · go_enter Tryz.func190, Tryz.ntmps190
    go_wp2
    go_quiet (fail)
    go_wp2_with fail
    refine (fail_none c g _ (w.drewN nq) HN.out).mono ?_
    rintro e w1 ⟨rfl, ⟨a1, n1, y1, hR⟩, hg⟩
    have HR : Hid (Blk w1 g #[.string ⟨c.toArray⟩, I a1, FltF n1 y1] 252) := hR
    have HG : Hid (w.grownBy w1 (some g)) := grown_drew0 hg
    have c2 : w1.cell? ⟨g, 2, none⟩ = some (FltF n1 y1) := hR.cell 2
    clear hR hg c0 c1 ha hz
    go_wp2
    go_ret
    exact ⟨rfl, ⟨_, _, _, HR.out⟩, HG.out⟩
  · go_enter Tryz.func190, Tryz.ntmps190
    go_wp2
    go_quiet (fail)
    go_wp2
    go_ret
    exact ⟨rfl, HN.out, grown_drewD (grown_refl _ _) _⟩

/-- A byte. -/
theorem one_any (c : List UInt8) (q : Wv.St) (g : Nat) (w w0 : World) (g0 : Gd w0) (hb : Below w0.heap.size w0 w) (h : Rd w g c q) (hc : c.length ≤ 9223372036854775807) :
    Calls Tryz.prog 190 #[.pointer (some ⟨g, 0, none⟩)] w fun e w' => e = .returned (I (Wv.one c q)) ∧ Rd w' g c (Wv.nxt c q) ∧ w.grownBy w' (some g) := by
  cases q with
  | none => exact one_none c g w w0 g0 hb h
  | some k =>
    by_cases hk : k < c.length
    · have := one_some c k g w h hk hc
      simp only [Wv.one, Wv.nxt, hk, if_true]
      exact this
    · have := one_end c k g w w0 g0 hb h hk
      simp only [Wv.one, Wv.nxt, hk, if_false]
      exact this

end Go.Proofs.YtfmcngncaffloaaGreatDoor

namespace Go.Proofs.YtfmcngncaffloaaGreatDoor
open Go.RowKit
set_option maxRecDepth 100000

theorem grown_trans {w w' w2 : World} {row : Option Nat} (h : w.grownBy w' row) (h2 : w'.grownBy w2 row) : w.grownBy w2 row :=
  ⟨h2.os.trans h.os, h2.tape.trans h.tape, h2.output.trans h.output, Nat.le_trans h.size h2.size, fun k hk hr => (h2.block k (Nat.lt_of_lt_of_le hk h.size) hr).trans (h.block k hk hr)⟩
theorem below_g {w0 w w' : World} {g : Nat} (h : Below w0.heap.size w0 w) (hg : w.grownBy w' (some g)) (hw : w0.heap.size ≤ g) : Below w0.heap.size w0 w' :=
  h.grown hg h.size (fun k e => by cases e; exact hw)

theorem or_byte (a b : Int) (h1 : 0 ≤ a) (h2 : a ≤ 255) (h3 : 0 ≤ b) (h4 : b ≤ 255) : bits BinOp.or IntKind.i64 (a * 256) b = 256 * a + b := by
  obtain ⟨x, rfl⟩ := Int.eq_ofNat_of_zero_le h1
  obtain ⟨y, rfl⟩ := Int.eq_ofNat_of_zero_le h3
  have e : ((x : Int) * 256) = ((x * 256 : Nat) : Int) := by omega
  have k : x * 256 ||| y = x * 256 + y := by
    have := Nat.shiftLeft_add_eq_or_of_lt (b := y) (i := 8) (by omega) x
    rw [Nat.shiftLeft_eq] at this
    exact this.symm
  rw [e]
  show IntKind.i64.wrap ((BitVec.ofInt 64 ((x * 256 : Nat) : Int) ||| BitVec.ofInt 64 ((y : Nat) : Int)).toNat : Int) = _
  rw [BitVec.toNat_or, BitVec.ofInt_natCast, BitVec.ofInt_natCast, BitVec.toNat_ofNat, BitVec.toNat_ofNat, Nat.mod_eq_of_lt (by omega), Nat.mod_eq_of_lt (by omega), k, IntKind.wrap_i64]
  omega

set_option maxHeartbeats 800000 in
theorem rtwo_any (c : List UInt8) (q : Wv.St) (g : Nat) (w w0 : World) (g0 : Gd w0) (hb : Below w0.heap.size w0 w) (hg : w0.heap.size ≤ g) (h : Rd w g c q) (hc : c.length ≤ 9223372036854775807) :
    Calls Tryz.prog 189 #[.pointer (some ⟨g, 0, none⟩)] w fun e w' => e = .returned (I (Wv.two true c q)) ∧ Rd w' g c (Wv.nxt2 c q) ∧ w.grownBy w' (some g) := by
  have h' : Hid (Rd w g c q) := h
  have HB : Hid (Below w0.heap.size w0 w) := hb
  have G0 : Hid (Gd w0) := g0
  have HT : Hid (Wv.two true c q = 256 * Wv.one c q + Wv.one c (Wv.nxt c q)) := by show _ = _; simp [Wv.two]
  obtain ⟨a1, a2⟩ := Wv.one_lt c q
  obtain ⟨b1, b2⟩ := Wv.one_lt c (Wv.nxt c q)
  have hw : wrap64 (Wv.one c q * 256) = Wv.one c q * 256 := by unfold wrap64; omega
  have ho := or_byte _ _ a1 a2 b1 b2
  clear h hb g0
  go_enter Tryz.func189, Tryz.ntmps189
  go_wp2_with fail
  refine (one_any c q g _ w0 G0.out HB.out h'.out hc).mono ?_
  rintro e w1 ⟨rfl, hR, hG⟩
  have HR : Hid (Rd w1 g c (Wv.nxt c q)) := hR
  have HG : Hid (w.grownBy w1 (some g)) := hG
  have HB1 : Hid (Below w0.heap.size w0 w1) := below_g HB.out hG hg
  clear hR hG
  go_wp2_with fail
  refine (one_any c _ g _ w0 G0.out HB1.out HR.out hc).mono ?_
  rintro e w2 ⟨rfl, hR2, hG2⟩
  have HR2 : Hid (Rd w2 g c (Wv.nxt2 c q)) := hR2
  have HG2 : Hid (w.grownBy w2 (some g)) := grown_trans HG.out hG2
  clear hR2 hG2
  go_wp2
  go_ret
  exact ⟨ret_int HT.out.symm, HR2.out, HG2.out⟩

theorem grown_new {w w' : World} {o : Obj} {row : Option Nat} (h : (w.alloc o).grownBy w' row) : w.grownBy w' row :=
  ⟨h.os, h.tape, h.output, Nat.le_trans (by simp) h.size, fun k hk hr => (h.block k (by simp; omega) hr).trans (Below.heap_alloc w o k hk)⟩
theorem grown_set_new {w w' : World} {row : Option Nat} (h : w.grownBy w' row) {a : Addr} (ha : w.heap.size ≤ a.block) (u : Value) : w.grownBy (w'.setCell a u) row :=
  ⟨h.os, h.tape, h.output, Nat.le_trans h.size (by simp [World.setCell]), fun k hk hr => (heap_setCell_other w' a k u (by omega)).trans (h.block k hk hr)⟩
theorem Rd.other {w : World} {g : Nat} {c : List UInt8} {q : Wv.St} (h : Rd w g c q) {a : Addr} (ha : g ≠ a.block) (u : Value) : Rd (w.setCell a u) g c q := by
  cases q with
  | some k => exact Blk.other h ha u
  | none => obtain ⟨b, n, y, h⟩ := h; exact ⟨b, n, y, Blk.other h ha u⟩
theorem Rd.alloc {w : World} {g : Nat} {c : List UInt8} {q : Wv.St} (h : Rd w g c q) (o : Obj) : Rd (w.alloc o) g c q := by
  cases q with
  | some k => exact Blk.alloc h o
  | none => obtain ⟨b, n, y, h⟩ := h; exact ⟨b, n, y, Blk.alloc h o⟩

set_option maxHeartbeats 800000 in
theorem rddot_any (c : List UInt8) (q : Wv.St) (g : Nat) (w w0 : World) (g0 : Gd w0) (hb : Below w0.heap.size w0 w) (hg : w0.heap.size ≤ g) (h : Rd w g c q) (hc : c.length ≤ 9223372036854775807) :
    Calls Tryz.prog 209 #[.pointer (some ⟨g, 0, none⟩)] w fun e w' => e = .returned (dotV (Wv.dotR c q)) ∧ Rd w' g c (Wv.nxt3 c q) ∧ w.grownBy w' (some g) := by
  have hlt := h.lt
  have hne : g ≠ w.heap.size := by omega
  have h' : Hid (Rd (w.alloc (.cells #[.int .i64 0, .int .i64 0, .int .i64 0] 146)) g c q) := h.alloc _
  have HB : Hid (Below w0.heap.size w0 (w.alloc (.cells #[.int .i64 0, .int .i64 0, .int .i64 0] 146))) := hb.alloc hb.size _
  have HK : Hid (Blk (w.alloc (.cells #[.int .i64 0, .int .i64 0, .int .i64 0] 146)) w.heap.size #[.int .i64 0, .int .i64 0, .int .i64 0] 146) := heap_alloc_new w _
  have G0 : Hid (Gd w0) := g0
  clear h hb g0
  go_enter Tryz.func209, Tryz.ntmps209
  go_wp2_with fail
  refine (one_any c q g _ w0 G0.out HB.out h'.out hc).mono ?_
  rintro e w1 ⟨rfl, hR, hG⟩
  have HR : Hid (Rd w1 g c (Wv.nxt c q)) := hR
  have HG : Hid ((w.alloc (.cells #[.int .i64 0, .int .i64 0, .int .i64 0] 146)).grownBy w1 (some g)) := hG
  have HB1 : Hid (Below w0.heap.size w0 w1) := below_g HB.out hG hg
  clear hR hG
  go_wp2_with fail
  refine (one_any c _ g _ w0 G0.out HB1.out HR.out hc).mono ?_
  rintro e w2 ⟨rfl, hR2, hG2⟩
  have HR2 : Hid (Rd w2 g c (Wv.nxt2 c q)) := hR2
  have HG2 : Hid ((w.alloc (.cells #[.int .i64 0, .int .i64 0, .int .i64 0] 146)).grownBy w2 (some g)) := grown_trans HG.out hG2
  have HB2 : Hid (Below w0.heap.size w0 w2) := below_g HB1.out hG2 hg
  clear hR2 hG2
  go_wp2_with fail
  refine (one_any c _ g _ w0 G0.out HB2.out HR2.out hc).mono ?_
  rintro e w3 ⟨rfl, hR3, hG3⟩
  have HR3 : Hid (Rd w3 g c (Wv.nxt3 c q)) := hR3
  have HG3 : Hid ((w.alloc (.cells #[.int .i64 0, .int .i64 0, .int .i64 0] 146)).grownBy w3 (some g)) := grown_trans HG2.out hG3
  have HK3 : Hid (Blk w3 w.heap.size #[.int .i64 0, .int .i64 0, .int .i64 0] 146) := HK.out.grown HG3.out (by simp; omega)
  have d0 : w3.cell? ⟨w.heap.size, 0, none⟩ = some (.int .i64 0) := HK3.out.cell 0
  have d1 : w3.cell? ⟨w.heap.size, 1, none⟩ = some (.int .i64 0) := HK3.out.cell 1
  have d2 : w3.cell? ⟨w.heap.size, 2, none⟩ = some (.int .i64 0) := HK3.out.cell 2
  have z0 := HK3.out.frozen 0
  have z1 := HK3.out.frozen 1
  have z2 := HK3.out.frozen 2
  clear hR3 hG3
  go_wp2
  have HF : Hid (Blk (((w3.setCell ⟨w.heap.size, 0, none⟩ (I (Wv.one c q))).setCell ⟨w.heap.size, 1, none⟩ (I (Wv.one c (Wv.nxt c q)))).setCell ⟨w.heap.size, 2, none⟩ (I (Wv.one c (Wv.nxt2 c q)))) w.heap.size #[I (Wv.one c q), I (Wv.one c (Wv.nxt c q)), I (Wv.one c (Wv.nxt2 c q))] 146) := ((HK3.out.set 0 _).set 1 _).set 2 _
  have HZ : Hid (Rd (((w3.setCell ⟨w.heap.size, 0, none⟩ (I (Wv.one c q))).setCell ⟨w.heap.size, 1, none⟩ (I (Wv.one c (Wv.nxt c q)))).setCell ⟨w.heap.size, 2, none⟩ (I (Wv.one c (Wv.nxt2 c q)))) g c (Wv.nxt3 c q)) := ((HR3.out.other hne _).other hne _).other hne _
  have HY : Hid (w.grownBy (((w3.setCell ⟨w.heap.size, 0, none⟩ (I (Wv.one c q))).setCell ⟨w.heap.size, 1, none⟩ (I (Wv.one c (Wv.nxt c q)))).setCell ⟨w.heap.size, 2, none⟩ (I (Wv.one c (Wv.nxt2 c q)))) (some g)) := grown_set_new (grown_set_new (grown_set_new (grown_new HG3.out) (Nat.le_refl _) _) (Nat.le_refl _) _) (Nat.le_refl _) _
  generalize (((w3.setCell ⟨w.heap.size, 0, none⟩ (I (Wv.one c q))).setCell ⟨w.heap.size, 1, none⟩ (I (Wv.one c (Wv.nxt c q)))).setCell ⟨w.heap.size, 2, none⟩ (I (Wv.one c (Wv.nxt2 c q)))) = wF at *
  have f0 : wF.cell? ⟨w.heap.size, 0, none⟩ = some (I (Wv.one c q)) := HF.out.cell 0
  have f1 : wF.cell? ⟨w.heap.size, 1, none⟩ = some (I (Wv.one c (Wv.nxt c q))) := HF.out.cell 1
  have f2 : wF.cell? ⟨w.heap.size, 2, none⟩ = some (I (Wv.one c (Wv.nxt2 c q))) := HF.out.cell 2
  refine bodyPost_ret (v := dotV (Wv.dotR c q)) (by simp [results, Tryz.results209, go_sem, f0, f1, f2]; exact ⟨rfl, rfl, rfl⟩) rfl ⟨rfl, HZ.out, HY.out⟩

end Go.Proofs.YtfmcngncaffloaaGreatDoor
