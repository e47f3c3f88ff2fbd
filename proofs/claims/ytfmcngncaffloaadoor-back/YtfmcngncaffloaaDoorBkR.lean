import Derived.Test.YtfmcngncaffloaaDoorSmX
import Derived.Test.YtfmcngncaffloaaDoorBkP
import Derived.Test.YtfmcngncaffloaaDoorBkQ
import Derived.Test.YtfmcngncaffloaaDoorTkC
import Derived.Lib.ConvBytes
import Derived.Laws.BitsAllLaws
import Derived.Test.YtfmcngncaffloaaDoorBkK
import Derived.Test.YtfmcngncaffloaaDoorWEnc
namespace Go.Proofs.YtfmcngncaffloaaDoor
open Go.RowKit
set_option maxRecDepth 100000
attribute [local go_sem ↓] run_eql_dot run_neq_dot

/-- Two batches laid into memory for a call. -/
def two (w : World) (b : Wv.Bt) (ca ea ca2 ea2 : Option Addr) (cc ec cc2 ec2 : Nat) : World :=
  (w.alloc (.cells #[I b.o, I b.s, I b.t, .slice ca b.clock.length cc, .slice ea b.effs.length ec] 25)).alloc (.cells #[I b.o, I b.s, I b.t, .slice ca2 b.clock.length cc2, .slice ea2 b.effs.length ec2] 25)
theorem two_below (w : World) (b : Wv.Bt) (ca ea ca2 ea2 : Option Addr) (cc ec cc2 ec2 : Nat) : Below w.heap.size w (two w b ca ea ca2 ea2 cc ec cc2 ec2) := ((Below.refl _ _).alloc (Nat.le_refl _) _).alloc (by simp) _
theorem two_size (w : World) (b : Wv.Bt) (ca ea ca2 ea2 : Option Addr) (cc ec cc2 ec2 : Nat) : (two w b ca ea ca2 ea2 cc ec cc2 ec2).heap.size = w.heap.size + 2 := by simp [two]
theorem two_cells {w wr : World} {b : Wv.Bt} {ca ea ca2 ea2 : Option Addr} {cc ec cc2 ec2 : Nat} (h : Below (w.heap.size + 2) (two w b ca ea ca2 ea2 cc ec cc2 ec2) wr) :
    wr.cell? ⟨w.heap.size, 3, none⟩ = some (.slice ca b.clock.length cc) ∧ wr.cell? ⟨w.heap.size, 4, none⟩ = some (.slice ea b.effs.length ec) ∧
    wr.cell? ⟨w.heap.size + 1, 3, none⟩ = some (.slice ca2 b.clock.length cc2) ∧ wr.cell? ⟨w.heap.size + 1, 4, none⟩ = some (.slice ea2 b.effs.length ec2) := by
  refine ⟨?_, ?_, ?_, ?_⟩
  · exact (h.cell (p := ⟨w.heap.size, 3, none⟩) (by simp)).trans (cell_second2 w _ _ _ 3)
  · exact (h.cell (p := ⟨w.heap.size, 4, none⟩) (by simp)).trans (cell_second2 w _ _ _ 4)
  · exact (h.cell (p := ⟨w.heap.size + 1, 3, none⟩) (by simp)).trans (Joins.cell_alloc_mark_at _ _ _ _ _ _ (by simp))
  · exact (h.cell (p := ⟨w.heap.size + 1, 4, none⟩) (by simp)).trans (Joins.cell_alloc_mark_at _ _ _ _ _ _ (by simp))

/-- Two effects laid into memory, in a round. -/
def twoE (w : World) (m m2 : Em) : World :=
  (w.alloc (.cells #[I m.e.op, I m.e.ob, I m.e.va, I m.e.ref.o, I m.e.ref.s, I m.e.ref.i, .slice m.da m.e.dots.length m.dc] 43)).alloc (.cells #[I m.e.op, I m.e.ob, I m.e.va, I m.e.ref.o, I m.e.ref.s, I m.e.ref.i, .slice m2.da m.e.dots.length m2.dc] 43)
theorem twoE_below (w : World) (m m2 : Em) : Below w.heap.size w (twoE w m m2) := ((Below.refl _ _).alloc (Nat.le_refl _) _).alloc (by simp) _
theorem twoE_cells {w wr : World} {m m2 : Em} (h : Below (w.heap.size + 2) (twoE w m m2) wr) :
    wr.cell? ⟨w.heap.size, 6, none⟩ = some (.slice m.da m.e.dots.length m.dc) ∧ wr.cell? ⟨w.heap.size + 1, 6, none⟩ = some (.slice m2.da m.e.dots.length m2.dc) := by
  refine ⟨?_, ?_⟩
  · exact (h.cell (p := ⟨w.heap.size, 6, none⟩) (by simp)).trans (cell_second2 w _ _ _ 6)
  · exact (h.cell (p := ⟨w.heap.size + 1, 6, none⟩) (by simp)).trans (Joins.cell_alloc_mark_at _ _ _ _ _ _ (by simp))

set_option maxHeartbeats 3200000 in
theorem same_any (b : Wv.Bt) (p1 q1 p2 q2 p3 q3 p4 q4 : Nat) (cc ec cc2 ec2 : Nat) (ms1 ms2 : List Em) (w : World) (h1 : BatAt w b (some ⟨p1, q1, none⟩) (some ⟨p2, q2, none⟩) ms1) (h2 : BatAt w b (some ⟨p3, q3, none⟩) (some ⟨p4, q4, none⟩) ms2) (hcl : b.clock.length ≤ 4611686018427387904) (hl : b.effs.length ≤ 4611686018427387904) (hd : ∀ m ∈ ms1, m.e.dots.length ≤ 4611686018427387904)
    (k1 : ∀ j u, (b.clock.map I)[j]? = some u → w.cell? ⟨p1, q1 + j, none⟩ = some u) (k2 : ∀ j u, (b.clock.map I)[j]? = some u → w.cell? ⟨p3, q3 + j, none⟩ = some u)
    (e1 : CellsAt w p2 q2 ms1) (e2 : CellsAt w p4 q4 ms2) :
    Calls Tryd.prog 16 #[bV b (some ⟨p1, q1, none⟩) (some ⟨p2, q2, none⟩) cc ec, bV b (some ⟨p3, q3, none⟩) (some ⟨p4, q4, none⟩) cc2 ec2] w fun e w' => e = .returned (.bool true) ∧ Below w.heap.size w w' := by
  have h1' : Hid (BatAt w b (some ⟨p1, q1, none⟩) (some ⟨p2, q2, none⟩) ms1) := h1
  have h2' : Hid (BatAt w b (some ⟨p3, q3, none⟩) (some ⟨p4, q4, none⟩) ms2) := h2
  have hd' : Hid (∀ m ∈ ms1, m.e.dots.length ≤ 4611686018427387904) := hd
  have k1' : Hid (∀ j u, (b.clock.map I)[j]? = some u → w.cell? ⟨p1, q1 + j, none⟩ = some u) := k1
  have k2' : Hid (∀ j u, (b.clock.map I)[j]? = some u → w.cell? ⟨p3, q3 + j, none⟩ = some u) := k2
  have e1' : Hid (CellsAt w p2 q2 ms1) := e1
  have e2' : Hid (CellsAt w p4 q4 ms2) := e2
  clear h1 h2 hd k1 k2 e1 e2
  have HW := two_below w b (some ⟨p1, q1, none⟩) (some ⟨p2, q2, none⟩) (some ⟨p3, q3, none⟩) (some ⟨p4, q4, none⟩) cc ec cc2 ec2
  have HW' : Hid (Below w.heap.size w (two w b (some ⟨p1, q1, none⟩) (some ⟨p2, q2, none⟩) (some ⟨p3, q3, none⟩) (some ⟨p4, q4, none⟩) cc ec cc2 ec2)) := HW
  clear HW
  have HZ : Hid (∀ wr, Below (w.heap.size + 2) (two w b (some ⟨p1, q1, none⟩) (some ⟨p2, q2, none⟩) (some ⟨p3, q3, none⟩) (some ⟨p4, q4, none⟩) cc ec cc2 ec2) wr → Below w.heap.size w wr) := fun wr h => HW'.out.trans (h.mono (by omega))
  go_enter Tryd.func16, Tryd.ntmps16
  have t0 : (b.o != b.o) = false := by simp
  have t1 : (b.s != b.s) = false := by simp
  have t2 : (b.t != b.t) = false := by simp
  go_wp2_with fail
  go_loopw [5] (fun x wr => ∃ k : Nat, k ≤ b.clock.length ∧ x = I k ∧ Hid (Below (w.heap.size + 2) (two w b (some ⟨p1, q1, none⟩) (some ⟨p2, q2, none⟩) (some ⟨p3, q3, none⟩) (some ⟨p4, q4, none⟩) cc ec cc2 ec2) wr)) (fun x _ => b.clock.length - (intOf x).toNat)
  case atStart => exact ⟨0, Nat.zero_le _, rfl, Below.refl _ _⟩
  case round =>
    obtain ⟨k, hk, rfl, hb⟩ := hrel
    obtain ⟨y3, y4, x3, x4⟩ := two_cells hb.out
    by_cases hlt : k < b.clock.length
    · have c1 : wr.cell? ⟨p1, q1 + k, none⟩ = some (I b.clock[k]) := cell_kept (HZ.out _ hb.out) (k1'.out k _ (by simp [hlt]))
      have c2 : wr.cell? ⟨p3, q3 + k, none⟩ = some (I b.clock[k]) := cell_kept (HZ.out _ hb.out) (k2'.out k _ (by simp [hlt]))
      generalize b.clock[k] = z at c1 c2
      have hki : (k : Int) < (b.clock.length : Int) := by omega
      have hzz : (z != z) = false := by simp
      go_wp2_with fail
      go_quiet (fail)
      go_wp2
      exact ⟨⟨k + 1, by omega, by go_num, belowN hb.out _⟩, by simp [intOf]; omega⟩
    · obtain rfl : k = b.clock.length := by omega
      clear hlt hk
      have HM : Hid (∀ k (h1 : k < ms1.length) (h2 : k < ms2.length), ms1[k].e = ms2[k].e) := by
        show ∀ k (h1 : k < ms1.length) (h2 : k < ms2.length), ms1[k].e = ms2[k].e
        intro k g1 g2
        have h : (ms1.map (·.e))[k]? = (ms2.map (·.e))[k]? := by rw [← h1'.out.effs, ← h2'.out.effs]
        simpa [g1, g2] using h
      have HL : Hid (b.effs.length = ms1.length) := by show b.effs.length = ms1.length; rw [h1'.out.effs]; simp
      have HLN : Hid (ms2.length = ms1.length) := by show ms2.length = ms1.length; rw [← HL.out, h2'.out.effs]; simp
      go_wp2_with fail
      go_loopw [6] (fun x wr => ∃ k : Nat, k ≤ b.effs.length ∧ x = I k ∧ Hid (Below (w.heap.size + 2) (two w b (some ⟨p1, q1, none⟩) (some ⟨p2, q2, none⟩) (some ⟨p3, q3, none⟩) (some ⟨p4, q4, none⟩) cc ec cc2 ec2) wr)) (fun x _ => b.effs.length - (intOf x).toNat)
      case atStart => exact ⟨0, Nat.zero_le _, rfl, hb⟩
      case round =>
        clear hb x3 x4 y3 y4
        obtain ⟨k, hk, rfl, hb⟩ := hrel
        obtain ⟨y3, y4, x3, x4⟩ := two_cells hb.out
        by_cases hlt : k < b.effs.length
        · have hlt1 : k < ms1.length := by rw [← HL.out]; exact hlt
          have hlt2 : k < ms2.length := by rw [HLN.out]; exact hlt1
          obtain ⟨c0, c1, c2, c3, c4, c5, c6⟩ := e1'.out k hlt1
          obtain ⟨e0, e1, e2, e3, e4, e5, e6⟩ := e2'.out k hlt2
          have hee := HM.out k hlt1 hlt2
          have HM1 : Hid (ms1[k] ∈ ms1) := List.getElem_mem _
          have HM2 : Hid (ms2[k] ∈ ms2) := List.getElem_mem _
          generalize ms1[k] = m at c0 c1 c2 c3 c4 c5 c6 HM1 hee
          generalize ms2[k] = m2 at e0 e1 e2 e3 e4 e5 e6 HM2 hee
          rw [← hee] at e0 e1 e2 e3 e4 e5 e6
          have HEE : Hid (m.e = m2.e) := hee
          clear hee hlt2 hlt1
          replace c0 := cell_kept (HZ.out _ hb.out) c0
          replace c1 := cell_kept (HZ.out _ hb.out) c1
          replace c2 := cell_kept (HZ.out _ hb.out) c2
          replace c3 := cell_kept (HZ.out _ hb.out) c3
          replace c4 := cell_kept (HZ.out _ hb.out) c4
          replace c5 := cell_kept (HZ.out _ hb.out) c5
          replace c6 := cell_kept (HZ.out _ hb.out) c6
          replace e0 := cell_kept (HZ.out _ hb.out) e0
          replace e1 := cell_kept (HZ.out _ hb.out) e1
          replace e2 := cell_kept (HZ.out _ hb.out) e2
          replace e3 := cell_kept (HZ.out _ hb.out) e3
          replace e4 := cell_kept (HZ.out _ hb.out) e4
          replace e5 := cell_kept (HZ.out _ hb.out) e5
          replace e6 := cell_kept (HZ.out _ hb.out) e6
          have hki : (k : Int) < (b.effs.length : Int) := by omega
          have u0 : (m.e.op != m.e.op) = false := by simp
          have u1 : (m.e.ob != m.e.ob) = false := by simp
          have u2 : (m.e.va != m.e.va) = false := by simp
          have u3 := eq3_self m.e.ref.o m.e.ref.s m.e.ref.i
          have hsz : w.heap.size + 2 ≤ wr.heap.size := by have := hb.out.size; rw [two_size] at this; exact this
          have HA : Hid (Below wr.heap.size wr (wr.alloc (.cells #[I m.e.op, I m.e.ob, I m.e.va, I m.e.ref.o, I m.e.ref.s, I m.e.ref.i, .slice m.da m.e.dots.length m.dc] 43))) := (Below.refl _ _).alloc (Nat.le_refl _) _
          replace x4 := cell_kept HA.out x4
          replace e0 := cell_kept HA.out e0
          replace e1 := cell_kept HA.out e1
          replace e2 := cell_kept HA.out e2
          replace e3 := cell_kept HA.out e3
          replace e4 := cell_kept HA.out e4
          replace e5 := cell_kept HA.out e5
          replace e6 := cell_kept HA.out e6
          go_wp2_with fail
          have HD1 : Hid (At w m.da (flat dotCells m.e.dots)) := h1'.out.dots m HM1.out
          have HD2 : Hid (At w m2.da (flat dotCells m.e.dots)) := by show At w m2.da (flat dotCells m.e.dots); rw [HEE.out]; exact h2'.out.dots m2 HM2.out
          have HDL : m.e.dots.length ≤ 4611686018427387904 := hd'.out m HM1.out
          have HN : Hid (∀ w2, Below (wr.heap.size + 2) (twoE wr m m2) w2 → Below (w.heap.size + 2) (two w b (some ⟨p1, q1, none⟩) (some ⟨p2, q2, none⟩) (some ⟨p3, q3, none⟩) (some ⟨p4, q4, none⟩) cc ec cc2 ec2) w2) := fun w2 h => hb.out.trans (((twoE_below wr m m2).trans (h.mono (by omega))).mono hsz)
          clear e0 e1 e2 e3 e4 e5 e6 c0 c1 c2 c3 c4 c5 c6 x3 x4 y3 y4 HA HEE
          go_loopw [9] (fun x w2 => ∃ j : Nat, j ≤ m.e.dots.length ∧ x = I j ∧ Hid (Below (wr.heap.size + 2) (twoE wr m m2) w2)) (fun x _ => m.e.dots.length - (intOf x).toNat)
          case atStart => exact ⟨0, Nat.zero_le _, rfl, Below.refl _ _⟩
          case round =>
            obtain ⟨j, hj, rfl, hbj⟩ := hrel
            obtain ⟨y6, x6⟩ := twoE_cells hbj.out
            have HWJ : Hid (Below w.heap.size w wr) := HZ.out _ (HN.out _ hbj.out)
            by_cases hjl : j < m.e.dots.length
            · obtain ⟨a1, b1, g1, _, f1⟩ := dots_at HD1.out (by omega)
              obtain ⟨a2, b2, g2, _, f2⟩ := dots_at HD2.out (by omega)
              rw [g1] at y6
              rw [g2] at x6
              obtain ⟨c0, c1, c2⟩ := f1 j hjl
              obtain ⟨e0, e1, e2⟩ := f2 j hjl
              clear f1 f2 g1 g2
              replace c0 := cell_kept HWJ.out c0
              replace c1 := cell_kept HWJ.out c1
              replace c2 := cell_kept HWJ.out c2
              replace e0 := cell_kept HWJ.out e0
              replace e1 := cell_kept HWJ.out e1
              replace e2 := cell_kept HWJ.out e2
              generalize m.e.dots[j] = d at c0 c1 c2 e0 e1 e2
              have hji : (j : Int) < (m.e.dots.length : Int) := by omega
              have hdd := eq3_self d.o d.s d.i
              go_wp2_with fail
              go_quiet (fail)
              go_wp2
              exact ⟨⟨j + 1, by omega, by go_num, belowN hbj.out _⟩, by simp [intOf]; omega⟩
            · obtain rfl : j = m.e.dots.length := by omega
              go_wp2
              exact ⟨⟨k + 1, by omega, by go_num, HN.out _ hbj.out⟩, by simp [intOf]; omega⟩
        · obtain rfl : k = b.effs.length := by omega
          go_wp2
          go_ret
          exact ⟨rfl, HZ.out _ hb.out⟩

end Go.Proofs.YtfmcngncaffloaaDoor

namespace Go.Proofs.YtfmcngncaffloaaDoor
open Go.RowKit
set_option maxRecDepth 100000

/-- Bytes of the call's own, in a row that came of a string. -/
def Tb (w : World) (g : Nat) (l : List UInt8) : Prop := ∃ cur : Array Value, w.heap[g]? = some (.cells cur 5 (cur.size, cur.size + 1)) ∧ ∀ j (hj : j < l.length), cur[j]? = some (B8 l[j])
theorem Tb.begin (w : World) (l : List UInt8) : Tb (Lib.bytesWorld w 5 ⟨l.toArray⟩) w.heap.size l :=
  ⟨_, Lib.bytesWorld_at_new w _ _, fun j hj => by simp [Lib.bytesCells, Array.getElem?_append, hj]⟩
theorem Tb.lt {w : World} {g : Nat} {l : List UInt8} (h : Tb w g l) : g < w.heap.size := by
  obtain ⟨cur, hc, _⟩ := h
  exact (Array.getElem?_eq_some_iff.1 hc).1
theorem Tb.cell {w : World} {g : Nat} {l : List UInt8} (h : Tb w g l) (j : Nat) (hj : j < l.length) : w.cell? ⟨g, j, none⟩ = some (B8 l[j]) := by
  obtain ⟨cur, hc, h2⟩ := h
  rw [Joins.cell_of_block hc]
  exact h2 j hj
theorem Tb.free {w : World} {g : Nat} {l : List UInt8} (h : Tb w g l) (j : Nat) (hj : j < l.length) : w.frozen? ⟨g, j, none⟩ = false := by
  obtain ⟨cur, hc, h2⟩ := h
  have := (Array.getElem?_eq_some_iff.1 (h2 j hj)).1
  simp [World.frozen?, hc]
  omega
theorem Tb.set {w : World} {g : Nat} {l : List UInt8} (h : Tb w g l) (j : Nat) (x : UInt8) : Tb (w.setCell ⟨g, j, none⟩ (B8 x)) g (l.set j x) := by
  obtain ⟨cur, hc, h2⟩ := h
  refine ⟨cur.setIfInBounds j (B8 x), ?_, fun k hk => ?_⟩
  · have := Joins.block_setCell hc (B8 x) (i := j)
    simpa using this
  · have hk' : k < l.length := by simpa using hk
    have hs := (Array.getElem?_eq_some_iff.1 (h2 k hk')).1
    rw [Array.getElem?_setIfInBounds]
    by_cases e : j = k
    · subst e
      simp [hs]
    · simp [e, h2 k hk']
theorem Tb.kept {w w' : World} {g : Nat} {l : List UInt8} (h : Tb w g l) (hb : Below w.heap.size w w') : Tb w' g l := by
  have hl := h.lt
  obtain ⟨cur, hc, h2⟩ := h
  exact ⟨cur, by rw [hb.block g hl]; exact hc, h2⟩
theorem bytes_below (w : World) (e : TypeId) (s : ByteArray) : Below w.heap.size w (Lib.bytesWorld w e s) :=
  ⟨rfl, rfl, rfl, by rw [Lib.bytesWorld_size]; omega, fun k hk => Lib.bytesWorld_at_old w e s k hk⟩
theorem xor_b8 (c : UInt8) (M : Int) (h1 : 0 ≤ M) (h2 : M < 256) : bits .xor .u8 (c.toNat : Int) M = ((c ^^^ UInt8.ofNat M.toNat).toNat : Int) := by
  obtain ⟨n, rfl⟩ := Int.eq_ofNat_of_zero_le h1
  rw [u8_xor_nat _ _ c.toNat_lt (by omega), UInt8.toNat_xor, UInt8.toNat_ofNat_of_lt' (by show (n : Int).toNat < 256; omega)]
  rfl
theorem byte_zero (M : Int) (h1 : 0 ≤ M) (h2 : M < 256) : (UInt8.ofNat M.toNat != 0) = (M != 0) := by
  obtain ⟨n, rfl⟩ := Int.eq_ofNat_of_zero_le h1
  rw [Bool.eq_iff_iff, bne_iff_ne, bne_iff_ne]
  refine not_congr ⟨fun h => ?_, fun h => ?_⟩
  · have := congrArg UInt8.toNat h
    rw [UInt8.toNat_ofNat_of_lt' (by show (n : Int).toNat < 256; omega)] at this
    simp at this
    omega
  · rw [h]; rfl
theorem conv_one (w : World) (g : Nat) (x : Int) (hg : g = w.heap.size) (h1 : 0 ≤ x) (h2 : x < 256) :
    (convert 50 9 (.slice (some ⟨g, 0, none⟩) 1 1)).run Tryd.prog (w.alloc (.cells #[.int .u8 x] 5)) = .ok (.string ⟨#[UInt8.ofNat x.toNat]⟩) (w.alloc (.cells #[.int .u8 x] 5)) := by
  have e : [Value.int .u8 x] = [UInt8.ofNat x.toNat].map B8 := by
    simp only [List.map_cons, List.map_nil, B8]
    rw [UInt8.toNat_ofNat_of_lt' (by show x.toNat < 256; omega), Int.toNat_of_nonneg h1]
  refine conv_cells (w.alloc (.cells #[.int .u8 x] 5)) ⟨g, 0, none⟩ 1 [UInt8.ofNat x.toNat] fun j u hj => ?_
  rw [← e] at hj
  exact lit_at w [.int .u8 x] _ g hg j u hj
theorem bat_some {w : World} {b : Wv.Bt} {ca ea : Option Addr} {ms : List Em} (h : BatAt w b ca ea ms) (hc : 0 < b.clock.length) (he : 0 < b.effs.length) :
    ∃ p1 q1 p2 q2, ca = some ⟨p1, q1, none⟩ ∧ ea = some ⟨p2, q2, none⟩ ∧ (∀ j u, (b.clock.map I)[j]? = some u → w.cell? ⟨p1, q1 + j, none⟩ = some u) ∧ CellsAt w p2 q2 ms := by
  obtain ⟨p1, q1, e1, _, k1⟩ := h.clock.first (by simpa using hc)
  have hl : ms.length = b.effs.length := by rw [h.effs]; simp
  obtain ⟨p2, q2, e2, _, k2⟩ := effs_at h.cells (by omega)
  exact ⟨p1, q1, p2, q2, e1, e2, k1, k2⟩

end Go.Proofs.YtfmcngncaffloaaDoor

namespace Go.Proofs.YtfmcngncaffloaaDoor
open Go.RowKit
set_option maxRecDepth 100000

set_option maxHeartbeats 6400000 in
theorem back_any (n origin seq time at' : Int) (raw : List Int) (ra : Option Addr) (rc : Nat) (m0 m1 m2 m3 : Int) (w : World) (eb ef : Addr) (hI : ItoaSaid) (gl : Gl w eb ef) (hp : Pw w) (g0 : Gd w)
    (hn : i64 n) (ho : i64 origin) (hs : i64 seq) (ht : i64 time) (ha : i64 at') (i0 : i64 m0) (i1 : i64 m1) (i2 : i64 m2) (i3 : i64 m3) (hraw : At w ra (raw.map I)) (hri : ∀ v ∈ raw, i64 v) (hrl : (raw.length + 1) * 8 ≤ 140737488355328) :
    Calls Tryd.prog 5 #[I n, I origin, I seq, I time, .slice ra raw.length rc, I at', .agg #[I m0, I m1, I m2, I m3]] w fun e w' => e = .returned (.bool true) ∧ Below w.heap.size w w' := by
  have HBA0 : Hid (Below w.heap.size w (w.alloc (.cells #[I m0, I m1, I m2, I m3] 47))) := (Below.refl _ _).alloc (Nat.le_refl _) _
  have HKM0 : Hid (Blk (w.alloc (.cells #[I m0, I m1, I m2, I m3] 47)) w.heap.size #[I m0, I m1, I m2, I m3] 47) := heap_alloc_new w _
  have GL : Hid (∀ w', Below w.heap.size w w' → Gl w' eb ef) := fun w' h => gl.kept h
  have HP : Hid (∀ w', Below w.heap.size w w' → Pw w') := fun w' h => hp.kept h
  have GD : Hid (∀ w', Below w.heap.size w w' → Gd w') := fun w' h => g0.kept h
  have HM : Hid (Calls Tryd.prog 15 #[I n, I origin, I seq, I time, .slice ra raw.length rc] (w.alloc (.cells #[I m0, I m1, I m2, I m3] 47)) fun e w' => MadeOk (w.alloc (.cells #[I m0, I m1, I m2, I m3] 47)) (Wv.mkB n origin seq time raw) e w') := made_any n origin seq time raw ra rc _ hn ho hs ht (hraw.kept HBA0.out) hri hrl
  have HMI : Hid (∀ k, k < 4 → i64 ([m0, m1, m2, m3].getD k 0)) := by
    intro k hk
    have : k = 0 ∨ k = 1 ∨ k = 2 ∨ k = 3 := by omega
    rcases this with rfl | rfl | rfl | rfl
    · exact i0
    · exact i1
    · exact i2
    · exact i3
  have HMC : Hid (∀ w' : World, Blk w' w.heap.size #[I m0, I m1, I m2, I m3] 47 → ∀ k, k < 4 → w'.cell? ⟨w.heap.size, k, none⟩ = some (I ([m0, m1, m2, m3].getD k 0))) := by
    intro w' h k hk
    have : k = 0 ∨ k = 1 ∨ k = 2 ∨ k = 3 := by omega
    rcases this with rfl | rfl | rfl | rfl
    · exact h.cell 0
    · exact h.cell 1
    · exact h.cell 2
    · exact h.cell 3
  have HIB : Hid (Wv.isB (Wv.mkB n origin seq time raw) = true) := Wv.mk_isB n origin seq time raw
  have hcl : 0 < (Wv.mkB n origin seq time raw).clock.length := by
    have := Wv.pk_lt n 3 (by omega)
    show 0 < ((Wv.mkC _ _).set _ _).length
    rw [List.length_set, Wv.mkC_len]
    unfold Wv.mkK
    omega
  have hel : 0 < (Wv.mkB n origin seq time raw).effs.length := by
    show 0 < (((n :: raw).take 5).map _).length
    simp
  clear gl hp g0 hn ho hs ht hraw hri hrl i0 i1 i2 i3
  generalize Wv.mkB n origin seq time raw = b at *
  have HSM : Hid (b.clock.length ≤ 4 ∧ b.effs.length ≤ 5 ∧ ∀ e ∈ b.effs, e.dots.length ≤ 150) := isB_small HIB.out
  have hL1 : 15 ≤ (Wv.frameB b).length := by have := Wv.frame_len b HIB.out; omega
  have hL2 : (Wv.frameB b).length ≤ 2606 := by have := Wv.frame_len b HIB.out; omega
  have HDF : Hid (Wv.dec (Wv.frameB b) = some b) := Wv.dec_frame b HIB.out
  have HFB : Hid (∀ i m K, K ≤ 4 → i + K ≤ Wv.stopAt (Wv.frameB b).length i → Wv.dec (Wv.chg (Wv.frameB b) i m K) = if Wv.chd m K then none else some b) := fun i m K h1 h2 => Wv.dec_chg b HIB.out i m K h1 h2
  have HFC : Hid (∀ i, i < (Wv.frameB b).length → Wv.dec ((Wv.frameB b).take i) = none) := fun i hi => Wv.dec_cut b HIB.out i hi
  have HFM : Hid (∀ x, Wv.dec (Wv.frameB b ++ [x]) = none) := fun x => Wv.dec_more b HIB.out x
  go_enter Tryd.func5, Tryd.ntmps5
  go_wp2_with fail
  generalize w.alloc (.cells #[I m0, I m1, I m2, I m3] 47) = wA at *
  refine HM.out.mono ?_
  rintro e w1 ⟨ca, ea, cc, ec, ms, rfl, hbat, hb1'⟩
  have hb1 : Below w.heap.size w w1 := HBA0.out.trans (hb1'.mono HBA0.out.size)
  have HKM1 : Hid (Blk w1 w.heap.size #[I m0, I m1, I m2, I m3] 47) := HKM0.out.kept hb1' HKM0.out.lt
  obtain ⟨p1, q1, p2, q2, rfl, rfl, _, _⟩ := bat_some hbat hcl hel
  have HB1 : Hid (Below w.heap.size w (w1.alloc (.cells #[I b.o, I b.s, I b.t, .slice (some ⟨p1, q1, none⟩) b.clock.length cc, .slice (some ⟨p2, q2, none⟩) b.effs.length ec] 25))) := hb1.alloc hb1.size _
  have HBA : Hid (BatAt (w1.alloc (.cells #[I b.o, I b.s, I b.t, .slice (some ⟨p1, q1, none⟩) b.clock.length cc, .slice (some ⟨p2, q2, none⟩) b.effs.length ec] 25)) b (some ⟨p1, q1, none⟩) (some ⟨p2, q2, none⟩) ms) := hbat.kept ((Below.refl _ _).alloc (Nat.le_refl _) _)
  have HKB : Hid (Blk (w1.alloc (.cells #[I b.o, I b.s, I b.t, .slice (some ⟨p1, q1, none⟩) b.clock.length cc, .slice (some ⟨p2, q2, none⟩) b.effs.length ec] 25)) w1.heap.size #[I b.o, I b.s, I b.t, .slice (some ⟨p1, q1, none⟩) b.clock.length cc, .slice (some ⟨p2, q2, none⟩) b.effs.length ec] 25) := heap_alloc_new w1 _
  have HMD : Hid (∀ m ∈ ms, m.e.dots.length ≤ 150) := fun m hm => HSM.out.2.2 m.e (by rw [hbat.effs]; exact List.mem_map_of_mem hm)
  have HKM : Hid (Blk (w1.alloc (.cells #[I b.o, I b.s, I b.t, .slice (some ⟨p1, q1, none⟩) b.clock.length cc, .slice (some ⟨p2, q2, none⟩) b.effs.length ec] 25)) w.heap.size #[I m0, I m1, I m2, I m3] 47) := HKM1.out.alloc _
  clear HM hbat hb1 hb1' HKM0 HKM1 HBA0
  go_wp2_with fail
  generalize w1.alloc (.cells #[I b.o, I b.s, I b.t, .slice (some ⟨p1, q1, none⟩) b.clock.length cc, .slice (some ⟨p2, q2, none⟩) b.effs.length ec] 25) = w2 at *
  have hS : encS b = Wv.frameB b := by simp [encS, HIB.out]
  have hE : encE b = 0 := by simp [encE, HIB.out]
  refine (wencode_any b (some ⟨p1, q1, none⟩) (some ⟨p2, q2, none⟩) cc ec ms w2 eb ef hI (GL.out _ HB1.out) (HP.out _ HB1.out) HBA.out (by have := HSM.out.1; omega) (by have := HSM.out.2.1; omega) (fun m hm => by have := HMD.out m hm; omega)).mono ?_
  rw [hS, hE]
  rintro e w3 ⟨rfl, hb3⟩
  have HB3 : Hid (Below w.heap.size w w3) := HB1.out.trans (hb3.mono HB1.out.size)
  have HBA3 : Hid (BatAt w3 b (some ⟨p1, q1, none⟩) (some ⟨p2, q2, none⟩) ms) := HBA.out.kept hb3
  have HKB3 : Hid (Blk w3 w1.heap.size #[I b.o, I b.s, I b.t, .slice (some ⟨p1, q1, none⟩) b.clock.length cc, .slice (some ⟨p2, q2, none⟩) b.effs.length ec] 25) := HKB.out.kept hb3 HKB.out.lt
  have HKM3 : Hid (Blk w3 w.heap.size #[I m0, I m1, I m2, I m3] 47) := HKM.out.kept hb3 HKM.out.lt
  clear HB1 HBA HKB HKM hb3 hS hE
  generalize Wv.frameB b = l at *
  go_wp2_with fail
  refine (wdec_some l b w3 eb ef hI (GL.out _ HB3.out) (HP.out _ HB3.out) (GD.out _ HB3.out) HDF.out).mono ?_
  rintro e w4 ⟨⟨ca2, ea2, cc2, ec2, ms2, rfl, hef2, hob2⟩, hb4⟩
  have hbat2 : BatAt w4 b ca2 ea2 ms2 := hob2.bat hef2
  obtain ⟨p3, q3, p4, q4, rfl, rfl, _, _⟩ := bat_some hbat2 hcl hel
  have hb4' : Below w3.heap.size w3 (w4.alloc (.cells #[I b.o, I b.s, I b.t, .slice (some ⟨p3, q3, none⟩) b.clock.length cc2, .slice (some ⟨p4, q4, none⟩) b.effs.length ec2] 25)) := hb4.alloc hb4.size _
  have HB5 : Hid (Below w.heap.size w (w4.alloc (.cells #[I b.o, I b.s, I b.t, .slice (some ⟨p3, q3, none⟩) b.clock.length cc2, .slice (some ⟨p4, q4, none⟩) b.effs.length ec2] 25))) := HB3.out.trans (hb4'.mono HB3.out.size)
  have HBA5 : Hid (BatAt (w4.alloc (.cells #[I b.o, I b.s, I b.t, .slice (some ⟨p3, q3, none⟩) b.clock.length cc2, .slice (some ⟨p4, q4, none⟩) b.effs.length ec2] 25)) b (some ⟨p1, q1, none⟩) (some ⟨p2, q2, none⟩) ms) := HBA3.out.kept hb4'
  have HBC5 : Hid (BatAt (w4.alloc (.cells #[I b.o, I b.s, I b.t, .slice (some ⟨p3, q3, none⟩) b.clock.length cc2, .slice (some ⟨p4, q4, none⟩) b.effs.length ec2] 25)) b (some ⟨p3, q3, none⟩) (some ⟨p4, q4, none⟩) ms2) := hbat2.kept ((Below.refl _ _).alloc (Nat.le_refl _) _)
  have HKB5 : Hid (Blk (w4.alloc (.cells #[I b.o, I b.s, I b.t, .slice (some ⟨p3, q3, none⟩) b.clock.length cc2, .slice (some ⟨p4, q4, none⟩) b.effs.length ec2] 25)) w1.heap.size #[I b.o, I b.s, I b.t, .slice (some ⟨p1, q1, none⟩) b.clock.length cc, .slice (some ⟨p2, q2, none⟩) b.effs.length ec] 25) := HKB3.out.kept hb4' HKB3.out.lt
  have HKM5 : Hid (Blk (w4.alloc (.cells #[I b.o, I b.s, I b.t, .slice (some ⟨p3, q3, none⟩) b.clock.length cc2, .slice (some ⟨p4, q4, none⟩) b.effs.length ec2] 25)) w.heap.size #[I m0, I m1, I m2, I m3] 47) := HKM3.out.kept hb4' HKM3.out.lt
  have x0 : (w4.alloc (.cells #[I b.o, I b.s, I b.t, .slice (some ⟨p3, q3, none⟩) b.clock.length cc2, .slice (some ⟨p4, q4, none⟩) b.effs.length ec2] 25)).cell? ⟨w1.heap.size, 0, none⟩ = some (I b.o) := HKB5.out.cell 0
  have x1 : (w4.alloc (.cells #[I b.o, I b.s, I b.t, .slice (some ⟨p3, q3, none⟩) b.clock.length cc2, .slice (some ⟨p4, q4, none⟩) b.effs.length ec2] 25)).cell? ⟨w1.heap.size, 1, none⟩ = some (I b.s) := HKB5.out.cell 1
  have x2 : (w4.alloc (.cells #[I b.o, I b.s, I b.t, .slice (some ⟨p3, q3, none⟩) b.clock.length cc2, .slice (some ⟨p4, q4, none⟩) b.effs.length ec2] 25)).cell? ⟨w1.heap.size, 2, none⟩ = some (I b.t) := HKB5.out.cell 2
  have x3 : (w4.alloc (.cells #[I b.o, I b.s, I b.t, .slice (some ⟨p3, q3, none⟩) b.clock.length cc2, .slice (some ⟨p4, q4, none⟩) b.effs.length ec2] 25)).cell? ⟨w1.heap.size, 3, none⟩ = some (.slice (some ⟨p1, q1, none⟩) b.clock.length cc) := HKB5.out.cell 3
  have x4 : (w4.alloc (.cells #[I b.o, I b.s, I b.t, .slice (some ⟨p3, q3, none⟩) b.clock.length cc2, .slice (some ⟨p4, q4, none⟩) b.effs.length ec2] 25)).cell? ⟨w1.heap.size, 4, none⟩ = some (.slice (some ⟨p2, q2, none⟩) b.effs.length ec) := HKB5.out.cell 4
  clear HB3 HBA3 HKB3 HKM3 hb4 hb4' hob2 hef2 hbat2
  go_wp2_with fail
  clear x0 x1 x2 x3 x4
  generalize w4.alloc (.cells #[I b.o, I b.s, I b.t, .slice (some ⟨p3, q3, none⟩) b.clock.length cc2, .slice (some ⟨p4, q4, none⟩) b.effs.length ec2] 25) = w5 at *
  obtain ⟨_, _, _, _, ee1, ee2, k1, e1⟩ := bat_some HBA5.out hcl hel
  cases ee1
  cases ee2
  obtain ⟨_, _, _, _, ee1, ee2, k2, e2⟩ := bat_some HBC5.out hcl hel
  cases ee1
  cases ee2
  refine (same_any b p1 q1 p2 q2 p3 q3 p4 q4 cc ec cc2 ec2 ms ms2 w5 HBA5.out HBC5.out (by have := HSM.out.1; omega) (by have := HSM.out.2.1; omega) (fun m hm => by have := HMD.out m hm; omega) k1 k2 e1 e2).mono ?_
  rintro e w6 ⟨rfl, hb6⟩
  have HB6 : Hid (Below w.heap.size w w6) := HB5.out.trans (hb6.mono HB5.out.size)
  have HKM6 : Hid (Blk w6 w.heap.size #[I m0, I m1, I m2, I m3] 47) := HKM5.out.kept hb6 HKM5.out.lt
  clear HB5 HBA5 HBC5 HKB5 HKM5 hb6 k1 k2 e1 e2 HMD HSM
  have hne : l.isEmpty = false := by
    cases l with
    | nil => simp at hL1
    | cons _ _ => rfl
  go_wp2_with fail
  refine (pick_any at' _ w6 ha ⟨by omega, by omega⟩).mono ?_
  rintro e w7 ⟨rfl, hw7⟩
  rw [hw7]
  clear hw7 w7
  have hip := Wv.pk_lt at' (l.length : Int) (by omega)
  obtain ⟨i, hii⟩ := Int.eq_ofNat_of_zero_le hip.1
  rw [hii] at hip ⊢
  have HII : Hid (Wv.pk at' (l.length : Int) = i) := hii
  clear hii
  have hcv : (convert 9 50 (.string ⟨l.toArray⟩)).run Tryd.prog w6 = .ok (.slice (some ⟨w6.heap.size, 0, none⟩) l.length (grownCap w6 l.length 0 5)) (Lib.bytesWorld w6 5 ⟨l.toArray⟩) := Lib.run_convert_string_bytes w6 _ _ _ _ Tryd.underlying9 Tryd.underlying50 Tryd.underlying5
  have TB7 : Hid (Tb (Lib.bytesWorld w6 5 ⟨l.toArray⟩) w6.heap.size l) := Tb.begin w6 l
  have BB7 : Below w6.heap.size w6 (Lib.bytesWorld w6 5 ⟨l.toArray⟩) := bytes_below w6 _ _
  have HB7 : Hid (Below w.heap.size w (Lib.bytesWorld w6 5 ⟨l.toArray⟩)) := HB6.out.trans (BB7.mono HB6.out.size)
  have HKM7 : Hid (Blk (Lib.bytesWorld w6 5 ⟨l.toArray⟩) w.heap.size #[I m0, I m1, I m2, I m3] 47) := HKM6.out.kept BB7 HKM6.out.lt
  have hTg : w.heap.size < w6.heap.size := HKM6.out.lt
  clear HB6 HKM6 BB7
  have hmk : ∃ mk : Nat → UInt8, mk = (fun k => UInt8.ofNat (Wv.pk ([m0, m1, m2, m3].getD k 0) 256).toNat) := ⟨_, rfl⟩
  obtain ⟨mk, hmk⟩ := hmk
  have HMK : Hid (∀ k, mk k = UInt8.ofNat (Wv.pk ([m0, m1, m2, m3].getD k 0) 256).toNat) := fun k => by rw [hmk]
  clear hmk
  have hmk : ∃ mk : Nat → UInt8, mk = (fun k => UInt8.ofNat (Wv.pk ([m0, m1, m2, m3].getD k 0) 256).toNat) := ⟨_, rfl⟩
  obtain ⟨mk, hmk⟩ := hmk
  have HMK : Hid (∀ k, mk k = UInt8.ofNat (Wv.pk ([m0, m1, m2, m3].getD k 0) 256).toNat) := fun k => by rw [hmk]
  clear hmk
  have hmk : ∃ mk : Nat → UInt8, mk = (fun k => UInt8.ofNat (Wv.pk ([m0, m1, m2, m3].getD k 0) 256).toNat) := ⟨_, rfl⟩
  obtain ⟨mk, hmk⟩ := hmk
  have HMK : Hid (∀ k, mk k = UInt8.ofNat (Wv.pk ([m0, m1, m2, m3].getD k 0) 256).toNat) := fun k => by rw [hmk]
  clear hmk
  have hmk : ∃ mk : Nat → UInt8, mk = (fun k => UInt8.ofNat (Wv.pk ([m0, m1, m2, m3].getD k 0) 256).toNat) := ⟨_, rfl⟩
  obtain ⟨mk, hmk⟩ := hmk
  have HMK : Hid (∀ k, mk k = UInt8.ofNat (Wv.pk ([m0, m1, m2, m3].getD k 0) 256).toNat) := fun k => by rw [hmk]
  clear hmk
  have hmk : ∃ mk : Nat → UInt8, mk = (fun k => UInt8.ofNat (Wv.pk ([m0, m1, m2, m3].getD k 0) 256).toNat) := ⟨_, rfl⟩
  obtain ⟨mk, hmk⟩ := hmk
  have HMK : Hid (∀ k, mk k = UInt8.ofNat (Wv.pk ([m0, m1, m2, m3].getD k 0) 256).toNat) := fun k => by rw [hmk]
  clear hmk
  have hmk : ∃ mk : Nat → UInt8, mk = (fun k => UInt8.ofNat (Wv.pk ([m0, m1, m2, m3].getD k 0) 256).toNat) := ⟨_, rfl⟩
  obtain ⟨mk, hmk⟩ := hmk
  have HMK : Hid (∀ k, mk k = UInt8.ofNat (Wv.pk ([m0, m1, m2, m3].getD k 0) 256).toNat) := fun k => by rw [hmk]
  clear hmk
  have hmk : ∃ mk : Nat → UInt8, mk = (fun k => UInt8.ofNat (Wv.pk ([m0, m1, m2, m3].getD k 0) 256).toNat) := ⟨_, rfl⟩
  obtain ⟨mk, hmk⟩ := hmk
  have HMK : Hid (∀ k, mk k = UInt8.ofNat (Wv.pk ([m0, m1, m2, m3].getD k 0) 256).toNat) := fun k => by rw [hmk]
  clear hmk
  have hmk : ∃ mk : Nat → UInt8, mk = (fun k => UInt8.ofNat (Wv.pk ([m0, m1, m2, m3].getD k 0) 256).toNat) := ⟨_, rfl⟩
  obtain ⟨mk, hmk⟩ := hmk
  have HMK : Hid (∀ k, mk k = UInt8.ofNat (Wv.pk ([m0, m1, m2, m3].getD k 0) 256).toNat) := fun k => by rw [hmk]
  clear hmk
  have hmk : ∃ mk : Nat → UInt8, mk = (fun k => UInt8.ofNat (Wv.pk ([m0, m1, m2, m3].getD k 0) 256).toNat) := ⟨_, rfl⟩
  obtain ⟨mk, hmk⟩ := hmk
  have HMK : Hid (∀ k, mk k = UInt8.ofNat (Wv.pk ([m0, m1, m2, m3].getD k 0) 256).toNat) := fun k => by rw [hmk]
  clear hmk
  have hmk : ∃ mk : Nat → UInt8, mk = (fun k => UInt8.ofNat (Wv.pk ([m0, m1, m2, m3].getD k 0) 256).toNat) := ⟨_, rfl⟩
  obtain ⟨mk, hmk⟩ := hmk
  have HMK : Hid (∀ k, mk k = UInt8.ofNat (Wv.pk ([m0, m1, m2, m3].getD k 0) 256).toNat) := fun k => by rw [hmk]
  clear hmk
  have hmk : ∃ mk : Nat → UInt8, mk = (fun k => UInt8.ofNat (Wv.pk ([m0, m1, m2, m3].getD k 0) 256).toNat) := ⟨_, rfl⟩
  obtain ⟨mk, hmk⟩ := hmk
  have HMK : Hid (∀ k, mk k = UInt8.ofNat (Wv.pk ([m0, m1, m2, m3].getD k 0) 256).toNat) := fun k => by rw [hmk]
  clear hmk
  by_cases hlt : (i : Int) < (l.length : Int) - 4
  · go_wp2_with fail
    obtain ⟨en, hen⟩ : ∃ en : Nat, (l.length : Int) - 4 = en := ⟨l.length - 4, by omega⟩
    rw [hen]
    have hst : Hid (en = Wv.stopAt l.length i) := by show _ = _; unfold Wv.stopAt; rw [if_pos (by omega)]; omega
    have hie : i ≤ en := by omega
    clear hen
    generalize Lib.bytesWorld w6 5 ⟨l.toArray⟩ = wT at *
    go_loopw [23, 25] (fun c x wr => ∃ k : Nat, k ≤ 4 ∧ x = I k ∧ c = .bool (Wv.chd mk k) ∧ Hid (i + k ≤ en) ∧ Hid (Tb wr w6.heap.size (Wv.chg l i mk k)) ∧ Hid (Below w.heap.size w wr) ∧ Hid (Blk wr w.heap.size #[I m0, I m1, I m2, I m3] 47)) (fun _ x _ => 4 - (intOf x).toNat)
    case atStart => exact ⟨0, Nat.zero_le _, rfl, rfl, hie, TB7, HB7, HKM7⟩
    case round =>
      obtain ⟨k, hk4, rfl, rfl, hik, HT, HW, HK⟩ := hrel
      clear TB7 HB7 HKM7
      have hik' := hik.out
      by_cases hc : k < 4 ∧ i + k < en
      · have hc1 : (k : Int) < 4 := by omega
        have hc2 : (i : Int) + (k : Int) < (en : Int) := by omega
        have hcm := HMC.out wr HK.out k hc.1
        have hml := HMI.out k hc.1
        have hmke := HMK.out k
        generalize [m0, m1, m2, m3].getD k 0 = mm at *
        have hlen : i + k < (Wv.chg l i mk k).length := by rw [Wv.chg_len]; omega
        have hcell := HT.out.cell (i + k) hlen
        have hfree := HT.out.free (i + k) hlen
        have hTl := HT.out.lt
        have hr := Wv.pk_lt mm 256 (by decide)
        have HC1 : Hid (Wv.chg l i mk (k + 1) = (Wv.chg l i mk k).set (i + k) ((Wv.chg l i mk k)[i + k] ^^^ mk k)) := by
          show _ = _
          rw [Wv.chg, List.getD_eq_getElem?_getD, List.getElem?_eq_getElem hlen]
          rfl
        have HC2 : Hid (Wv.chd mk (k + 1) = (Wv.chd mk k || mk k != 0)) := rfl
        have HTS : Hid (∀ x, Tb (wr.setCell ⟨w6.heap.size, i + k, none⟩ (B8 x)) w6.heap.size ((Wv.chg l i mk k).set (i + k) x)) := fun x => HT.out.set (i + k) x
        generalize (Wv.chg l i mk k)[i + k] = cb at *
        have hxor := xor_b8 cb (Wv.pk mm 256) hr.1 hr.2
        rw [← hmke] at hxor
        go_wp2_with fail
        refine (pick_any mm 256 _ hml ⟨by decide, by decide⟩).mono ?_
        rintro e w8 ⟨rfl, hw8⟩
        rw [hw8]
        clear hw8 w8
        have hzero : (mk k != 0) = (Wv.pk mm 256 != 0) := by rw [hmke]; exact byte_zero _ hr.1 hr.2
        rw [hzero] at HC2
        generalize Wv.pk mm 256 = M at *
        generalize hcd : Wv.chd mk k = cd at *
        have LT : Hid (Tb (wr.setCell ⟨w6.heap.size, i + k, none⟩ (B8 (cb ^^^ mk k))) w6.heap.size (Wv.chg l i mk (k + 1))) := by
          show Tb _ _ _
          rw [HC1.out]
          exact HTS.out _
        have LW : Hid (Below w.heap.size w (wr.setCell ⟨w6.heap.size, i + k, none⟩ (B8 (cb ^^^ mk k)))) := HW.out.setCell (by show w.heap.size ≤ w6.heap.size; omega) _
        have LK : Hid (Blk (wr.setCell ⟨w6.heap.size, i + k, none⟩ (B8 (cb ^^^ mk k))) w.heap.size #[I m0, I m1, I m2, I m3] 47) := HK.out.other (by show w.heap.size ≠ w6.heap.size; omega) _
        have hz2 := hc.2
        clear HTS HC1 HT HW HK hzero hmke
        by_cases hM0 : M = 0
        all_goals
          (first | (have hxor0 := hxor; rw [hM0] at hxor0) | skip
           cases cd
           all_goals
             (go_wp2_with fail
              go_roundw
              case rel => exact ⟨k + 1, hc.1, by go_num, by rw [HC2.out]; simp [hM0], hz2, LT, LW, LK⟩
              case measure => simp [intOf]; omega))
      · have hil : i < l.length := by omega
        have hcut : (⟨l.toArray⟩ : ByteArray).extract 0 i = ⟨(l.take i).toArray⟩ := by
          apply ByteArray.ext
          simp [ByteArray.data_extract]
        have HDK : Hid (Wv.dec (Wv.chg l i mk k) = if Wv.chd mk k then none else some b) := HFB.out i mk k hk4 (by rw [← hst.out]; exact hik')
        have hlT : (Wv.chg l i mk k).length = l.length := Wv.chg_len _ _ _ _
        have hcs : (convert 50 9 (.slice (some ⟨w6.heap.size, 0, none⟩) l.length (grownCap w6 l.length 0 5))).run Tryd.prog wr = .ok (.string ⟨(Wv.chg l i mk k).toArray⟩) wr := by
          have := conv_cells wr ⟨w6.heap.size, 0, none⟩ (grownCap w6 l.length 0 5) (Wv.chg l i mk k) (fun j u hj => by
            rw [Addr.add_lit, Nat.zero_add]
            have hj' : j < (Wv.chg l i mk k).length := by simpa using (List.getElem?_eq_some_iff.1 hj).1
            rw [HT.out.cell j hj']
            simpa [hj'] using hj)
          rwa [hlT] at this
        generalize Wv.chg l i mk k = tt at *
        generalize Wv.chd mk k = cd at *
        clear HT HK HFB
        have hkk : ¬ ((k : Int) < 4 ∧ (i : Int) + (k : Int) < (en : Int)) := by omega
        by_cases hk1 : (k : Int) < 4
        all_goals
          (first | (have hk2 : ¬ (i : Int) + (k : Int) < (en : Int) := fun h => hkk ⟨hk1, h⟩) | skip
           clear hkk
           go_wp2_with fail
           refine (wdec_any tt wr eb ef hI (GL.out _ HW.out) (HP.out _ HW.out) (GD.out _ HW.out) (by omega)).mono ?_
           rintro e w9 ⟨⟨ca9, ea9, cc9, ec9, ms9, rfl, hq9, hr9⟩, hb9⟩
           clear hq9 hr9
           have HB9 : Hid (Below w.heap.size w w9) := HW.out.trans (hb9.mono HW.out.size)
           have HN9 : Hid (decN tt = if cd then 15 else 0) := by show decN tt = _; unfold decN; rw [HDK.out]; cases cd <;> rfl
           generalize decB tt = b9 at *
           generalize decN tt = n9 at *
           clear hb9 HW hcs HDK
           go_wp2_with fail
           refine (wdec_any (l.take i) _ eb ef hI (GL.out _ (HB9.out.alloc HB9.out.size _)) (HP.out _ (HB9.out.alloc HB9.out.size _)) (GD.out _ (HB9.out.alloc HB9.out.size _)) (by rw [List.length_take]; omega)).mono ?_
           rintro e w10 ⟨⟨ca10, ea10, cc10, ec10, ms10, rfl, hq10, hr10⟩, hb10⟩
           clear hq10 hr10
           have HB10 : Hid (Below w.heap.size w w10) := (HB9.out.alloc HB9.out.size _).trans (hb10.mono (by have := HB9.out.size; simp; omega))
           have hN10 : decN (l.take i) = 15 := by unfold decN; rw [HFC.out i hil]; rfl
           rw [hN10]
           generalize decB (l.take i) = b10 at *
           clear hb10 HB9 hN10
           go_wp2_with fail
           refine (pick_any at' 256 _ ha ⟨by decide, by decide⟩).mono ?_
           rintro e w11 ⟨rfl, hw11⟩
           rw [hw11]
           clear hw11 w11
           have hpr := Wv.pk_lt at' 256 (by decide)
           generalize Wv.pk at' 256 = px at *
           have hcv2 := conv_one (w10.alloc (.cells #[I b10.o, I b10.s, I b10.t, .slice ca10 b10.clock.length cc10, .slice ea10 b10.effs.length ec10] 25)) (w10.heap.size + 1) px (by simp) hpr.1 hpr.2
           generalize UInt8.ofNat px.toNat = bx at *
           have hcat := str_append l [bx]
           have hcat2 : (⟨l.toArray⟩ ++ ⟨#[bx]⟩ : ByteArray) = ⟨(l ++ [bx]).toArray⟩ := hcat
           have hle1 : ¬ 9223372036854775807 < l.length + 1 := by omega
           clear hcat
           go_wp2_with fail
           have HBX : Hid (∀ o o', Below w.heap.size w ((w10.alloc o).alloc o')) := fun o o' => (HB10.out.alloc HB10.out.size o).alloc (by have := HB10.out.size; simp; omega) o'
           refine (wdec_any (l ++ [bx]) _ eb ef hI (GL.out _ (HBX.out _ _)) (HP.out _ (HBX.out _ _)) (GD.out _ (HBX.out _ _)) (by simp; omega)).mono ?_
           rintro e w12 ⟨⟨ca12, ea12, cc12, ec12, ms12, rfl, hq12, hr12⟩, hb12⟩
           clear hq12 hr12
           have HB12 : Hid (Below w.heap.size w w12) := (HBX.out _ _).trans (hb12.mono (by have := HB10.out.size; simp; omega))
           have hN12 : decN (l ++ [bx]) = 15 := by unfold decN; rw [HFM.out]; rfl
           rw [hN12]
           generalize decB (l ++ [bx]) = b12 at *
           have hN9 := HN9.out
           clear hb12 HBX HB10 hN12 HN9 hcv2 hcat2 hcv hcut HFM HFC GL HP GD HMI HMC
           cases cd
           all_goals
             (simp only [Bool.false_eq_true, if_true, if_false] at hN9
              subst hN9
              go_wp2
              go_ret
              exact ⟨rfl, HB12.out.alloc HB12.out.size _⟩))
  · go_wp2_with fail
    have hst : Hid (l.length = Wv.stopAt l.length i) := by show _ = _; unfold Wv.stopAt; rw [if_neg (by omega)]
    have hie : i ≤ l.length := by omega
    generalize Lib.bytesWorld w6 5 ⟨l.toArray⟩ = wT at *
    go_loopw [23, 25] (fun c x wr => ∃ k : Nat, k ≤ 4 ∧ x = I k ∧ c = .bool (Wv.chd mk k) ∧ Hid (i + k ≤ l.length) ∧ Hid (Tb wr w6.heap.size (Wv.chg l i mk k)) ∧ Hid (Below w.heap.size w wr) ∧ Hid (Blk wr w.heap.size #[I m0, I m1, I m2, I m3] 47)) (fun _ x _ => 4 - (intOf x).toNat)
    case atStart => exact ⟨0, Nat.zero_le _, rfl, rfl, hie, TB7, HB7, HKM7⟩
    case round =>
      obtain ⟨k, hk4, rfl, rfl, hik, HT, HW, HK⟩ := hrel
      clear TB7 HB7 HKM7
      have hik' := hik.out
      by_cases hc : k < 4 ∧ i + k < l.length
      · have hc1 : (k : Int) < 4 := by omega
        have hc2 : (i : Int) + (k : Int) < (l.length : Int) := by omega
        have hcm := HMC.out wr HK.out k hc.1
        have hml := HMI.out k hc.1
        have hmke := HMK.out k
        generalize [m0, m1, m2, m3].getD k 0 = mm at *
        have hlen : i + k < (Wv.chg l i mk k).length := by rw [Wv.chg_len]; omega
        have hcell := HT.out.cell (i + k) hlen
        have hfree := HT.out.free (i + k) hlen
        have hTl := HT.out.lt
        have hr := Wv.pk_lt mm 256 (by decide)
        have HC1 : Hid (Wv.chg l i mk (k + 1) = (Wv.chg l i mk k).set (i + k) ((Wv.chg l i mk k)[i + k] ^^^ mk k)) := by
          show _ = _
          rw [Wv.chg, List.getD_eq_getElem?_getD, List.getElem?_eq_getElem hlen]
          rfl
        have HC2 : Hid (Wv.chd mk (k + 1) = (Wv.chd mk k || mk k != 0)) := rfl
        have HTS : Hid (∀ x, Tb (wr.setCell ⟨w6.heap.size, i + k, none⟩ (B8 x)) w6.heap.size ((Wv.chg l i mk k).set (i + k) x)) := fun x => HT.out.set (i + k) x
        generalize (Wv.chg l i mk k)[i + k] = cb at *
        have hxor := xor_b8 cb (Wv.pk mm 256) hr.1 hr.2
        rw [← hmke] at hxor
        go_wp2_with fail
        refine (pick_any mm 256 _ hml ⟨by decide, by decide⟩).mono ?_
        rintro e w8 ⟨rfl, hw8⟩
        rw [hw8]
        clear hw8 w8
        have hzero : (mk k != 0) = (Wv.pk mm 256 != 0) := by rw [hmke]; exact byte_zero _ hr.1 hr.2
        rw [hzero] at HC2
        generalize Wv.pk mm 256 = M at *
        generalize hcd : Wv.chd mk k = cd at *
        have LT : Hid (Tb (wr.setCell ⟨w6.heap.size, i + k, none⟩ (B8 (cb ^^^ mk k))) w6.heap.size (Wv.chg l i mk (k + 1))) := by
          show Tb _ _ _
          rw [HC1.out]
          exact HTS.out _
        have LW : Hid (Below w.heap.size w (wr.setCell ⟨w6.heap.size, i + k, none⟩ (B8 (cb ^^^ mk k)))) := HW.out.setCell (by show w.heap.size ≤ w6.heap.size; omega) _
        have LK : Hid (Blk (wr.setCell ⟨w6.heap.size, i + k, none⟩ (B8 (cb ^^^ mk k))) w.heap.size #[I m0, I m1, I m2, I m3] 47) := HK.out.other (by show w.heap.size ≠ w6.heap.size; omega) _
        have hz2 := hc.2
        clear HTS HC1 HT HW HK hzero hmke
        by_cases hM0 : M = 0
        all_goals
          (first | (have hxor0 := hxor; rw [hM0] at hxor0) | skip
           cases cd
           all_goals
             (go_wp2_with fail
              go_roundw
              case rel => exact ⟨k + 1, hc.1, by go_num, by rw [HC2.out]; simp [hM0], hz2, LT, LW, LK⟩
              case measure => simp [intOf]; omega))
      · have hil : i < l.length := by omega
        have hcut : (⟨l.toArray⟩ : ByteArray).extract 0 i = ⟨(l.take i).toArray⟩ := by
          apply ByteArray.ext
          simp [ByteArray.data_extract]
        have HDK : Hid (Wv.dec (Wv.chg l i mk k) = if Wv.chd mk k then none else some b) := HFB.out i mk k hk4 (by rw [← hst.out]; exact hik')
        have hlT : (Wv.chg l i mk k).length = l.length := Wv.chg_len _ _ _ _
        have hcs : (convert 50 9 (.slice (some ⟨w6.heap.size, 0, none⟩) l.length (grownCap w6 l.length 0 5))).run Tryd.prog wr = .ok (.string ⟨(Wv.chg l i mk k).toArray⟩) wr := by
          have := conv_cells wr ⟨w6.heap.size, 0, none⟩ (grownCap w6 l.length 0 5) (Wv.chg l i mk k) (fun j u hj => by
            rw [Addr.add_lit, Nat.zero_add]
            have hj' : j < (Wv.chg l i mk k).length := by simpa using (List.getElem?_eq_some_iff.1 hj).1
            rw [HT.out.cell j hj']
            simpa [hj'] using hj)
          rwa [hlT] at this
        generalize Wv.chg l i mk k = tt at *
        generalize Wv.chd mk k = cd at *
        clear HT HK HFB
        have hkk : ¬ ((k : Int) < 4 ∧ (i : Int) + (k : Int) < (l.length : Int)) := by omega
        by_cases hk1 : (k : Int) < 4
        all_goals
          (first | (have hk2 : ¬ (i : Int) + (k : Int) < (l.length : Int) := fun h => hkk ⟨hk1, h⟩) | skip
           clear hkk
           go_wp2_with fail
           refine (wdec_any tt wr eb ef hI (GL.out _ HW.out) (HP.out _ HW.out) (GD.out _ HW.out) (by omega)).mono ?_
           rintro e w9 ⟨⟨ca9, ea9, cc9, ec9, ms9, rfl, hq9, hr9⟩, hb9⟩
           clear hq9 hr9
           have HB9 : Hid (Below w.heap.size w w9) := HW.out.trans (hb9.mono HW.out.size)
           have HN9 : Hid (decN tt = if cd then 15 else 0) := by show decN tt = _; unfold decN; rw [HDK.out]; cases cd <;> rfl
           generalize decB tt = b9 at *
           generalize decN tt = n9 at *
           clear hb9 HW hcs HDK
           go_wp2_with fail
           refine (wdec_any (l.take i) _ eb ef hI (GL.out _ (HB9.out.alloc HB9.out.size _)) (HP.out _ (HB9.out.alloc HB9.out.size _)) (GD.out _ (HB9.out.alloc HB9.out.size _)) (by rw [List.length_take]; omega)).mono ?_
           rintro e w10 ⟨⟨ca10, ea10, cc10, ec10, ms10, rfl, hq10, hr10⟩, hb10⟩
           clear hq10 hr10
           have HB10 : Hid (Below w.heap.size w w10) := (HB9.out.alloc HB9.out.size _).trans (hb10.mono (by have := HB9.out.size; simp; omega))
           have hN10 : decN (l.take i) = 15 := by unfold decN; rw [HFC.out i hil]; rfl
           rw [hN10]
           generalize decB (l.take i) = b10 at *
           clear hb10 HB9 hN10
           go_wp2_with fail
           refine (pick_any at' 256 _ ha ⟨by decide, by decide⟩).mono ?_
           rintro e w11 ⟨rfl, hw11⟩
           rw [hw11]
           clear hw11 w11
           have hpr := Wv.pk_lt at' 256 (by decide)
           generalize Wv.pk at' 256 = px at *
           have hcv2 := conv_one (w10.alloc (.cells #[I b10.o, I b10.s, I b10.t, .slice ca10 b10.clock.length cc10, .slice ea10 b10.effs.length ec10] 25)) (w10.heap.size + 1) px (by simp) hpr.1 hpr.2
           generalize UInt8.ofNat px.toNat = bx at *
           have hcat := str_append l [bx]
           have hcat2 : (⟨l.toArray⟩ ++ ⟨#[bx]⟩ : ByteArray) = ⟨(l ++ [bx]).toArray⟩ := hcat
           have hle1 : ¬ 9223372036854775807 < l.length + 1 := by omega
           clear hcat
           go_wp2_with fail
           have HBX : Hid (∀ o o', Below w.heap.size w ((w10.alloc o).alloc o')) := fun o o' => (HB10.out.alloc HB10.out.size o).alloc (by have := HB10.out.size; simp; omega) o'
           refine (wdec_any (l ++ [bx]) _ eb ef hI (GL.out _ (HBX.out _ _)) (HP.out _ (HBX.out _ _)) (GD.out _ (HBX.out _ _)) (by simp; omega)).mono ?_
           rintro e w12 ⟨⟨ca12, ea12, cc12, ec12, ms12, rfl, hq12, hr12⟩, hb12⟩
           clear hq12 hr12
           have HB12 : Hid (Below w.heap.size w w12) := (HBX.out _ _).trans (hb12.mono (by have := HB10.out.size; simp; omega))
           have hN12 : decN (l ++ [bx]) = 15 := by unfold decN; rw [HFM.out]; rfl
           rw [hN12]
           generalize decB (l ++ [bx]) = b12 at *
           have hN9 := HN9.out
           clear hb12 HBX HB10 hN12 HN9 hcv2 hcat2 hcv hcut HFM HFC GL HP GD HMI HMC
           cases cd
           all_goals
             (simp only [Bool.false_eq_true, if_true, if_false] at hN9
              subst hN9
              go_wp2
              go_ret
              exact ⟨rfl, HB12.out.alloc HB12.out.size _⟩))

end Go.Proofs.YtfmcngncaffloaaDoor
