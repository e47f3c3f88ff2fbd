import Derived.Test.YtfmcngncaffloaaGreatDoorG30DecE
import Derived.Test.YtfmcngncaffloaaGreatDoorG32DecH
import Derived.Test.YtfmcngncaffloaaGreatDoorG31DecG
import Derived.Test.YtfmcngncaffloaaGreatDoorG23Check
import Derived.Deep.QuietTactic
import Derived.BigQuiet
namespace Go.Proofs.YtfmcngncaffloaaGreatDoor.Wv

theorem two_first (l : List UInt8) (h : 2 ≤ l.length) : two true l (some 0) = num2 l := by
  simp [two, one, nxt, num2, show 0 < l.length by omega, show 1 < l.length by omega]
theorem nxt_first (l : List UInt8) (h : 2 ≤ l.length) : nxt2 l (some 0) = some 2 := by
  simp [nxt2, nxt, show 0 < l.length by omega, show 1 < l.length by omega]
theorem num2_le (l : List UInt8) : 0 ≤ num2 l ∧ num2 l ≤ 65535 := by
  have h1 := byte_lt (l.getD 0 0)
  have h2 := byte_lt (l.getD 1 0)
  unfold num2
  omega

end Go.Proofs.YtfmcngncaffloaaGreatDoor.Wv
namespace Go.Proofs.YtfmcngncaffloaaGreatDoor
open Go.RowKit
set_option maxRecDepth 100000

/-- What open asks of the bytes. -/
def opens (l : List UInt8) : Prop := 4 ≤ l.length ∧ Wv.num2 l = l.length ∧ Wv.tail4 l = Wv.be4 (Wv.sum (Wv.body l) : Nat)

set_option maxHeartbeats 800000 in
theorem fopen_yes (l : List UInt8) (w : World) (g0 : Gd w) (ho : opens l) :
    Calls Tryz.prog 164 #[.string ⟨l.toArray⟩] w fun e w' => e = .returned (.tuple #[.pointer (some ⟨w.heap.size, 0, none⟩), .nilIface]) ∧ Rd w' w.heap.size (Wv.body l) (some 2) ∧ Below w.heap.size w w' := by
  obtain ⟨h4, hn, ht⟩ := ho
  have G0 : Hid (Gd w) := g0
  have hs := str_size l
  have h6 : l.length ≤ 65535 := by have := (Wv.num2_le l).2; omega
  have HR : Hid (Rd (w.alloc (.cells #[.string ⟨l.toArray⟩, I 0, .nilIface] 252)) w.heap.size l (some 0)) := heap_alloc_new w _
  have HB : Hid (Below w.heap.size w (w.alloc (.cells #[.string ⟨l.toArray⟩, I 0, .nilIface] 252))) := (Below.refl _ _).alloc (Nat.le_refl _) _
  have HQ : Hid (Wv.nxt2 l (some 0) = some 2) := Wv.nxt_first l (by omega)
  have HT : Hid (Wv.two true l (some 0) = (l.length : Int)) := (Wv.two_first l (by omega)).trans hn
  have HS : Hid (∀ w1 : World, Calls Tryz.prog 168 #[.string ⟨l.toArray⟩] w1 fun e w' => e = .returned (.tuple #[.string ⟨(Wv.body l).toArray⟩, .bool true]) ∧ Below w1.heap.size w1 w') := fun w1 => sopen_yes l w1 h4 h6 ht
  clear g0 hn ht
  go_enter Tryz.func164, Tryz.ntmps164
  go_wp2_with fail
  refine (rtwo_any l (some 0) w.heap.size _ w G0.out HB.out (Nat.le_refl _) HR.out (by omega)).mono ?_
  rintro e w1 ⟨rfl, hR, hG⟩
  rw [HQ.out] at hR
  rw [HT.out]
  have HB1 : Hid (Below w.heap.size w w1) := below_g HB.out hG (Nat.le_refl _)
  have HK : Hid (Blk w1 w.heap.size #[.string ⟨l.toArray⟩, I 2, .nilIface] 252) := hR
  have c2 : w1.cell? ⟨w.heap.size, 2, none⟩ = some .nilIface := HK.out.cell 2
  clear hR hG HR
  go_wp2_with fail
  refine (HS.out _).mono ?_
  rintro e w2 ⟨rfl, hb2⟩
  have HB2 : Hid (Below w.heap.size w w2) := HB1.out.trans (hb2.mono HB1.out.size)
  have HK2 : Hid (Blk w2 w.heap.size #[.string ⟨l.toArray⟩, I 2, .nilIface] 252) := HK.out.kept hb2 HK.out.lt
  have c0 : w2.cell? ⟨w.heap.size, 0, none⟩ = some (.string ⟨l.toArray⟩) := HK2.out.cell 0
  have z0 := HK2.out.frozen 0
  clear hb2 c2
  go_wp2
  go_ret2
  exact ⟨rfl, HK2.out.set 0 _, HB2.out.setCell (Nat.le_refl _) _⟩

end Go.Proofs.YtfmcngncaffloaaGreatDoor

namespace Go.Proofs.YtfmcngncaffloaaGreatDoor
open Go.RowKit
set_option maxRecDepth 100000

abbrev zeroBat : Value := .agg #[I 0, I 0, I 0, .slice none 0 0, .slice none 0 0]
theorem own_at' {w : World} {base : Nat} {e : TypeId} {size n c : Nat} {a : Option Addr} {xs : List Value} (h : w.ownsRow base e size (.slice a n c) n xs) : At w a xs := by
  rcases h.2 with ⟨h2, hn⟩ | ⟨g, cap, cur, hv, _⟩
  · have : xs = [] := by have := h.1; rw [hn, Nat.zero_mul] at this; exact List.eq_nil_of_length_eq_zero this
    subst this
    intro j u hj
    simp at hj
  · cases hv
    exact own_at h
theorem OwB.bat {w : World} {base : Nat} {b : Wv.Bt} {ca ea : Option Addr} {cc ec : Nat} {ms : List Em} (h : OwB w base (.slice ca b.clock.length cc) (.slice ea b.effs.length ec) b.clock ms) (he : b.effs = ms.map (·.e)) : BatAt w b ca ea ms := by
  refine ⟨own_at' h.clock, he, ?_, fun m hm => own_at' (h.dots m hm)⟩
  have := h.cells
  have hl : b.effs.length = ms.length := by rw [he]; simp
  rw [hl] at this
  exact own_at' this

/-- The decoding under way: the answer's block, the batch's, its lists. -/
structure Dw (w wA wi : World) (D base : Nat) (b : Wv.Bt) (ca ea : Option Addr) (cc ec : Nat) (ms : List Em) : Prop where
  below : Below wA.heap.size wA wi
  kR : Blk wi w.heap.size #[.int .i64 0, .int .i64 0, .int .i64 0, .slice none 0 0, .slice none 0 0] 124
  kD : Blk wi D #[I b.o, I b.s, I b.t, .slice ca b.clock.length cc, .slice ea b.effs.length ec] 124
  ob : OwB wi base (.slice ca b.clock.length cc) (.slice ea b.effs.length ec) b.clock ms
  lt : w.heap.size < wA.heap.size
  ltb : wA.heap.size < base
  ltD : wA.heap.size < D
theorem Dw.kept {w wA wi wj : World} {D base : Nat} {b : Wv.Bt} {ca ea : Option Addr} {cc ec : Nat} {ms : List Em} (h : Dw w wA wi D base b ca ea cc ec ms) (hb : Below wi.heap.size wi wj) : Dw w wA wj D base b ca ea cc ec ms :=
  ⟨h.below.trans (hb.mono h.below.size), h.kR.kept hb h.kR.lt, h.kD.kept hb h.kD.lt, h.ob.kept (fun b h1 _ => hb.block b h1), h.lt, h.ltb, h.ltD⟩
theorem Dw.drewN {w wA wi : World} {D base : Nat} {b : Wv.Bt} {ca ea : Option Addr} {cc ec : Nat} {ms : List Em} (h : Dw w wA wi D base b ca ea cc ec ms) (n : Nat) : Dw w wA (wi.drewN n) D base b ca ea cc ec ms :=
  h.kept (belowN (Below.refl _ _) n)
theorem Dw.read {w wA wi wj : World} {D base : Nat} {b : Wv.Bt} {ca ea : Option Addr} {cc ec : Nat} {ms : List Em} (h : Dw w wA wi D base b ca ea cc ec ms) (hg : wi.grownBy wj (some wA.heap.size)) : Dw w wA wj D base b ca ea cc ec ms := by
  have h1 := h.lt
  have h2 := h.ltb
  have h3 := h.ltD
  exact ⟨below_g h.below hg (Nat.le_refl _), h.kR.grown hg (by simp; omega), h.kD.grown hg (by simp; omega), h.ob.kept (fun b hb1 hb2 => hg.block b hb1 (by simp; omega)), h1, h2, h3⟩
theorem Rd.drewN {w : World} {g : Nat} {c : List UInt8} {q : Wv.St} (h : Rd w g c q) (n : Nat) : Rd (w.drewN n) g c q := by
  cases q with
  | some k => exact h
  | none => obtain ⟨b, n, y, h⟩ := h; exact ⟨b, n, y, h⟩

theorem effF_dots (c : List UInt8) (q : Wv.St) : (Wv.effF true c q).1.dots.length ≤ 255 := by
  show (Wv.effD true c q).1.length ≤ 255
  unfold Wv.effD
  split
  · rw [Wv.run_len]; have := Wv.one_lt c (Wv.eff6 true c q); omega
  · simp
theorem run_mem {α : Type} (F : Wv.St → α × Wv.St) (P : α → Prop) (hF : ∀ q, P (F q).1) : ∀ (n : Nat) (q : Wv.St), ∀ e ∈ (Wv.run F n q).1, P e
  | 0, _, _, h => by cases h
  | n + 1, q, e, h => by
    rw [Wv.run, List.mem_append, List.mem_singleton] at h
    rcases h with h | rfl
    · exact run_mem F P hF n q e h
    · exact hF _
theorem batF_sizes (c : List UInt8) (q : Wv.St) : (Wv.batF true c q).1.clock.length ≤ 9223372036854775807 ∧ (Wv.batF true c q).1.effs.length ≤ 9223372036854775807 ∧ ∀ e ∈ (Wv.batF true c q).1.effs, e.dots.length ≤ 9223372036854775807 := by
  refine ⟨?_, ?_, ?_⟩
  · show (Wv.batC c q).1.length ≤ _
    unfold Wv.batC
    rw [Wv.run_len]; have := Wv.one_lt c (Wv.nxt3 c q); omega
  · show (Wv.batE true c q).1.length ≤ _
    unfold Wv.batE
    rw [Wv.run_len]; have := Wv.one_lt c (Wv.batC c q).2; omega
  · exact run_mem _ _ (fun q => by have := effF_dots c q; omega) _ _

end Go.Proofs.YtfmcngncaffloaaGreatDoor

namespace Go.Proofs.YtfmcngncaffloaaGreatDoor
open Go.RowKit
set_option maxRecDepth 100000

end Go.Proofs.YtfmcngncaffloaaGreatDoor
