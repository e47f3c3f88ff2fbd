import Derived.Test.YtfmcngncaffloaaGreatDoorG28DecE
import Derived.Test.YtfmcngncaffloaaGreatDoorG30DecH
import Derived.Test.YtfmcngncaffloaaGreatDoorG29DecG
import Derived.Test.YtfmcngncaffloaaGreatDoorG21Check
import Derived.Deep.QuietTactic
import Derived.BigQuiet
namespace Go.Proofs.YtfmcngncaffloaaGreatDoor.Wv

end Go.Proofs.YtfmcngncaffloaaGreatDoor.Wv
namespace Go.Proofs.YtfmcngncaffloaaGreatDoor
open Go.RowKit
set_option maxRecDepth 100000

/-- What open asks of the bytes. -/
def opens (l : List UInt8) : Prop := 4 ≤ l.length ∧ Wv.num2 l = l.length ∧ Wv.tail4 l = Wv.be4 (Wv.sum (Wv.body l) : Nat)

end Go.Proofs.YtfmcngncaffloaaGreatDoor

namespace Go.Proofs.YtfmcngncaffloaaGreatDoor
open Go.RowKit
set_option maxRecDepth 100000

abbrev zeroBat : Value := .agg #[I 0, I 0, I 0, .slice none 0 0, .slice none 0 0]
theorem own_at' {w : World} {base : Nat} {e : TypeId} {size n c : Nat} {a : Option Addr} {xs : List Value} (h : w.ownsRow base e size (.slice a n c) n xs) : At w a xs := by
  rcases h.2 with ⟨h2, hn⟩ | ⟨g, cap, cur, hv, _⟩
  · have : xs = [] := by have := h.1; rw [hn, Nat.zero_mul] at this; exact List.eq_nil_of_length_eq_zero this
    subst this
    intro j u hj
    simp at hj
  · cases hv
    exact own_at h
theorem OwB.bat {w : World} {base : Nat} {b : Wv.Bt} {ca ea : Option Addr} {cc ec : Nat} {ms : List Em} (h : OwB w base (.slice ca b.clock.length cc) (.slice ea b.effs.length ec) b.clock ms) (he : b.effs = ms.map (·.e)) : BatAt w b ca ea ms := by
  refine ⟨own_at' h.clock, he, ?_, fun m hm => own_at' (h.dots m hm)⟩
  have := h.cells
  have hl : b.effs.length = ms.length := by rw [he]; simp
  rw [hl] at this
  exact own_at' this

/-- The decoding under way: the answer's block, the batch's, its lists. -/
structure Dw (w wA wi : World) (D base : Nat) (b : Wv.Bt) (ca ea : Option Addr) (cc ec : Nat) (ms : List Em) : Prop where
  below : Below wA.heap.size wA wi
  kR : Blk wi w.heap.size #[.int .i64 0, .int .i64 0, .int .i64 0, .slice none 0 0, .slice none 0 0] 124
  kD : Blk wi D #[I b.o, I b.s, I b.t, .slice ca b.clock.length cc, .slice ea b.effs.length ec] 124
  ob : OwB wi base (.slice ca b.clock.length cc) (.slice ea b.effs.length ec) b.clock ms
  lt : w.heap.size < wA.heap.size
  ltb : wA.heap.size < base
  ltD : wA.heap.size < D
theorem Dw.kept {w wA wi wj : World} {D base : Nat} {b : Wv.Bt} {ca ea : Option Addr} {cc ec : Nat} {ms : List Em} (h : Dw w wA wi D base b ca ea cc ec ms) (hb : Below wi.heap.size wi wj) : Dw w wA wj D base b ca ea cc ec ms :=
  ⟨h.below.trans (hb.mono h.below.size), h.kR.kept hb h.kR.lt, h.kD.kept hb h.kD.lt, h.ob.kept (fun b h1 _ => hb.block b h1), h.lt, h.ltb, h.ltD⟩
theorem Dw.drewN {w wA wi : World} {D base : Nat} {b : Wv.Bt} {ca ea : Option Addr} {cc ec : Nat} {ms : List Em} (h : Dw w wA wi D base b ca ea cc ec ms) (n : Nat) : Dw w wA (wi.drewN n) D base b ca ea cc ec ms :=
  h.kept (belowN (Below.refl _ _) n)
theorem Dw.read {w wA wi wj : World} {D base : Nat} {b : Wv.Bt} {ca ea : Option Addr} {cc ec : Nat} {ms : List Em} (h : Dw w wA wi D base b ca ea cc ec ms) (hg : wi.grownBy wj (some wA.heap.size)) : Dw w wA wj D base b ca ea cc ec ms := by
  have h1 := h.lt
  have h2 := h.ltb
  have h3 := h.ltD
  exact ⟨below_g h.below hg (Nat.le_refl _), h.kR.grown hg (by simp; omega), h.kD.grown hg (by simp; omega), h.ob.kept (fun b hb1 hb2 => hg.block b hb1 (by simp; omega)), h1, h2, h3⟩
theorem Rd.drewN {w : World} {g : Nat} {c : List UInt8} {q : Wv.St} (h : Rd w g c q) (n : Nat) : Rd (w.drewN n) g c q := by
  cases q with
  | some k => exact h
  | none => obtain ⟨b, n, y, h⟩ := h; exact ⟨b, n, y, h⟩

end Go.Proofs.YtfmcngncaffloaaGreatDoor

namespace Go.Proofs.YtfmcngncaffloaaGreatDoor
open Go.RowKit
set_option maxRecDepth 100000

end Go.Proofs.YtfmcngncaffloaaGreatDoor
