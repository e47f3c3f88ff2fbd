import Derived.Test.YtfmcngncaffloaaDoorEnc
import Derived.Test.YtfmcngncaffloaaDoorDkB
namespace Go.Proofs.YtfmcngncaffloaaDoor
open Go.RowKit
set_option maxRecDepth 100000

/-- What Encode answers. -/
def encS (b : Wv.Bt) : List UInt8 := if Wv.isB b then Wv.frameB b else []
def encE (b : Wv.Bt) : Int := if Wv.isB b then 0 else 16

set_option maxHeartbeats 800000 in
theorem wencode_any (b : Wv.Bt) (ca ea : Option Addr) (cc ec : Nat) (ms : List Em) (w : World) (eb ef : Addr) (hI : ItoaSaid) (g : Gl w eb ef) (hp : Pw w) (h : BatAt w b ca ea ms) (hn : b.clock.length ≤ 9223372036854775807) (hn' : b.effs.length ≤ 9223372036854775807) (hd : ∀ m ∈ ms, m.e.dots.length ≤ 9223372036854775807) :
    Calls Tryd.prog 7 #[bV b ca ea cc ec] w fun e w' => e = .returned (.tuple #[.string ⟨(encS b).toArray⟩, I (encE b)]) ∧ Below w.heap.size w w' := by
  have hpw' : Hid (Pw w) := hp
  have g' : Hid (Gl w eb ef) := g
  have h' : Hid (BatAt w b ca ea ms) := h
  have hd' : Hid (∀ m ∈ ms, m.e.dots.length ≤ 9223372036854775807) := hd
  have HB : Hid (Below w.heap.size w (w.alloc (.cells #[I b.o, I b.s, I b.t, .slice ca b.clock.length cc, .slice ea b.effs.length ec] 25))) := (Below.refl _ _).alloc (Nat.le_refl _) _
  clear g hp h hd
  cases hb : Wv.isB b
  · have HF : Hid (Wv.isB b = false) := hb
    have hS : encS b = [] := by simp [encS, hb]
    have hE : encE b = 16 := by simp [encE, hb]
    rw [hS, hE]
    clear hb hS hE
    go_enter Tryd.func7, Tryd.ntmps7
    go_wp2_with fail
    refine (fencode_no b ca ea cc ec ms _ eb ef hI (g'.out.kept HB.out) (hpw'.out.kept HB.out) (h'.out.kept HB.out) hn hn' hd'.out HF.out).mono ?_
    rintro e w1 ⟨⟨T, x, rfl, hv⟩, hb1⟩
    have HB1 : Hid (Below w.heap.size w w1) := HB.out.trans (hb1.mono (by simp))
    have HV : Hid (IsFault2 eb (.iface T x)) := hv
    clear hv hb1
    go_wp2_with (first | (go_at_call 21; refine (errno_fault T x _ eb ef ?_ HV.out).mono ?_; exact g'.out.kept HB1.out; rintro e w2 ⟨rfl, hb2⟩))
    go_ret2
    exact ⟨rfl, HB1.out.trans (hb2.mono (by have := HB1.out.size; omega))⟩
  · have HF : Hid (Wv.isB b = true) := hb
    have hS : encS b = Wv.frameB b := by simp [encS, hb]
    have hE : encE b = 0 := by simp [encE, hb]
    rw [hS, hE]
    clear hb hS hE
    go_enter Tryd.func7, Tryd.ntmps7
    go_wp2_with fail
    refine (fencode_yes b ca ea cc ec ms _ eb ef hI (g'.out.kept HB.out) (hpw'.out.kept HB.out) (h'.out.kept HB.out) HF.out).mono ?_
    rintro e w1 ⟨rfl, hb1⟩
    have HB1 : Hid (Below w.heap.size w w1) := HB.out.trans (hb1.mono (by simp))
    clear hb1
    go_wp2_with (first | (go_at_call 21; refine (errno_nil _).mono ?_; rintro e w2 ⟨rfl, h⟩; subst h))
    go_ret2
    exact ⟨rfl, HB1.out⟩

end Go.Proofs.YtfmcngncaffloaaDoor
