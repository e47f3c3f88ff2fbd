import Derived.Test.YtfmcngncaffloaaDoorRefC
import Derived.Test.YtfmcngncaffloaaDoorRefD
import Derived.Test.YtfmcngncaffloaaDoorRefE
import Derived.Test.YtfmcngncaffloaaDoorRefF
import Derived.Test.YtfmcngncaffloaaDoorRefO
import Derived.Test.YtfmcngncaffloaaDoorSameX
namespace Go.Proofs.YtfmcngncaffloaaDoor
open Go.RowKit
set_option maxRecDepth 100000

theorem isEffect_any (b : Wv.Bt) (ca : Option Addr) (cc ec p q : Nat) (k : Nat) (m : Em) (w : World) (h : At w ca (b.clock.map I)) (hk : k < b.effs.length) (hp : p < w.heap.size)
    (c0 : w.cell? ⟨p, q + k * 7, none⟩ = some (I m.e.op)) (c1 : w.cell? ⟨p, q + k * 7 + 1, none⟩ = some (I m.e.ob)) (c2 : w.cell? ⟨p, q + k * 7 + 2, none⟩ = some (I m.e.va)) (c3 : w.cell? ⟨p, q + k * 7 + 3, none⟩ = some (I m.e.ref.o)) (c4 : w.cell? ⟨p, q + k * 7 + 4, none⟩ = some (I m.e.ref.s)) (c5 : w.cell? ⟨p, q + k * 7 + 5, none⟩ = some (I m.e.ref.i)) (c6 : w.cell? ⟨p, q + k * 7 + 6, none⟩ = some (.slice m.da m.e.dots.length m.dc)) (hd : At w m.da (flat dotCells m.e.dots)) :
    Calls Tryd.prog 38 #[bV b ca (some ⟨p, q, none⟩) cc ec, I k] w fun e w' => e = .returned (.bool (Wv.effOk b k m.e)) ∧ Below w.heap.size w w' := by
  have ho : m.e.op = 1 ∨ m.e.op = 2 ∨ m.e.op = 3 ∨ m.e.op = 4 ∨ m.e.op = 5 ∨ m.e.op = 6 ∨ ¬ (1 ≤ m.e.op ∧ m.e.op ≤ 6) := by omega
  rcases ho with ho | ho | ho | ho | ho | ho | ho
  · exact isEffect_1 b ca cc ec p q k m w h hk hp c0 c1 c2 c3 c4 c5 c6 ho
  · exact isEffect_2 b ca cc ec p q k m w h hk hp c0 c1 c2 c3 c4 c5 c6 ho
  · exact isEffect_3 b ca cc ec p q k m w h hk hp c0 c1 c2 c3 c4 c5 c6 ho hd
  · exact isEffect_4 b ca cc ec p q k m w h hk hp c0 c1 c2 c3 c4 c5 c6 ho hd
  · exact isEffect_5 b ca cc ec p q k m w h hk hp c0 c1 c2 c3 c4 c5 c6 ho
  · exact isEffect_6 b ca cc ec p q k m w h hk hp c0 c1 c2 c3 c4 c5 c6 ho
  · exact isEffect_0 b ca cc ec p q k m w hk hp c0 c1 c2 c3 c4 c5 c6 ho

end Go.Proofs.YtfmcngncaffloaaDoor
