import Derived.Test.YtfmcngncaffloaaDoorPlain3
namespace Go.Proofs.YtfmcngncaffloaaDoor.Wv

def hd4 (b : Bt) : List UInt8 := be1 b.o ++ be1 b.s ++ be1 b.t ++ be1 b.clock.length
def headB (b : Bt) : List UInt8 := hd4 b ++ b.clock.flatMap be1 ++ be1 b.effs.length
def dotB (d : Dt) : List UInt8 := be1 d.o ++ be1 d.s ++ be1 d.i
def effB (e : Ef) : List UInt8 :=
  be1 e.op ++ be1 e.ob ++ be2 e.va ++ (if rRef e.op = 0 then [] else dotB e.ref) ++ (if 0 < rMostD e.op then be1 e.dots.length ++ e.dots.flatMap dotB else [])
def contentB (b : Bt) : List UInt8 := headB b ++ b.effs.flatMap effB
def bodyB (b : Bt) : List UInt8 := be2 ((contentB b).length + 6) ++ contentB b
def frameB (b : Bt) : List UInt8 := bodyB b ++ be4 (sum (bodyB b))
theorem be1_len (n : Int) : (be1 n).length = 1 := rfl
theorem flat1_len (zs : List Int) : (zs.flatMap be1).length = zs.length := by
  induction zs with
  | nil => rfl
  | cons z zs ih => simp [List.flatMap_cons, be1_len, ih]; omega
theorem dotB_len (d : Dt) : (dotB d).length = 3 := rfl
theorem dots_len (ds : List Dt) : (ds.flatMap dotB).length = 3 * ds.length := by
  induction ds with
  | nil => rfl
  | cons z zs ih => simp [List.flatMap_cons, dotB_len, ih]; omega
theorem take_flat {α : Type} (f : α → List UInt8) (l : List α) (k : Nat) (h : k < l.length) : (l.take (k + 1)).flatMap f = (l.take k).flatMap f ++ f l[k] := by
  rw [List.take_succ_eq_append_getElem h, List.flatMap_append]; simp
theorem effB_len (e : Ef) (h : e.dots.length ≤ 150) : (effB e).length ≤ 500 := by
  have := dots_len e.dots
  unfold effB
  simp only [List.length_append, be1_len]
  have h2 : (be2 e.va).length = 2 := rfl
  split <;> split <;> simp only [List.length_append, List.length_nil, dotB_len, be1_len, dots_len] <;> omega

end Go.Proofs.YtfmcngncaffloaaDoor.Wv
