import Derived.Test.YtfmcngncaffloaaGreatDoorG00Plain
namespace Go.Proofs.YtfmcngncaffloaaGreatDoor.Wv

/-- Does the batch cover the dot at its effect number i? -/
def inD (b : Bt) (d : Dt) : Bool := decide (0 ≤ d.o) && decide (d.o < b.clock.length) && decide (1 ≤ d.s) && decide (0 ≤ d.i) && decide (d.i < 5)
def cov (b : Bt) (d : Dt) (i : Int) : Bool :=
  inD b d && (decide (d.s ≤ b.clock.getD d.o.toNat 0) || ((d.o == b.o) && (d.s == b.s) && decide (d.i < i)))
def noneD (d : Dt) : Bool := (d.o == 0) && (d.s == 0) && (d.i == 0)
/-- Is the dot a ahead of b? -/
def lessD (a b : Dt) : Bool := if a.o = b.o then decide (a.s < b.s) || ((a.s == b.s) && decide (a.i < b.i)) else decide (a.o < b.o)

/-- The Dots of an effect: rising, all covered. -/
def dOk (b : Bt) (i : Int) (ds : List Dt) (k : Nat) : Bool := ((k == 0) || lessD (ds.getD (k - 1) ⟨0, 0, 0⟩) (ds.getD k ⟨0, 0, 0⟩)) && cov b (ds.getD k ⟨0, 0, 0⟩) i
def dotsTo (b : Bt) (i : Int) (ds : List Dt) : Nat → Bool
  | 0 => true
  | k + 1 => dotsTo b i ds k && dOk b i ds k
def dotsOk (b : Bt) (i : Int) (ds : List Dt) : Bool := dotsTo b i ds ds.length
/-- The Clock: numbers 0 to 30, of its Origin Seq - 1. -/
def cOk (b : Bt) (k : Nat) : Bool := decide (0 ≤ b.clock.getD k 0) && decide (b.clock.getD k 0 ≤ 30) && (!((k : Int) == b.o) || (b.clock.getD k 0 == b.s - 1))
def clkTo (b : Bt) : Nat → Bool
  | 0 => true
  | k + 1 => clkTo b k && cOk b k
def clkOk (b : Bt) : Bool := clkTo b b.clock.length
def refOk (b : Bt) (i : Int) (d : Dt) (use : Int) : Bool := if noneD d then !(use == 2) else !(use == 0) && cov b d i
def isOp (op : Int) : Bool := decide (1 ≤ op) && decide (op ≤ 6)
/-- May the effect number i be? -/
def effOk (b : Bt) (i : Int) (e : Ef) : Bool :=
  isOp e.op && (decide (0 ≤ e.ob) && decide (e.ob ≤ 7) && (e.ob % 4 == rKind e.op)) && (decide (rLeast e.op ≤ e.va) && decide (e.va ≤ rGreat e.op)) &&
  refOk b i e.ref (rRef e.op) && (decide (rLeastD e.op ≤ e.dots.length) && decide ((e.dots.length : Int) ≤ rMostD e.op)) && dotsOk b i e.dots
def effsTo (b : Bt) : Nat → Bool
  | 0 => true
  | k + 1 => effsTo b k && effOk b k (b.effs.getD k ⟨0, 0, 0, ⟨0, 0, 0⟩, []⟩)
def headOk (b : Bt) : Bool :=
  (decide (2 ≤ b.clock.length) && decide (b.clock.length ≤ 4)) && (decide (0 ≤ b.o) && decide (b.o ≤ (b.clock.length : Int) - 1)) && (decide (1 ≤ b.s) && decide (b.s ≤ 30)) &&
  (decide (1 ≤ b.t) && decide (b.t ≤ 200)) && (decide (1 ≤ b.effs.length) && decide (b.effs.length ≤ 5)) && clkOk b
def isB (b : Bt) : Bool := headOk b && effsTo b b.effs.length
theorem clkTo_at (b : Bt) : ∀ n k, k < n → clkTo b n = true → cOk b k = true
  | n + 1, k, hk, h => by
    rw [clkTo, Bool.and_eq_true] at h
    rcases Nat.lt_succ_iff_lt_or_eq.1 hk with hk | rfl
    · exact clkTo_at b n k hk h.1
    · exact h.2
/-- What a right head gives. -/
theorem head_clock (b : Bt) (h : headOk b = true) : b.clock.length ≤ 4 ∧ 0 ≤ b.o ∧ b.o < b.clock.length ∧ 1 ≤ b.s ∧ b.clock.getD b.o.toNat 0 = b.s - 1 := by
  simp only [headOk, Bool.and_eq_true, decide_eq_true_eq] at h
  obtain ⟨⟨⟨⟨⟨h1, h2⟩, h3⟩, _⟩, _⟩, h4⟩ := h
  have hc := clkTo_at b b.clock.length b.o.toNat (by omega) h4
  simp only [cOk, Bool.and_eq_true, Bool.or_eq_true, Bool.not_eq_true', beq_eq_false_iff_ne, beq_iff_eq] at hc
  refine ⟨h1.2, h2.1, by omega, h3.1, ?_⟩
  rcases hc.2 with hx | hx
  · exact absurd (by omega) hx
  · exact hx

end Go.Proofs.YtfmcngncaffloaaGreatDoor.Wv
