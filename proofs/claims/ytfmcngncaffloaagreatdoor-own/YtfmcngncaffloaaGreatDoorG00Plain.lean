
namespace Go.Proofs.YtfmcngncaffloaaGreatDoor.Wv

/-- A dot, an effect, a batch. -/
structure Dt where
  o : Int
  s : Int
  i : Int
structure Ef where
  op : Int
  ob : Int
  va : Int
  ref : Dt
  dots : List Dt
structure Bt where
  o : Int
  s : Int
  t : Int
  clock : List Int
  effs : List Ef

/-- One step of the sum, from the least bit on. -/
def step (c : Nat) : Nat := if c % 2 = 1 then (c / 2) ^^^ 3988292384 else c / 2
def steps : Nat → Nat → Nat
  | 0, c => c
  | k + 1, c => step (steps k c)
/-- The sum's register behind so many bytes. -/
def reg : List UInt8 → Nat → Nat
  | [], c => c
  | b :: l, c => reg l (steps 8 (c ^^^ b.toNat))
def sum (l : List UInt8) : Nat := 4294967295 - reg l 4294967295
/-- The document's own step, with a bit of the byte. -/
def bstep (c b : Nat) : Nat := if b % 2 = c % 2 then c / 2 else (c / 2) ^^^ 3988292384
def bsteps (b : Nat) : Nat → Nat → Nat
  | 0, c => c
  | k + 1, c => bstep (bsteps b k c) (b / 2 ^ k)

theorem step_lt (c : Nat) (h : c < 4294967296) : step c < 4294967296 := by
  unfold step
  split
  · exact Nat.xor_lt_two_pow (n := 32) (by omega) (by omega)
  · omega
theorem steps_lt (k c : Nat) (h : c < 4294967296) : steps k c < 4294967296 := by
  induction k with
  | zero => exact h
  | succ k ih => exact step_lt _ ih
theorem byte_lt (b : UInt8) : b.toNat < 256 := b.toNat_lt
theorem xor_byte_lt (c : Nat) (b : UInt8) (h : c < 4294967296) : c ^^^ b.toNat < 4294967296 :=
  Nat.xor_lt_two_pow (n := 32) h (by have := byte_lt b; omega)
theorem reg_lt (l : List UInt8) : ∀ c, c < 4294967296 → reg l c < 4294967296 := by
  induction l with
  | nil => intro c h; exact h
  | cons b l ih => intro c h; exact ih _ (steps_lt _ _ (xor_byte_lt _ _ h))
theorem reg_append (l m : List UInt8) : ∀ c, reg (l ++ m) c = reg m (reg l c) := by
  induction l with
  | nil => intro c; rfl
  | cons b l ih => intro c; exact ih _
theorem reg_snoc (l : List UInt8) (b : UInt8) (c : Nat) : reg (l ++ [b]) c = steps 8 (reg l c ^^^ b.toNat) := by
  rw [reg_append]; rfl
/-- The table of rules: Kind, Least, Greatest, Ref, LeastDots, MostDots of each operation. -/
def tab : List Int := [0, 0, 0, 0, 0, 0, 0, -1000, 1000, 0, 0, 0, 1, 0, 255, 0, 0, 0, 1, 0, 0, 0, 1, 150, 2, 0, 255, 0, 0, 150, 3, 0, 255, 1, 0, 0, 3, 0, 0, 2, 0, 0]
def rKind (op : Int) : Int := if op = 1 then 0 else if op = 2 then 1 else if op = 3 then 1 else if op = 4 then 2 else 3
def rLeast (op : Int) : Int := if op = 1 then -1000 else 0
def rGreat (op : Int) : Int := if op = 1 then 1000 else if op = 3 then 0 else if op = 6 then 0 else 255
def rRef (op : Int) : Int := if op = 5 then 1 else if op = 6 then 2 else 0
def rLeastD (op : Int) : Int := if op = 3 then 1 else 0
def rMostD (op : Int) : Int := if op = 3 then 150 else if op = 4 then 150 else 0

/-- Numbers as bytes, the greatest first. -/
def be1 (n : Int) : List UInt8 := [UInt8.ofNat (n % 256).toNat]
def be2 (n : Int) : List UInt8 := [UInt8.ofNat (n / 256 % 256).toNat, UInt8.ofNat (n % 256).toNat]
def be4 (n : Int) : List UInt8 := [UInt8.ofNat (n / 16777216 % 256).toNat, UInt8.ofNat (n / 65536 % 256).toNat, UInt8.ofNat (n / 256 % 256).toNat, UInt8.ofNat (n % 256).toNat]
theorem ofNat_toNat (n : Int) : (((UInt8.ofNat (n % 256).toNat).toNat : Nat) : Int) = n % 256 := by
  have h : (n % 256).toNat < 256 := by omega
  rw [UInt8.toNat_ofNat_of_lt' h]
  omega

end Go.Proofs.YtfmcngncaffloaaGreatDoor.Wv
