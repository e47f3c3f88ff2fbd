import Derived.Test.YtfmcngncaffloaaGreatDoorG03Plain2
namespace Go.Proofs.YtfmcngncaffloaaGreatDoor.Wv

theorem clkTo_no (b : Bt) : ∀ n k, k < n → cOk b k = false → clkTo b n = false
  | n + 1, k, hk, h => by
    rw [clkTo]
    rcases Nat.lt_succ_iff_lt_or_eq.1 hk with hk | rfl
    · rw [clkTo_no b n k hk h]; rfl
    · rw [h]; simp
theorem dotsTo_no (b : Bt) (i : Int) (ds : List Dt) : ∀ n k, k < n → dOk b i ds k = false → dotsTo b i ds n = false
  | n + 1, k, hk, h => by
    rw [dotsTo]
    rcases Nat.lt_succ_iff_lt_or_eq.1 hk with hk | rfl
    · rw [dotsTo_no b i ds n k hk h]; rfl
    · rw [h]; simp
theorem effsTo_no (b : Bt) : ∀ n k : Nat, k < n → effOk b k (b.effs.getD k ⟨0, 0, 0, ⟨0, 0, 0⟩, []⟩) = false → effsTo b n = false
  | n + 1, k, hk, h => by
    rw [effsTo]
    rcases Nat.lt_succ_iff_lt_or_eq.1 hk with hk | rfl
    · rw [effsTo_no b n k hk h]; rfl
    · rw [h]; simp

end Go.Proofs.YtfmcngncaffloaaGreatDoor.Wv

namespace Go.Proofs.YtfmcngncaffloaaGreatDoor.Wv

def hd4 (b : Bt) : List UInt8 := be1 b.o ++ be1 b.s ++ be1 b.t ++ be1 b.clock.length
def headB (b : Bt) : List UInt8 := hd4 b ++ b.clock.flatMap be1 ++ be1 b.effs.length
def dotB (d : Dt) : List UInt8 := be1 d.o ++ be1 d.s ++ be1 d.i
def effB (e : Ef) : List UInt8 :=
  be1 e.op ++ be1 e.ob ++ be2 e.va ++ (if rRef e.op = 0 then [] else dotB e.ref) ++ (if 0 < rMostD e.op then be1 e.dots.length ++ e.dots.flatMap dotB else [])
def contentB (b : Bt) : List UInt8 := headB b ++ b.effs.flatMap effB
def bodyB (b : Bt) : List UInt8 := be2 ((contentB b).length + 6) ++ contentB b
def frameB (b : Bt) : List UInt8 := bodyB b ++ be4 (sum (bodyB b))
theorem be1_len (n : Int) : (be1 n).length = 1 := rfl
theorem flat1_len (zs : List Int) : (zs.flatMap be1).length = zs.length := by
  induction zs with
  | nil => rfl
  | cons z zs ih => simp [List.flatMap_cons, be1_len, ih]; omega
theorem dotB_len (d : Dt) : (dotB d).length = 3 := rfl
theorem dots_len (ds : List Dt) : (ds.flatMap dotB).length = 3 * ds.length := by
  induction ds with
  | nil => rfl
  | cons z zs ih => simp [List.flatMap_cons, dotB_len, ih]; omega
theorem take_flat {α : Type} (f : α → List UInt8) (l : List α) (k : Nat) (h : k < l.length) : (l.take (k + 1)).flatMap f = (l.take k).flatMap f ++ f l[k] := by
  rw [List.take_succ_eq_append_getElem h, List.flatMap_append]; simp
theorem effB_len (e : Ef) (h : e.dots.length ≤ 150) : (effB e).length ≤ 500 := by
  have := dots_len e.dots
  unfold effB
  simp only [List.length_append, be1_len]
  have h2 : (be2 e.va).length = 2 := rfl
  split <;> split <;> simp only [List.length_append, List.length_nil, dotB_len, be1_len, dots_len] <;> omega

end Go.Proofs.YtfmcngncaffloaaGreatDoor.Wv

namespace Go.Proofs.YtfmcngncaffloaaGreatDoor.Wv

/-- How far a reading has come; none: there was a fault. -/
abbrev St := Option Nat
def one (s : List UInt8) : St → Int
  | some k => if k < s.length then ((s.getD k 0).toNat : Int) else 0
  | none => 0
def nxt (s : List UInt8) : St → St
  | some k => if k < s.length then some (k + 1) else none
  | none => none
def nxt2 (s : List UInt8) (q : St) : St := nxt s (nxt s q)
def nxt3 (s : List UInt8) (q : St) : St := nxt s (nxt s (nxt s q))
def dotR (s : List UInt8) (q : St) : Dt := ⟨one s q, one s (nxt s q), one s (nxt2 s q)⟩
/-- Two bytes: the program's reading (p), the document's. -/
def two (p : Bool) (s : List UInt8) (q : St) : Int := if !p && (nxt2 s q).isNone then 0 else 256 * one s q + one s (nxt s q)
def v16 (n : Int) : Int := if 32768 ≤ n then n - 65536 else n
/-- The same reading so many times. -/
def run {α : Type} (F : St → α × St) : Nat → St → List α × St
  | 0, q => ([], q)
  | n + 1, q => ((run F n q).1 ++ [(F (run F n q).2).1], (F (run F n q).2).2)
def dotF (s : List UInt8) (q : St) : Dt × St := (dotR s q, nxt3 s q)
def oneF (s : List UInt8) (q : St) : Int × St := (one s q, nxt s q)
/-- Behind Op, Object and Value; behind the Ref; behind the Dots. -/
def eff5 (p : Bool) (s : List UInt8) (q : St) : St := if p && !isOp (one s q) then none else nxt2 s (nxt2 s q)
def eff6 (p : Bool) (s : List UInt8) (q : St) : St := if rRef (one s q) = 0 then eff5 p s q else nxt3 s (eff5 p s q)
def effD (p : Bool) (s : List UInt8) (q : St) : List Dt × St := if 0 < rMostD (one s q) then run (dotF s) (one s (eff6 p s q)).toNat (nxt s (eff6 p s q)) else ([], eff6 p s q)
def effF (p : Bool) (s : List UInt8) (q : St) : Ef × St :=
  (⟨one s q, one s (nxt s q), v16 (two p s (nxt2 s q)), if rRef (one s q) = 0 then ⟨0, 0, 0⟩ else dotR s (eff5 p s q), (effD p s q).1⟩, (effD p s q).2)
/-- The Clock, the effects. -/
def batC (s : List UInt8) (q : St) : List Int × St := run (oneF s) (one s (nxt3 s q)).toNat (nxt s (nxt3 s q))
def batE (p : Bool) (s : List UInt8) (q : St) : List Ef × St := run (effF p s) (one s (batC s q).2).toNat (nxt s (batC s q).2)
def batF (p : Bool) (s : List UInt8) (q : St) : Bt × St := (⟨one s q, one s (nxt s q), one s (nxt2 s q), (batC s q).1, (batE p s q).1⟩, (batE p s q).2)

theorem run_len {α : Type} (F : St → α × St) (n : Nat) (q : St) : (run F n q).1.length = n := by
  induction n with
  | zero => rfl
  | succ n ih => simp [run, ih]
theorem one_lt (s : List UInt8) (q : St) : 0 ≤ one s q ∧ one s q ≤ 255 := by
  cases q with
  | none => simp [one]
  | some k =>
    simp only [one]
    split
    · have := byte_lt (s.getD k 0); omega
    · omega
theorem two_lt (p : Bool) (s : List UInt8) (q : St) : 0 ≤ two p s q ∧ two p s q ≤ 65535 := by
  have h1 := one_lt s q
  have h2 := one_lt s (nxt s q)
  unfold two
  split <;> omega
theorem effsTo_at' (b : Bt) : ∀ (n k : Nat), k < n → effsTo b n = true → effOk b k (b.effs.getD k ⟨0, 0, 0, ⟨0, 0, 0⟩, []⟩) = true
  | n + 1, k, hk, h => by
    rw [effsTo, Bool.and_eq_true] at h
    rcases Nat.lt_succ_iff_lt_or_eq.1 hk with hk | rfl
    · exact effsTo_at' b n k hk h.1
    · exact h.2
/-- What the content comes to: a batch, or none. -/
def decC (p : Bool) (c : List UInt8) : Option Bt := if (batF p c (some 2)).2 = some c.length ∧ isB (batF p c (some 2)).1 = true then some (batF p c (some 2)).1 else none
/-- What Decode comes to. -/
def tail4 (s : List UInt8) : List UInt8 := s.drop (s.length - 4)
def body (s : List UInt8) : List UInt8 := s.take (s.length - 4)
def num2 (s : List UInt8) : Int := 256 * (s.getD 0 0).toNat + (s.getD 1 0).toNat
def dec (s : List UInt8) : Option Bt := if 4 ≤ s.length ∧ num2 s = s.length ∧ tail4 s = be4 (sum (body s)) then decC true (body s) else none

end Go.Proofs.YtfmcngncaffloaaGreatDoor.Wv

namespace Go.Proofs.YtfmcngncaffloaaGreatDoor.Wv

/-! A sum of 32 bits tells four bytes that stand together. -/
end Go.Proofs.YtfmcngncaffloaaGreatDoor.Wv

namespace Go.Proofs.YtfmcngncaffloaaGreatDoor.Wv

/-! What is written is read. -/
theorem one_at (p r : List UInt8) (x : UInt8) : one (p ++ x :: r) (some p.length) = x.toNat := by
  simp [one, List.getD]
theorem nxt_at (p r : List UInt8) (x : UInt8) : nxt (p ++ x :: r) (some p.length) = some (p.length + 1) := by
  simp [nxt]
def byteI (n : Int) : Prop := 0 ≤ n ∧ n ≤ 255
theorem be1_nat (n : Int) (h : byteI n) : ((UInt8.ofNat (n % 256).toNat).toNat : Int) = n := by
  obtain ⟨h1, h2⟩ := h
  rw [ofNat_toNat]; omega
theorem one_be1 (p r : List UInt8) (n : Int) (h : byteI n) : one (p ++ (be1 n ++ r)) (some p.length) = n := by
  show one (p ++ UInt8.ofNat (n % 256).toNat :: r) _ = n
  rw [one_at, be1_nat n h]
theorem nxt_be1 (p r : List UInt8) (n : Int) : nxt (p ++ (be1 n ++ r)) (some p.length) = some (p ++ be1 n).length := by
  show nxt (p ++ UInt8.ofNat (n % 256).toNat :: r) _ = _
  rw [nxt_at]; simp [be1]
theorem two_be2 (p r : List UInt8) (n : Int) : two true (p ++ (be2 n ++ r)) (some p.length) = n % 65536 ∧ nxt2 (p ++ (be2 n ++ r)) (some p.length) = some (p ++ be2 n).length := by
  have e : p ++ (be2 n ++ r) = p ++ UInt8.ofNat (n / 256 % 256).toNat :: (UInt8.ofNat (n % 256).toNat :: r) := rfl
  have e2 : p ++ UInt8.ofNat (n / 256 % 256).toNat :: (UInt8.ofNat (n % 256).toNat :: r) = (p ++ [UInt8.ofNat (n / 256 % 256).toNat]) ++ UInt8.ofNat (n % 256).toNat :: r := by simp
  have h1 := nxt_at p (UInt8.ofNat (n % 256).toNat :: r) (UInt8.ofNat (n / 256 % 256).toNat)
  have h2 := one_at (p ++ [UInt8.ofNat (n / 256 % 256).toNat]) r (UInt8.ofNat (n % 256).toNat)
  have h3 := nxt_at (p ++ [UInt8.ofNat (n / 256 % 256).toNat]) r (UInt8.ofNat (n % 256).toNat)
  rw [← e2, List.length_append, List.length_singleton] at h2 h3
  rw [e]
  refine ⟨?_, ?_⟩
  · simp only [two, Bool.not_true, Bool.false_and, h1, h2, one_at, ofNat_toNat]
    simp
    omega
  · simp only [nxt2, h1, h3]
    simp [be2]
def byteD (d : Dt) : Prop := byteI d.o ∧ byteI d.s ∧ byteI d.i
theorem dot_read (p r : List UInt8) (d : Dt) (h : byteD d) : dotF (p ++ (dotB d ++ r)) (some p.length) = (d, some (p ++ dotB d).length) := by
  have a1 := one_be1 p (be1 d.s ++ (be1 d.i ++ r)) d.o h.1
  have a2 := nxt_be1 p (be1 d.s ++ (be1 d.i ++ r)) d.o
  have b1 := one_be1 (p ++ be1 d.o) (be1 d.i ++ r) d.s h.2.1
  have b2 := nxt_be1 (p ++ be1 d.o) (be1 d.i ++ r) d.s
  have c1 := one_be1 (p ++ be1 d.o ++ be1 d.s) r d.i h.2.2
  have c2 := nxt_be1 (p ++ be1 d.o ++ be1 d.s) r d.i
  simp only [List.append_assoc] at a1 a2 b1 b2 c1 c2
  have e : p ++ (dotB d ++ r) = p ++ (be1 d.o ++ (be1 d.s ++ (be1 d.i ++ r))) := by simp [dotB]
  rw [e]
  simp only [dotF, dotR, nxt2, nxt3, a1, a2, b1, b2, c1, c2, dotB, List.append_assoc]
/-- A row of things, each of which is read as it was written. -/
theorem run_read {α : Type} (F : List UInt8 → St → α × St) (f : α → List UInt8) (P : α → Prop) (hF : ∀ p r x, P x → F (p ++ (f x ++ r)) (some p.length) = (x, some (p ++ f x).length))
    (l : List α) (p r : List UInt8) (h : ∀ x ∈ l, P x) : ∀ k, k ≤ l.length → run (F (p ++ (l.flatMap f ++ r))) k (some p.length) = (l.take k, some (p ++ (l.take k).flatMap f).length) := by
  intro k
  induction k with
  | zero => intro _; simp [run]
  | succ k ih =>
    intro hk
    have hk' : k < l.length := by omega
    rw [run, ih (by omega)]
    have hx := hF (p ++ (l.take k).flatMap f) ((l.drop (k + 1)).flatMap f ++ r) l[k] (h _ (List.getElem_mem hk'))
    have e : p ++ (l.flatMap f ++ r) = p ++ (l.take k).flatMap f ++ (f l[k] ++ ((l.drop (k + 1)).flatMap f ++ r)) := by
      have e1 : l.flatMap f = (l.take k).flatMap f ++ (f l[k] ++ (l.drop (k + 1)).flatMap f) := by
        conv => lhs; rw [← List.take_append_drop k l, List.drop_eq_getElem_cons hk']
        rw [List.flatMap_append, List.flatMap_cons]
      rw [e1]; simp
    rw [e, hx, take_flat f l k hk', List.take_succ_eq_append_getElem hk']
    simp
theorem run_all {α : Type} (F : List UInt8 → St → α × St) (f : α → List UInt8) (P : α → Prop) (hF : ∀ p r x, P x → F (p ++ (f x ++ r)) (some p.length) = (x, some (p ++ f x).length)) (l : List α) (p r : List UInt8) (h : ∀ x ∈ l, P x) :
    run (F (p ++ (l.flatMap f ++ r))) l.length (some p.length) = (l, some (p ++ l.flatMap f).length) := by
  have := run_read F f P hF l p r h l.length (Nat.le_refl _)
  rwa [List.take_length] at this
theorem int_read (p r : List UInt8) (z : Int) (h : byteI z) : oneF (p ++ (be1 z ++ r)) (some p.length) = (z, some (p ++ be1 z).length) := by
  simp only [oneF, one_be1 p r z h, nxt_be1]
/-- An effect that can be written. -/
structure WrE (e : Ef) : Prop where
  op : 1 ≤ e.op ∧ e.op ≤ 6
  ob : byteI e.ob
  va : -1000 ≤ e.va ∧ e.va ≤ 1000
  ref0 : rRef e.op = 0 → e.ref = ⟨0, 0, 0⟩
  ref : byteD e.ref
  dots0 : ¬ 0 < rMostD e.op → e.dots = []
  dots : ∀ d ∈ e.dots, byteD d
  len : e.dots.length ≤ 150
theorem eff_read (p r : List UInt8) (e : Ef) (h : WrE e) : effF true (p ++ (effB e ++ r)) (some p.length) = (e, some (p ++ effB e).length) := by
  let R : List UInt8 := if rRef e.op = 0 then [] else dotB e.ref
  let D : List UInt8 := if 0 < rMostD e.op then be1 e.dots.length ++ e.dots.flatMap dotB else []
  have hE : effB e = be1 e.op ++ (be1 e.ob ++ (be2 e.va ++ (R ++ D))) := by simp [effB, R, D]
  generalize hc : p ++ (effB e ++ r) = c
  have hc' : c = p ++ (be1 e.op ++ (be1 e.ob ++ (be2 e.va ++ (R ++ (D ++ r))))) := by rw [← hc, hE]; simp
  have opB : byteI e.op := ⟨by have := h.op.1; omega, by have := h.op.2; omega⟩
  have a1 : one c (some p.length) = e.op := by rw [hc']; exact one_be1 p _ e.op opB
  have a2 : nxt c (some p.length) = some (p ++ be1 e.op).length := by rw [hc']; exact nxt_be1 p _ e.op
  have b0 : c = p ++ be1 e.op ++ (be1 e.ob ++ (be2 e.va ++ (R ++ (D ++ r)))) := by rw [hc']; simp
  have b1 : one c (some (p ++ be1 e.op).length) = e.ob := by rw [b0]; exact one_be1 _ _ e.ob h.ob
  have b2 : nxt c (some (p ++ be1 e.op).length) = some (p ++ be1 e.op ++ be1 e.ob).length := by rw [b0]; exact nxt_be1 _ _ e.ob
  have c0 : c = p ++ be1 e.op ++ be1 e.ob ++ (be2 e.va ++ (R ++ (D ++ r))) := by rw [hc']; simp
  have c1 := two_be2 (p ++ be1 e.op ++ be1 e.ob) (R ++ (D ++ r)) e.va
  rw [← c0] at c1
  have d0 : c = p ++ be1 e.op ++ be1 e.ob ++ be2 e.va ++ (R ++ (D ++ r)) := by rw [hc']; simp
  have q2 : nxt2 c (some p.length) = some (p ++ be1 e.op ++ be1 e.ob).length := by simp only [nxt2, a2, b2]
  have q4 : nxt2 c (nxt2 c (some p.length)) = some (p ++ be1 e.op ++ be1 e.ob ++ be2 e.va).length := by rw [q2, c1.2]
  have h5 : eff5 true c (some p.length) = some (p ++ be1 e.op ++ be1 e.ob ++ be2 e.va).length := by
    have : isOp e.op = true := by simp [isOp, h.op]
    simp [eff5, a1, this, q4]
  have h6 : eff6 true c (some p.length) = some (p ++ be1 e.op ++ be1 e.ob ++ be2 e.va ++ R).length ∧ (if rRef e.op = 0 then (⟨0, 0, 0⟩ : Dt) else dotR c (eff5 true c (some p.length))) = e.ref := by
    unfold eff6
    rw [a1, h5]
    by_cases hr : rRef e.op = 0
    · rw [if_pos hr, if_pos hr, h.ref0 hr]
      simp [R, hr]
    · rw [if_neg hr, if_neg hr]
      have hR : R = dotB e.ref := by simp [R, hr]
      have := dot_read (p ++ be1 e.op ++ be1 e.ob ++ be2 e.va) (D ++ r) e.ref h.ref
      rw [← hR, ← d0] at this
      exact ⟨congrArg Prod.snd this, congrArg Prod.fst this⟩
  have hD : effD true c (some p.length) = (e.dots, some (p ++ effB e).length) := by
    unfold effD
    rw [a1, h6.1]
    by_cases hm : 0 < rMostD e.op
    · rw [if_pos hm]
      have hDD : D = be1 e.dots.length ++ e.dots.flatMap dotB := by simp [D, hm]
      have f0 : c = p ++ be1 e.op ++ be1 e.ob ++ be2 e.va ++ R ++ (be1 e.dots.length ++ (e.dots.flatMap dotB ++ r)) := by rw [hc', hDD]; simp
      have nB : byteI (e.dots.length : Int) := ⟨by omega, by have := h.len; omega⟩
      have f1 : one c (some (p ++ be1 e.op ++ be1 e.ob ++ be2 e.va ++ R).length) = e.dots.length := by rw [f0]; exact one_be1 _ _ _ nB
      have f2 : nxt c (some (p ++ be1 e.op ++ be1 e.ob ++ be2 e.va ++ R).length) = some (p ++ be1 e.op ++ be1 e.ob ++ be2 e.va ++ R ++ be1 e.dots.length).length := by rw [f0]; exact nxt_be1 _ _ _
      rw [f1, f2, Int.toNat_natCast]
      have f3 := run_all dotF dotB byteD dot_read e.dots (p ++ be1 e.op ++ be1 e.ob ++ be2 e.va ++ R ++ be1 e.dots.length) r h.dots
      have f4 : p ++ be1 e.op ++ be1 e.ob ++ be2 e.va ++ R ++ be1 e.dots.length ++ (e.dots.flatMap dotB ++ r) = c := by rw [f0]; simp
      rw [f4] at f3
      rw [f3, hE, hDD]
      simp
    · rw [if_neg hm, h.dots0 hm, hE]
      simp [D, hm]
  have hv : v16 (two true c (nxt2 c (some p.length))) = e.va := by
    rw [q2, c1.1]
    have := h.va
    unfold v16
    split <;> omega
  simp only [effF, a1, a2, b1, hv, h6.2, hD]

end Go.Proofs.YtfmcngncaffloaaGreatDoor.Wv

namespace Go.Proofs.YtfmcngncaffloaaGreatDoor.Wv

theorem dotsTo_at (b : Bt) (i : Int) (ds : List Dt) : ∀ n k, k < n → dotsTo b i ds n = true → dOk b i ds k = true
  | n + 1, k, hk, h => by
    rw [dotsTo, Bool.and_eq_true] at h
    rcases Nat.lt_succ_iff_lt_or_eq.1 hk with hk | rfl
    · exact dotsTo_at b i ds n k hk h.1
    · exact h.2
theorem cov_byte {b : Bt} {d : Dt} {i : Int} (hs : b.s ≤ 30) (hl : b.clock.length ≤ 4) (hc : ∀ k, k < b.clock.length → b.clock.getD k 0 ≤ 30) (h : cov b d i = true) : byteD d := by
  simp only [cov, inD, Bool.and_eq_true, Bool.or_eq_true, decide_eq_true_eq, beq_iff_eq] at h
  obtain ⟨⟨⟨⟨⟨h1, h2⟩, h3⟩, h4⟩, h5⟩, h6⟩ := h
  have h7 : d.s ≤ 30 := by
    rcases h6 with e | e
    · have := hc d.o.toNat (by omega); omega
    · omega
  exact ⟨⟨h1, by omega⟩, ⟨by omega, by omega⟩, ⟨h4, by omega⟩⟩
theorem eff_wr {b : Bt} {e : Ef} {i : Int} (hs : b.s ≤ 30) (hl : b.clock.length ≤ 4) (hc : ∀ k, k < b.clock.length → b.clock.getD k 0 ≤ 30) (h : effOk b i e = true) : WrE e := by
  simp only [effOk, isOp, Bool.and_eq_true, decide_eq_true_eq, beq_iff_eq] at h
  obtain ⟨⟨⟨⟨⟨ho, ⟨hb1, hb2⟩, _⟩, hv1, hv2⟩, hr⟩, hd1, hd2⟩, hd⟩ := h
  have m150 : rMostD e.op ≤ 150 := by unfold rMostD; repeat' split <;> omega
  have none_ref : noneD e.ref = true → e.ref = ⟨0, 0, 0⟩ := by
    intro hn
    simp only [noneD, Bool.and_eq_true, beq_iff_eq] at hn
    obtain ⟨⟨h1, h2⟩, h3⟩ := hn
    cases hh : e.ref with
    | mk o s i => rw [hh] at h1 h2 h3; simp at h1 h2 h3; rw [h1, h2, h3]
  refine ⟨ho, ⟨hb1, by omega⟩, ?_, ?_, ?_, ?_, ?_, by omega⟩
  · unfold rLeast at hv1
    unfold rGreat at hv2
    split at hv1 <;> split at hv2 <;> (try split at hv2) <;> (try split at hv2) <;> omega
  · intro h0
    cases hn : noneD e.ref with
    | true => exact none_ref hn
    | false => simp [refOk, hn, h0] at hr
  · cases hn : noneD e.ref with
    | true => rw [none_ref hn]; exact ⟨⟨by decide, by decide⟩, ⟨by decide, by decide⟩, ⟨by decide, by decide⟩⟩
    | false =>
      simp only [refOk, hn, Bool.false_eq_true, if_false, Bool.and_eq_true] at hr
      exact cov_byte hs hl hc hr.2
  · intro hm
    exact List.eq_nil_of_length_eq_zero (by omega)
  · intro d hdm
    obtain ⟨k, hk, rfl⟩ := List.mem_iff_getElem.1 hdm
    have := dotsTo_at b i e.dots e.dots.length k hk hd
    simp only [dOk, Bool.and_eq_true] at this
    have h2 := this.2
    rw [show e.dots.getD k ⟨0, 0, 0⟩ = e.dots[k] by simp [hk]] at h2
    exact cov_byte hs hl hc h2
/-- A batch's content is read back. -/
theorem bat_read (p : List UInt8) (b : Bt) (h : isB b = true) : batF true (p ++ contentB b) (some p.length) = (b, some (p ++ contentB b).length) := by
  have h' := h
  simp only [isB, Bool.and_eq_true] at h'
  obtain ⟨hH, hE⟩ := h'
  simp only [headOk, Bool.and_eq_true, decide_eq_true_eq] at hH
  obtain ⟨⟨⟨⟨⟨⟨c1, c2⟩, o1, o2⟩, s1, s2⟩, t1, t2⟩, e1, e2⟩, hclk⟩ := hH
  have hc : ∀ k, k < b.clock.length → byteI (b.clock.getD k 0) ∧ b.clock.getD k 0 ≤ 30 := by
    intro k hk
    have := clkTo_at b b.clock.length k hk hclk
    simp only [cOk, Bool.and_eq_true, decide_eq_true_eq] at this
    exact ⟨⟨this.1.1, by omega⟩, this.1.2⟩
  have hcl : ∀ z ∈ b.clock, byteI z := by
    intro z hz
    obtain ⟨k, hk, rfl⟩ := List.mem_iff_getElem.1 hz
    have := (hc k hk).1
    rwa [show b.clock.getD k 0 = b.clock[k] by simp [hk]] at this
  have hef : ∀ e ∈ b.effs, WrE e := by
    intro e he
    obtain ⟨k, hk, rfl⟩ := List.mem_iff_getElem.1 he
    have := effsTo_at' b b.effs.length k hk hE
    rw [show b.effs.getD k ⟨0, 0, 0, ⟨0, 0, 0⟩, []⟩ = b.effs[k] by simp [hk]] at this
    exact eff_wr s2 c2 (fun k hk => (hc k hk).2) this
  generalize hC : p ++ contentB b = c
  have x0 : c = p ++ (be1 b.o ++ (be1 b.s ++ (be1 b.t ++ (be1 b.clock.length ++ (b.clock.flatMap be1 ++ (be1 b.effs.length ++ (b.effs.flatMap effB ++ []))))))) := by rw [← hC]; simp [contentB, headB, hd4]
  have x1 : c = p ++ be1 b.o ++ (be1 b.s ++ (be1 b.t ++ (be1 b.clock.length ++ (b.clock.flatMap be1 ++ (be1 b.effs.length ++ (b.effs.flatMap effB ++ [])))))) := by rw [x0]; simp
  have x2 : c = p ++ be1 b.o ++ be1 b.s ++ (be1 b.t ++ (be1 b.clock.length ++ (b.clock.flatMap be1 ++ (be1 b.effs.length ++ (b.effs.flatMap effB ++ []))))) := by rw [x0]; simp
  have x3 : c = p ++ be1 b.o ++ be1 b.s ++ be1 b.t ++ (be1 b.clock.length ++ (b.clock.flatMap be1 ++ (be1 b.effs.length ++ (b.effs.flatMap effB ++ [])))) := by rw [x0]; simp
  have x4 : p ++ be1 b.o ++ be1 b.s ++ be1 b.t ++ be1 b.clock.length ++ (b.clock.flatMap be1 ++ (be1 b.effs.length ++ (b.effs.flatMap effB ++ []))) = c := by rw [x0]; simp
  have x5 : c = p ++ be1 b.o ++ be1 b.s ++ be1 b.t ++ be1 b.clock.length ++ b.clock.flatMap be1 ++ (be1 b.effs.length ++ (b.effs.flatMap effB ++ [])) := by rw [x0]; simp
  have x6 : p ++ be1 b.o ++ be1 b.s ++ be1 b.t ++ be1 b.clock.length ++ b.clock.flatMap be1 ++ be1 b.effs.length ++ (b.effs.flatMap effB ++ []) = c := by rw [x0]; simp
  have a1 : one c (some p.length) = b.o := by rw [x0]; exact one_be1 _ _ _ ⟨o1, by omega⟩
  have a2 : nxt c (some p.length) = some (p ++ be1 b.o).length := by rw [x0]; exact nxt_be1 _ _ _
  have b1 : one c (some (p ++ be1 b.o).length) = b.s := by rw [x1]; exact one_be1 _ _ _ ⟨by omega, by omega⟩
  have b2 : nxt c (some (p ++ be1 b.o).length) = some (p ++ be1 b.o ++ be1 b.s).length := by rw [x1]; exact nxt_be1 _ _ _
  have d1 : one c (some (p ++ be1 b.o ++ be1 b.s).length) = b.t := by rw [x2]; exact one_be1 _ _ _ ⟨by omega, by omega⟩
  have d2 : nxt c (some (p ++ be1 b.o ++ be1 b.s).length) = some (p ++ be1 b.o ++ be1 b.s ++ be1 b.t).length := by rw [x2]; exact nxt_be1 _ _ _
  have f1 : one c (some (p ++ be1 b.o ++ be1 b.s ++ be1 b.t).length) = b.clock.length := by rw [x3]; exact one_be1 _ _ _ ⟨by omega, by omega⟩
  have f2 : nxt c (some (p ++ be1 b.o ++ be1 b.s ++ be1 b.t).length) = some (p ++ be1 b.o ++ be1 b.s ++ be1 b.t ++ be1 b.clock.length).length := by rw [x3]; exact nxt_be1 _ _ _
  have hCk : batC c (some p.length) = (b.clock, some (p ++ be1 b.o ++ be1 b.s ++ be1 b.t ++ be1 b.clock.length ++ b.clock.flatMap be1).length) := by
    have := run_all oneF be1 byteI int_read b.clock (p ++ be1 b.o ++ be1 b.s ++ be1 b.t ++ be1 b.clock.length) (be1 b.effs.length ++ (b.effs.flatMap effB ++ [])) hcl
    rw [x4] at this
    simp only [batC, nxt3, a2, b2, d2, f1, f2, Int.toNat_natCast, this]
  have g1 : one c (some (p ++ be1 b.o ++ be1 b.s ++ be1 b.t ++ be1 b.clock.length ++ b.clock.flatMap be1).length) = b.effs.length := by rw [x5]; exact one_be1 _ _ _ ⟨by omega, by omega⟩
  have g2 : nxt c (some (p ++ be1 b.o ++ be1 b.s ++ be1 b.t ++ be1 b.clock.length ++ b.clock.flatMap be1).length) = some (p ++ be1 b.o ++ be1 b.s ++ be1 b.t ++ be1 b.clock.length ++ b.clock.flatMap be1 ++ be1 b.effs.length).length := by rw [x5]; exact nxt_be1 _ _ _
  have hEf : batE true c (some p.length) = (b.effs, some c.length) := by
    have := run_all (effF true) effB WrE eff_read b.effs (p ++ be1 b.o ++ be1 b.s ++ be1 b.t ++ be1 b.clock.length ++ b.clock.flatMap be1 ++ be1 b.effs.length) [] hef
    rw [x6] at this
    simp only [batE, hCk, g1, g2, Int.toNat_natCast, this]
    rw [← x6]; simp
  simp only [batF, a1, nxt2, a2, b1, b2, d1, hCk, hEf]
theorem wrE_len {b : Bt} (h : isB b = true) : (contentB b).length ≤ 2600 := by
  have h' := h
  simp only [isB, Bool.and_eq_true] at h'
  have hH := h'.1
  simp only [headOk, Bool.and_eq_true, decide_eq_true_eq] at hH
  have hd : ∀ e ∈ b.effs, (effB e).length ≤ 500 := by
    intro e he
    obtain ⟨k, hk, rfl⟩ := List.mem_iff_getElem.1 he
    have := effsTo_at' b b.effs.length k hk h'.2
    rw [show b.effs.getD k ⟨0, 0, 0, ⟨0, 0, 0⟩, []⟩ = b.effs[k] by simp [hk]] at this
    simp only [effOk, Bool.and_eq_true, decide_eq_true_eq] at this
    have h3 := this.1.2.2
    have : rMostD b.effs[k].op ≤ 150 := by unfold rMostD; repeat' split <;> omega
    exact effB_len _ (by omega)
  have hl : ∀ l : List Ef, (∀ e ∈ l, (effB e).length ≤ 500) → (l.flatMap effB).length ≤ 500 * l.length := by
    intro l
    induction l with
    | nil => intro _; simp
    | cons x l ih =>
      intro hx
      have h1 := hx x (by simp)
      have h2 := ih (fun y hy => hx y (by simp [hy]))
      simp only [List.flatMap_cons, List.length_append, List.length_cons]
      omega
  have := hl b.effs hd
  have h5 := flat1_len b.clock
  have : (hd4 b).length = 4 := rfl
  simp only [contentB, headB, List.length_append, be1_len]
  omega
/-- A batch comes back out of its frame. -/
theorem dec_frame (b : Bt) (h : isB b = true) : dec (frameB b) = some b := by
  have hl := wrE_len h
  have h2 : (be2 ((contentB b).length + 6)).length = 2 := rfl
  have h4 : (be4 (sum (bodyB b) : Nat)).length = 4 := rfl
  have hbl : (bodyB b).length = (contentB b).length + 2 := by unfold bodyB; rw [List.length_append, h2]; omega
  have hfl : (frameB b).length = (contentB b).length + 6 := by unfold frameB; rw [List.length_append, h4, hbl]
  have hbody : body (frameB b) = bodyB b := by
    unfold body
    rw [hfl, show (contentB b).length + 6 - 4 = (bodyB b).length by omega]
    exact List.take_left
  have htail : tail4 (frameB b) = be4 (sum (bodyB b) : Nat) := by
    unfold tail4
    rw [hfl, show (contentB b).length + 6 - 4 = (bodyB b).length by omega]
    exact List.drop_left
  have hnum : num2 (frameB b) = (frameB b).length := by
    have e : frameB b = UInt8.ofNat (((contentB b).length + 6 : Int) / 256 % 256).toNat :: UInt8.ofNat (((contentB b).length + 6 : Int) % 256).toNat :: (contentB b ++ be4 (sum (bodyB b) : Nat)) := by
      simp [frameB, bodyB, be2]
    have e1 := ofNat_toNat (((contentB b).length + 6 : Int) / 256)
    have e2 := ofNat_toNat ((contentB b).length + 6 : Int)
    rw [hfl, e]
    simp only [num2, List.getD_cons_zero, List.getD_cons_succ]
    omega
  unfold dec
  rw [if_pos ⟨by omega, hnum, by rw [hbody]; exact htail⟩, hbody]
  have hr := bat_read (be2 ((contentB b).length + 6)) b h
  rw [h2] at hr
  have hr' : batF true (bodyB b) (some 2) = (b, some (bodyB b).length) := hr
  unfold decC
  rw [hr', if_pos ⟨rfl, h⟩]

end Go.Proofs.YtfmcngncaffloaaGreatDoor.Wv

namespace Go.Proofs.YtfmcngncaffloaaGreatDoor.Wv

theorem frame_len (b : Bt) (h : isB b = true) : (frameB b).length = (contentB b).length + 6 ∧ num2 (frameB b) = (frameB b).length ∧ (contentB b).length ≤ 2600 ∧ 9 ≤ (contentB b).length := by
  have hl := wrE_len h
  have h2 : (be2 ((contentB b).length + 6)).length = 2 := rfl
  have h4 : (be4 (sum (bodyB b) : Nat)).length = 4 := rfl
  have hfl : (frameB b).length = (contentB b).length + 6 := by unfold frameB bodyB; rw [List.length_append, List.length_append, h2]; show 2 + _ + 4 = _; omega
  refine ⟨hfl, ?_, hl, ?_⟩
  · have e : frameB b = UInt8.ofNat (((contentB b).length + 6 : Int) / 256 % 256).toNat :: UInt8.ofNat (((contentB b).length + 6 : Int) % 256).toNat :: (contentB b ++ be4 (sum (bodyB b) : Nat)) := by
      simp [frameB, bodyB, be2]
    have e1 := ofNat_toNat (((contentB b).length + 6 : Int) / 256)
    have e2 := ofNat_toNat ((contentB b).length + 6 : Int)
    rw [hfl, e]
    simp only [num2, List.getD_cons_zero, List.getD_cons_succ]
    omega
  · have h' := h
    simp only [isB, Bool.and_eq_true] at h'
    have hH := h'.1
    simp only [headOk, Bool.and_eq_true, decide_eq_true_eq] at hH
    have h5 := flat1_len b.clock
    have h6 : (hd4 b).length = 4 := rfl
    have h7 : 2 ≤ (b.effs.flatMap effB).length := by
      cases he : b.effs with
      | nil => rw [he] at hH; simp at hH
      | cons x l =>
        rw [List.flatMap_cons, List.length_append]
        have : 4 ≤ (effB x).length := by
          have h2 : (be2 x.va).length = 2 := rfl
          simp only [effB, List.length_append, be1_len, h2]
          omega
        omega
    simp only [contentB, headB, List.length_append, be1_len]
    omega
end Go.Proofs.YtfmcngncaffloaaGreatDoor.Wv

namespace Go.Proofs.YtfmcngncaffloaaGreatDoor.Wv

/-- Which of n things a raw number speaks of. -/
def pk (c n : Int) : Int := (if c < 0 then -(c + 1) else c) % n
theorem pk_lt (c n : Int) (h : 0 < n) : 0 ≤ pk c n ∧ pk c n < n := ⟨Int.emod_nonneg _ (by omega), Int.emod_lt_of_pos _ h⟩
def mkK (n : Int) : Int := 2 + pk n 3
def mkD (k v : Int) : Dt := ⟨pk v k, 1, pk (v.tdiv 7) 5⟩
/-- An effect out of a raw number. -/
def mkE (k v : Int) : Ef :=
  if 1 + pk v 6 = 1 then ⟨1, 0, pk (v.tdiv 6) 2001 - 1000, ⟨0, 0, 0⟩, []⟩
  else if 1 + pk v 6 = 2 then ⟨2, 1, pk (v.tdiv 6) 256, ⟨0, 0, 0⟩, []⟩
  else if 1 + pk v 6 = 3 then ⟨3, 5, 0, ⟨0, 0, 0⟩, [mkD k v]⟩
  else if 1 + pk v 6 = 4 then ⟨4, 2, pk (v.tdiv 6) 256, ⟨0, 0, 0⟩, if pk (v.tdiv 5) 2 = 0 then [⟨0, 1, 2⟩, ⟨1, 1, 0⟩] else []⟩
  else if 1 + pk v 6 = 5 then ⟨5, 7, pk (v.tdiv 6) 256, if pk (v.tdiv 5) 2 = 0 then mkD k v else ⟨0, 0, 0⟩, []⟩
  else ⟨6, 3, 0, mkD k v, []⟩
def mkC (k time : Int) : List Int := (List.range k.toNat).map fun (i : Nat) => 1 + pk (time.tdiv ((i : Int) + 1)) 30
/-- A batch out of raw numbers. -/
def mkB (n origin seq time : Int) (raw : List Int) : Bt :=
  ⟨pk origin (mkK n), 2 + pk seq 29, 1 + pk time 200, (mkC (mkK n) time).set (pk origin (mkK n)).toNat (2 + pk seq 29 - 1), ((n :: raw).take 5).map (mkE (mkK n))⟩
end Go.Proofs.YtfmcngncaffloaaGreatDoor.Wv

namespace Go.Proofs.YtfmcngncaffloaaGreatDoor.Wv

/-- Bytes turned, one behind the other. -/
def chg (l : List UInt8) (i : Nat) (m : Nat → UInt8) : Nat → List UInt8
  | 0 => l
  | k + 1 => (chg l i m k).set (i + k) ((chg l i m k).getD (i + k) 0 ^^^ m k)
def chd (m : Nat → UInt8) : Nat → Bool
  | 0 => false
  | k + 1 => chd m k || m k != 0
/-- How far bytes may be turned: to the sum, or to the end. -/
def stopAt (n i : Nat) : Nat := if i < n - 4 then n - 4 else n
end Go.Proofs.YtfmcngncaffloaaGreatDoor.Wv
