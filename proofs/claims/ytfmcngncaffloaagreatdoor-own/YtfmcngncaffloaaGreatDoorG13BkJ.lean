import Derived.Test.YtfmcngncaffloaaGreatDoorG03Plain2
namespace Go.Proofs.YtfmcngncaffloaaGreatDoor.Wv

theorem clkTo_no (b : Bt) : ∀ n k, k < n → cOk b k = false → clkTo b n = false
  | n + 1, k, hk, h => by
    rw [clkTo]
    rcases Nat.lt_succ_iff_lt_or_eq.1 hk with hk | rfl
    · rw [clkTo_no b n k hk h]; rfl
    · rw [h]; simp
theorem dotsTo_no (b : Bt) (i : Int) (ds : List Dt) : ∀ n k, k < n → dOk b i ds k = false → dotsTo b i ds n = false
  | n + 1, k, hk, h => by
    rw [dotsTo]
    rcases Nat.lt_succ_iff_lt_or_eq.1 hk with hk | rfl
    · rw [dotsTo_no b i ds n k hk h]; rfl
    · rw [h]; simp
theorem effsTo_no (b : Bt) : ∀ n k : Nat, k < n → effOk b k (b.effs.getD k ⟨0, 0, 0, ⟨0, 0, 0⟩, []⟩) = false → effsTo b n = false
  | n + 1, k, hk, h => by
    rw [effsTo]
    rcases Nat.lt_succ_iff_lt_or_eq.1 hk with hk | rfl
    · rw [effsTo_no b n k hk h]; rfl
    · rw [h]; simp

end Go.Proofs.YtfmcngncaffloaaGreatDoor.Wv

namespace Go.Proofs.YtfmcngncaffloaaGreatDoor.Wv

def hd4 (b : Bt) : List UInt8 := be1 b.o ++ be1 b.s ++ be1 b.t ++ be1 b.clock.length
def headB (b : Bt) : List UInt8 := hd4 b ++ b.clock.flatMap be1 ++ be1 b.effs.length
def dotB (d : Dt) : List UInt8 := be1 d.o ++ be1 d.s ++ be1 d.i
def effB (e : Ef) : List UInt8 :=
  be1 e.op ++ be1 e.ob ++ be2 e.va ++ (if rRef e.op = 0 then [] else dotB e.ref) ++ (if 0 < rMostD e.op then be1 e.dots.length ++ e.dots.flatMap dotB else [])
def contentB (b : Bt) : List UInt8 := headB b ++ b.effs.flatMap effB
def bodyB (b : Bt) : List UInt8 := be2 ((contentB b).length + 6) ++ contentB b
def frameB (b : Bt) : List UInt8 := bodyB b ++ be4 (sum (bodyB b))
theorem be1_len (n : Int) : (be1 n).length = 1 := rfl
theorem flat1_len (zs : List Int) : (zs.flatMap be1).length = zs.length := by
  induction zs with
  | nil => rfl
  | cons z zs ih => simp [List.flatMap_cons, be1_len, ih]; omega
theorem dotB_len (d : Dt) : (dotB d).length = 3 := rfl
theorem dots_len (ds : List Dt) : (ds.flatMap dotB).length = 3 * ds.length := by
  induction ds with
  | nil => rfl
  | cons z zs ih => simp [List.flatMap_cons, dotB_len, ih]; omega
theorem take_flat {α : Type} (f : α → List UInt8) (l : List α) (k : Nat) (h : k < l.length) : (l.take (k + 1)).flatMap f = (l.take k).flatMap f ++ f l[k] := by
  rw [List.take_succ_eq_append_getElem h, List.flatMap_append]; simp
theorem effB_len (e : Ef) (h : e.dots.length ≤ 150) : (effB e).length ≤ 500 := by
  have := dots_len e.dots
  unfold effB
  simp only [List.length_append, be1_len]
  have h2 : (be2 e.va).length = 2 := rfl
  split <;> split <;> simp only [List.length_append, List.length_nil, dotB_len, be1_len, dots_len] <;> omega

end Go.Proofs.YtfmcngncaffloaaGreatDoor.Wv

namespace Go.Proofs.YtfmcngncaffloaaGreatDoor.Wv

/-- How far a reading has come; none: there was a fault. -/
abbrev St := Option Nat
def one (s : List UInt8) : St → Int
  | some k => if k < s.length then ((s.getD k 0).toNat : Int) else 0
  | none => 0
def nxt (s : List UInt8) : St → St
  | some k => if k < s.length then some (k + 1) else none
  | none => none
def nxt2 (s : List UInt8) (q : St) : St := nxt s (nxt s q)
def nxt3 (s : List UInt8) (q : St) : St := nxt s (nxt s (nxt s q))
def dotR (s : List UInt8) (q : St) : Dt := ⟨one s q, one s (nxt s q), one s (nxt2 s q)⟩
/-- Two bytes: the program's reading (p), the document's. -/
def two (p : Bool) (s : List UInt8) (q : St) : Int := if !p && (nxt2 s q).isNone then 0 else 256 * one s q + one s (nxt s q)
def v16 (n : Int) : Int := if 32768 ≤ n then n - 65536 else n
/-- The same reading so many times. -/
def run {α : Type} (F : St → α × St) : Nat → St → List α × St
  | 0, q => ([], q)
  | n + 1, q => ((run F n q).1 ++ [(F (run F n q).2).1], (F (run F n q).2).2)
def dotF (s : List UInt8) (q : St) : Dt × St := (dotR s q, nxt3 s q)
def oneF (s : List UInt8) (q : St) : Int × St := (one s q, nxt s q)
/-- Behind Op, Object and Value; behind the Ref; behind the Dots. -/
def eff5 (p : Bool) (s : List UInt8) (q : St) : St := if p && !isOp (one s q) then none else nxt2 s (nxt2 s q)
def eff6 (p : Bool) (s : List UInt8) (q : St) : St := if rRef (one s q) = 0 then eff5 p s q else nxt3 s (eff5 p s q)
def effD (p : Bool) (s : List UInt8) (q : St) : List Dt × St := if 0 < rMostD (one s q) then run (dotF s) (one s (eff6 p s q)).toNat (nxt s (eff6 p s q)) else ([], eff6 p s q)
def effF (p : Bool) (s : List UInt8) (q : St) : Ef × St :=
  (⟨one s q, one s (nxt s q), v16 (two p s (nxt2 s q)), if rRef (one s q) = 0 then ⟨0, 0, 0⟩ else dotR s (eff5 p s q), (effD p s q).1⟩, (effD p s q).2)
/-- The Clock, the effects. -/
def batC (s : List UInt8) (q : St) : List Int × St := run (oneF s) (one s (nxt3 s q)).toNat (nxt s (nxt3 s q))
def batE (p : Bool) (s : List UInt8) (q : St) : List Ef × St := run (effF p s) (one s (batC s q).2).toNat (nxt s (batC s q).2)
def batF (p : Bool) (s : List UInt8) (q : St) : Bt × St := (⟨one s q, one s (nxt s q), one s (nxt2 s q), (batC s q).1, (batE p s q).1⟩, (batE p s q).2)

theorem effsTo_at' (b : Bt) : ∀ (n k : Nat), k < n → effsTo b n = true → effOk b k (b.effs.getD k ⟨0, 0, 0, ⟨0, 0, 0⟩, []⟩) = true
  | n + 1, k, hk, h => by
    rw [effsTo, Bool.and_eq_true] at h
    rcases Nat.lt_succ_iff_lt_or_eq.1 hk with hk | rfl
    · exact effsTo_at' b n k hk h.1
    · exact h.2
/-- What the content comes to: a batch, or none. -/
def decC (p : Bool) (c : List UInt8) : Option Bt := if (batF p c (some 2)).2 = some c.length ∧ isB (batF p c (some 2)).1 = true then some (batF p c (some 2)).1 else none
/-- What Decode comes to. -/
def tail4 (s : List UInt8) : List UInt8 := s.drop (s.length - 4)
def body (s : List UInt8) : List UInt8 := s.take (s.length - 4)
def num2 (s : List UInt8) : Int := 256 * (s.getD 0 0).toNat + (s.getD 1 0).toNat
def dec (s : List UInt8) : Option Bt := if 4 ≤ s.length ∧ num2 s = s.length ∧ tail4 s = be4 (sum (body s)) then decC true (body s) else none

end Go.Proofs.YtfmcngncaffloaaGreatDoor.Wv

namespace Go.Proofs.YtfmcngncaffloaaGreatDoor.Wv

/-! A sum of 32 bits tells four bytes that stand together. -/
end Go.Proofs.YtfmcngncaffloaaGreatDoor.Wv

namespace Go.Proofs.YtfmcngncaffloaaGreatDoor.Wv

/-! What is written is read. -/
def byteI (n : Int) : Prop := 0 ≤ n ∧ n ≤ 255
def byteD (d : Dt) : Prop := byteI d.o ∧ byteI d.s ∧ byteI d.i
/-- An effect that can be written. -/
structure WrE (e : Ef) : Prop where
  op : 1 ≤ e.op ∧ e.op ≤ 6
  ob : byteI e.ob
  va : -1000 ≤ e.va ∧ e.va ≤ 1000
  ref0 : rRef e.op = 0 → e.ref = ⟨0, 0, 0⟩
  ref : byteD e.ref
  dots0 : ¬ 0 < rMostD e.op → e.dots = []
  dots : ∀ d ∈ e.dots, byteD d
  len : e.dots.length ≤ 150
end Go.Proofs.YtfmcngncaffloaaGreatDoor.Wv

namespace Go.Proofs.YtfmcngncaffloaaGreatDoor.Wv

theorem wrE_len {b : Bt} (h : isB b = true) : (contentB b).length ≤ 2600 := by
  have h' := h
  simp only [isB, Bool.and_eq_true] at h'
  have hH := h'.1
  simp only [headOk, Bool.and_eq_true, decide_eq_true_eq] at hH
  have hd : ∀ e ∈ b.effs, (effB e).length ≤ 500 := by
    intro e he
    obtain ⟨k, hk, rfl⟩ := List.mem_iff_getElem.1 he
    have := effsTo_at' b b.effs.length k hk h'.2
    rw [show b.effs.getD k ⟨0, 0, 0, ⟨0, 0, 0⟩, []⟩ = b.effs[k] by simp [hk]] at this
    simp only [effOk, Bool.and_eq_true, decide_eq_true_eq] at this
    have h3 := this.1.2.2
    have : rMostD b.effs[k].op ≤ 150 := by unfold rMostD; repeat' split <;> omega
    exact effB_len _ (by omega)
  have hl : ∀ l : List Ef, (∀ e ∈ l, (effB e).length ≤ 500) → (l.flatMap effB).length ≤ 500 * l.length := by
    intro l
    induction l with
    | nil => intro _; simp
    | cons x l ih =>
      intro hx
      have h1 := hx x (by simp)
      have h2 := ih (fun y hy => hx y (by simp [hy]))
      simp only [List.flatMap_cons, List.length_append, List.length_cons]
      omega
  have := hl b.effs hd
  have h5 := flat1_len b.clock
  have : (hd4 b).length = 4 := rfl
  simp only [contentB, headB, List.length_append, be1_len]
  omega
end Go.Proofs.YtfmcngncaffloaaGreatDoor.Wv

namespace Go.Proofs.YtfmcngncaffloaaGreatDoor.Wv

theorem frame_len (b : Bt) (h : isB b = true) : (frameB b).length = (contentB b).length + 6 ∧ num2 (frameB b) = (frameB b).length ∧ (contentB b).length ≤ 2600 ∧ 9 ≤ (contentB b).length := by
  have hl := wrE_len h
  have h2 : (be2 ((contentB b).length + 6)).length = 2 := rfl
  have h4 : (be4 (sum (bodyB b) : Nat)).length = 4 := rfl
  have hfl : (frameB b).length = (contentB b).length + 6 := by unfold frameB bodyB; rw [List.length_append, List.length_append, h2]; show 2 + _ + 4 = _; omega
  refine ⟨hfl, ?_, hl, ?_⟩
  · have e : frameB b = UInt8.ofNat (((contentB b).length + 6 : Int) / 256 % 256).toNat :: UInt8.ofNat (((contentB b).length + 6 : Int) % 256).toNat :: (contentB b ++ be4 (sum (bodyB b) : Nat)) := by
      simp [frameB, bodyB, be2]
    have e1 := ofNat_toNat (((contentB b).length + 6 : Int) / 256)
    have e2 := ofNat_toNat ((contentB b).length + 6 : Int)
    rw [hfl, e]
    simp only [num2, List.getD_cons_zero, List.getD_cons_succ]
    omega
  · have h' := h
    simp only [isB, Bool.and_eq_true] at h'
    have hH := h'.1
    simp only [headOk, Bool.and_eq_true, decide_eq_true_eq] at hH
    have h5 := flat1_len b.clock
    have h6 : (hd4 b).length = 4 := rfl
    have h7 : 2 ≤ (b.effs.flatMap effB).length := by
      cases he : b.effs with
      | nil => rw [he] at hH; simp at hH
      | cons x l =>
        rw [List.flatMap_cons, List.length_append]
        have : 4 ≤ (effB x).length := by
          have h2 : (be2 x.va).length = 2 := rfl
          simp only [effB, List.length_append, be1_len, h2]
          omega
        omega
    simp only [contentB, headB, List.length_append, be1_len]
    omega
end Go.Proofs.YtfmcngncaffloaaGreatDoor.Wv

namespace Go.Proofs.YtfmcngncaffloaaGreatDoor.Wv

/-- Which of n things a raw number speaks of. -/
def pk (c n : Int) : Int := (if c < 0 then -(c + 1) else c) % n
theorem pk_lt (c n : Int) (h : 0 < n) : 0 ≤ pk c n ∧ pk c n < n := ⟨Int.emod_nonneg _ (by omega), Int.emod_lt_of_pos _ h⟩
def mkK (n : Int) : Int := 2 + pk n 3
def mkD (k v : Int) : Dt := ⟨pk v k, 1, pk (v.tdiv 7) 5⟩
/-- An effect out of a raw number. -/
def mkE (k v : Int) : Ef :=
  if 1 + pk v 6 = 1 then ⟨1, 0, pk (v.tdiv 6) 2001 - 1000, ⟨0, 0, 0⟩, []⟩
  else if 1 + pk v 6 = 2 then ⟨2, 1, pk (v.tdiv 6) 256, ⟨0, 0, 0⟩, []⟩
  else if 1 + pk v 6 = 3 then ⟨3, 5, 0, ⟨0, 0, 0⟩, [mkD k v]⟩
  else if 1 + pk v 6 = 4 then ⟨4, 2, pk (v.tdiv 6) 256, ⟨0, 0, 0⟩, if pk (v.tdiv 5) 2 = 0 then [⟨0, 1, 2⟩, ⟨1, 1, 0⟩] else []⟩
  else if 1 + pk v 6 = 5 then ⟨5, 7, pk (v.tdiv 6) 256, if pk (v.tdiv 5) 2 = 0 then mkD k v else ⟨0, 0, 0⟩, []⟩
  else ⟨6, 3, 0, mkD k v, []⟩
def mkC (k time : Int) : List Int := (List.range k.toNat).map fun (i : Nat) => 1 + pk (time.tdiv ((i : Int) + 1)) 30
/-- A batch out of raw numbers. -/
def mkB (n origin seq time : Int) (raw : List Int) : Bt :=
  ⟨pk origin (mkK n), 2 + pk seq 29, 1 + pk time 200, (mkC (mkK n) time).set (pk origin (mkK n)).toNat (2 + pk seq 29 - 1), ((n :: raw).take 5).map (mkE (mkK n))⟩
end Go.Proofs.YtfmcngncaffloaaGreatDoor.Wv

namespace Go.Proofs.YtfmcngncaffloaaGreatDoor.Wv

/-- Bytes turned, one behind the other. -/
def chg (l : List UInt8) (i : Nat) (m : Nat → UInt8) : Nat → List UInt8
  | 0 => l
  | k + 1 => (chg l i m k).set (i + k) ((chg l i m k).getD (i + k) 0 ^^^ m k)
def chd (m : Nat → UInt8) : Nat → Bool
  | 0 => false
  | k + 1 => chd m k || m k != 0
/-- How far bytes may be turned: to the sum, or to the end. -/
def stopAt (n i : Nat) : Nat := if i < n - 4 then n - 4 else n
end Go.Proofs.YtfmcngncaffloaaGreatDoor.Wv
