import Derived.Test.YtfmcngncaffloaaDoorPlain4
import Derived.Test.YtfmcngncaffloaaDoorBlk
import Derived.Test.YtfmcngncaffloaaDoorSaid
import Derived.Deep.RegionHeld3
import Derived.Deep.RegionLaw
import Derived.Deep.QuietTactic
import Derived.BigQuiet
namespace Go.Proofs.YtfmcngncaffloaaDoor.Wv

/-- How far a reading has come; none: there was a fault. -/
abbrev St := Option Nat
def one (s : List UInt8) : St → Int
  | some k => if k < s.length then ((s.getD k 0).toNat : Int) else 0
  | none => 0
def nxt (s : List UInt8) : St → St
  | some k => if k < s.length then some (k + 1) else none
  | none => none
def nxt2 (s : List UInt8) (q : St) : St := nxt s (nxt s q)
def nxt3 (s : List UInt8) (q : St) : St := nxt s (nxt s (nxt s q))
def dotR (s : List UInt8) (q : St) : Dt := ⟨one s q, one s (nxt s q), one s (nxt2 s q)⟩
/-- Two bytes: the program's reading (p), the document's. -/
def two (p : Bool) (s : List UInt8) (q : St) : Int := if !p && (nxt2 s q).isNone then 0 else 256 * one s q + one s (nxt s q)
def v16 (n : Int) : Int := if 32768 ≤ n then n - 65536 else n
/-- The same reading so many times. -/
def run {α : Type} (F : St → α × St) : Nat → St → List α × St
  | 0, q => ([], q)
  | n + 1, q => ((run F n q).1 ++ [(F (run F n q).2).1], (F (run F n q).2).2)
def dotF (s : List UInt8) (q : St) : Dt × St := (dotR s q, nxt3 s q)
def oneF (s : List UInt8) (q : St) : Int × St := (one s q, nxt s q)
/-- Behind Op, Object and Value; behind the Ref; behind the Dots. -/
def eff5 (p : Bool) (s : List UInt8) (q : St) : St := if p && !isOp (one s q) then none else nxt2 s (nxt2 s q)
def eff6 (p : Bool) (s : List UInt8) (q : St) : St := if rRef (one s q) = 0 then eff5 p s q else nxt3 s (eff5 p s q)
def effD (p : Bool) (s : List UInt8) (q : St) : List Dt × St := if 0 < rMostD (one s q) then run (dotF s) (one s (eff6 p s q)).toNat (nxt s (eff6 p s q)) else ([], eff6 p s q)
def effF (p : Bool) (s : List UInt8) (q : St) : Ef × St :=
  (⟨one s q, one s (nxt s q), v16 (two p s (nxt2 s q)), if rRef (one s q) = 0 then ⟨0, 0, 0⟩ else dotR s (eff5 p s q), (effD p s q).1⟩, (effD p s q).2)
/-- The Clock, the effects. -/
def batC (s : List UInt8) (q : St) : List Int × St := run (oneF s) (one s (nxt3 s q)).toNat (nxt s (nxt3 s q))
def batE (p : Bool) (s : List UInt8) (q : St) : List Ef × St := run (effF p s) (one s (batC s q).2).toNat (nxt s (batC s q).2)
def batF (p : Bool) (s : List UInt8) (q : St) : Bt × St := (⟨one s q, one s (nxt s q), one s (nxt2 s q), (batC s q).1, (batE p s q).1⟩, (batE p s q).2)

theorem nxt_none (s : List UInt8) : nxt s none = none := rfl
theorem nxt_strict {s : List UInt8} {q : St} (h : nxt s q ≠ none) : q ≠ none := by rintro rfl; exact h rfl
theorem nxt2_strict {s : List UInt8} {q : St} (h : nxt2 s q ≠ none) : q ≠ none := nxt_strict (nxt_strict h)
theorem nxt3_strict {s : List UInt8} {q : St} (h : nxt3 s q ≠ none) : q ≠ none := nxt_strict (nxt_strict (nxt_strict h))
theorem run_strict {α : Type} {F : St → α × St} (hF : ∀ q, (F q).2 ≠ none → q ≠ none) : ∀ (n : Nat) (q : St), (run F n q).2 ≠ none → q ≠ none
  | 0, _, h => h
  | n + 1, q, h => run_strict hF n q (hF _ h)
theorem run_len {α : Type} (F : St → α × St) (n : Nat) (q : St) : (run F n q).1.length = n := by
  induction n with
  | zero => rfl
  | succ n ih => simp [run, ih]
theorem one_lt (s : List UInt8) (q : St) : 0 ≤ one s q ∧ one s q ≤ 255 := by
  cases q with
  | none => simp [one]
  | some k =>
    simp only [one]
    split
    · have := byte_lt (s.getD k 0); omega
    · omega
theorem two_lt (p : Bool) (s : List UInt8) (q : St) : 0 ≤ two p s q ∧ two p s q ≤ 65535 := by
  have h1 := one_lt s q
  have h2 := one_lt s (nxt s q)
  unfold two
  split <;> omega
theorem two_same {s : List UInt8} {q : St} (h : nxt2 s q ≠ none) : two true s q = two false s q := by
  unfold two
  have : (nxt2 s q).isNone = false := by cases hq : nxt2 s q with
    | none => exact absurd hq h
    | some _ => rfl
  simp [this]
theorem effD_strict {p : Bool} {s : List UInt8} {q : St} (h : (effD p s q).2 ≠ none) : eff6 p s q ≠ none := by
  unfold effD at h
  split at h
  · exact nxt_strict (run_strict (fun q h => nxt3_strict h) _ _ h)
  · exact h
theorem eff6_strict {p : Bool} {s : List UInt8} {q : St} (h : eff6 p s q ≠ none) : eff5 p s q ≠ none := by
  unfold eff6 at h
  split at h
  · exact h
  · exact nxt3_strict h
theorem eff5_strict {p : Bool} {s : List UInt8} {q : St} (h : eff5 p s q ≠ none) : nxt2 s (nxt2 s q) ≠ none := by
  unfold eff5 at h
  split at h
  · exact absurd rfl h
  · exact h
theorem effF_strict {p : Bool} {s : List UInt8} {q : St} (h : (effF p s q).2 ≠ none) : q ≠ none := nxt2_strict (nxt2_strict (eff5_strict (eff6_strict (effD_strict h))))
/-- The program's reading and the document's, of an operation that is one. -/
theorem eff_same {s : List UInt8} {q : St} (ho : isOp (one s q) = true) (h : nxt2 s (nxt2 s q) ≠ none) : effF true s q = effF false s q := by
  have h5 : eff5 true s q = eff5 false s q := by simp [eff5, ho]
  have h6 : eff6 true s q = eff6 false s q := by simp [eff6, h5]
  have hD : effD true s q = effD false s q := by simp [effD, h6]
  simp only [effF, h5, hD, two_same h]
theorem eff_fore {s : List UInt8} {q : St} (h : (effF true s q).2 ≠ none) : effF false s q = effF true s q := by
  have h5 := eff6_strict (effD_strict h)
  refine (eff_same ?_ (eff5_strict h5)).symm
  cases ho : isOp (one s q) with
  | true => rfl
  | false => exact absurd (by simp [eff5, ho]) h5
theorem eff_back {s : List UInt8} {q : St} (h : (effF false s q).2 ≠ none) (ho : isOp (effF false s q).1.op = true) : effF true s q = effF false s q :=
  eff_same ho (eff5_strict (eff6_strict (effD_strict h)))
theorem run_fore {s : List UInt8} : ∀ (n : Nat) (q : St), (run (effF true s) n q).2 ≠ none → run (effF false s) n q = run (effF true s) n q
  | 0, _, _ => rfl
  | n + 1, q, h => by
    have ih := run_fore n q (effF_strict h)
    simp only [run, ih, eff_fore h]
theorem run_back {s : List UInt8} : ∀ (n : Nat) (q : St), (run (effF false s) n q).2 ≠ none → (∀ e ∈ (run (effF false s) n q).1, isOp e.op = true) → run (effF true s) n q = run (effF false s) n q
  | 0, _, _, _ => rfl
  | n + 1, q, h, ho => by
    have ih := run_back n q (effF_strict h) (fun e he => ho e (by simp [run, he]))
    have := eff_back h (ho _ (by simp [run]))
    simp only [run, ih, this]
theorem bat_fore {s : List UInt8} {q : St} (h : (batF true s q).2 ≠ none) : batF false s q = batF true s q := by
  have : batE false s q = batE true s q := run_fore _ _ h
  simp only [batF, this]
theorem bat_back {s : List UInt8} {q : St} (h : (batF false s q).2 ≠ none) (ho : ∀ e ∈ (batF false s q).1.effs, isOp e.op = true) : batF true s q = batF false s q := by
  have : batE true s q = batE false s q := run_back _ _ h ho
  simp only [batF, this]
theorem effsTo_at' (b : Bt) : ∀ (n k : Nat), k < n → effsTo b n = true → effOk b k (b.effs.getD k ⟨0, 0, 0, ⟨0, 0, 0⟩, []⟩) = true
  | n + 1, k, hk, h => by
    rw [effsTo, Bool.and_eq_true] at h
    rcases Nat.lt_succ_iff_lt_or_eq.1 hk with hk | rfl
    · exact effsTo_at' b n k hk h.1
    · exact h.2
theorem isB_ops {b : Bt} (h : isB b = true) : ∀ e ∈ b.effs, isOp e.op = true := by
  intro e he
  obtain ⟨k, hk, rfl⟩ := List.mem_iff_getElem.1 he
  simp only [isB, Bool.and_eq_true] at h
  have := effsTo_at' b b.effs.length k hk h.2
  simp only [effOk, Bool.and_eq_true] at this
  simpa [hk] using this.1.1.1.1.1
/-- What the content comes to: a batch, or none. -/
def decC (p : Bool) (c : List UInt8) : Option Bt := if (batF p c (some 2)).2 = some c.length ∧ isB (batF p c (some 2)).1 = true then some (batF p c (some 2)).1 else none
theorem decC_same (c : List UInt8) : decC true c = decC false c := by
  unfold decC
  by_cases h : (batF true c (some 2)).2 = some c.length
  · rw [bat_fore (by rw [h]; simp)]
  · by_cases h' : (batF false c (some 2)).2 = some c.length ∧ isB (batF false c (some 2)).1 = true
    · have := bat_back (s := c) (q := some 2) (by rw [h'.1]; simp) (isB_ops h'.2)
      rw [this] at h
      exact absurd h'.1 h
    · rw [if_neg (fun e => h e.1), if_neg h']
/-- Short contents are none. -/
theorem decC_short (p : Bool) (c : List UInt8) (h : c.length ≤ 2) : decC p c = none := by
  unfold decC
  rw [if_neg]
  rintro ⟨h1, _⟩
  have : (batF p c (some 2)).2 ≠ none := by rw [h1]; simp
  have := run_strict (fun q h => effF_strict h) _ _ this
  have := run_strict (fun q h => nxt_strict h) _ _ (nxt_strict this)
  have h3 : nxt3 c (some 2) = none := by
    have : nxt c (some 2) = none := by simp [nxt]; omega
    rw [nxt3, this]; rfl
  exact absurd h3 (nxt_strict this)
/-- What Decode comes to. -/
def tail4 (s : List UInt8) : List UInt8 := s.drop (s.length - 4)
def body (s : List UInt8) : List UInt8 := s.take (s.length - 4)
def num2 (s : List UInt8) : Int := 256 * (s.getD 0 0).toNat + (s.getD 1 0).toNat
def dec (s : List UInt8) : Option Bt := if 4 ≤ s.length ∧ num2 s = s.length ∧ tail4 s = be4 (sum (body s)) then decC true (body s) else none

end Go.Proofs.YtfmcngncaffloaaDoor.Wv

namespace Go.Proofs.YtfmcngncaffloaaDoor
open Go.RowKit
set_option maxRecDepth 100000

abbrev FltF (n : Int) (why : Value) : Value := .iface 110 (.agg #[I n, why])
/-- What the package-level errors of frames hold. -/
structure Gd (w : World) : Prop where
  cut : ∃ a, w.cell? ⟨6, 0, none⟩ = some (Sent a)
  len : ∃ a, w.cell? ⟨2, 0, none⟩ = some (Sent a)
  sum : ∃ a, w.cell? ⟨3, 0, none⟩ = some (Sent a)
  rest : ∃ a, w.cell? ⟨1, 0, none⟩ = some (Sent a)
theorem Gd.kept {w w' : World} (g : Gd w) (hb : Below w.heap.size w w') : Gd w' :=
  ⟨g.cut.imp fun _ h => cell_kept hb h, g.len.imp fun _ h => cell_kept hb h, g.sum.imp fun _ h => cell_kept hb h, g.rest.imp fun _ h => cell_kept hb h⟩
/-- A reader, and how far it has come. -/
def Rd (w : World) (g : Nat) (c : List UInt8) : Wv.St → Prop
  | some k => Blk w g #[.string ⟨c.toArray⟩, I k, .nilIface] 84
  | none => ∃ a n why, Blk w g #[.string ⟨c.toArray⟩, I a, FltF n why] 84
theorem Rd.grown {w w' : World} {g : Nat} {c : List UInt8} {q : Wv.St} {row : Option Nat} (h : Rd w g c q) (hg : w.grownBy w' row) (hne : some g ≠ row) : Rd w' g c q := by
  cases q with
  | some k => exact Blk.grown h hg hne
  | none => obtain ⟨a, n, y, h⟩ := h; exact ⟨a, n, y, Blk.grown h hg hne⟩
theorem Rd.kept {w w' : World} {B g : Nat} {c : List UInt8} {q : Wv.St} (h : Rd w g c q) (hb : Below B w w') (hg : g < B) : Rd w' g c q := by
  cases q with
  | some k => exact Blk.kept h hb hg
  | none => obtain ⟨a, n, y, h⟩ := h; exact ⟨a, n, y, Blk.kept h hb hg⟩
theorem Rd.lt {w : World} {g : Nat} {c : List UInt8} {q : Wv.St} (h : Rd w g c q) : g < w.heap.size := by
  cases q with
  | some k => exact Blk.lt h
  | none => obtain ⟨a, n, y, h⟩ := h; exact Blk.lt h
theorem grown_set (w : World) (g j : Nat) (u : Value) : w.grownBy (w.setCell ⟨g, j, none⟩ u) (some g) :=
  ⟨rfl, rfl, rfl, by simp [World.setCell], fun k _ hk => heap_setCell_other w ⟨g, j, none⟩ k u (fun e => hk (by rw [e]))⟩
theorem grown_refl (w : World) (row : Option Nat) : w.grownBy w row := ⟨rfl, rfl, rfl, Nat.le_refl _, fun _ _ _ => rfl⟩

set_option maxHeartbeats 400000 in
theorem fail_some (c : List UInt8) (k : Nat) (g : Nat) (T : TypeId) (x : Value) (w : World) (h : Rd w g c (some k)) :
    Calls Tryd.prog 41 #[.pointer (some ⟨g, 0, none⟩), .iface T x] w fun e w' => e = .returned (.tuple #[]) ∧ Rd w' g c none ∧ w.grownBy w' (some g) := by
  have h' : Hid (Blk w g #[.string ⟨c.toArray⟩, I k, .nilIface] 84) := h
  have c0 : w.cell? ⟨g, 0, none⟩ = some (.string ⟨c.toArray⟩) := h'.out.cell 0
  have c1 : w.cell? ⟨g, 1, none⟩ = some (I k) := h'.out.cell 1
  have c2 : w.cell? ⟨g, 2, none⟩ = some .nilIface := h'.out.cell 2
  have z2 := h'.out.frozen 2
  clear h
  go_enter Tryd.func41, Tryd.ntmps41
  go_wp2
  go_end0
  exact ⟨rfl, ⟨_, _, _, h'.out.set 2 _⟩, grown_set _ _ _ _⟩

set_option maxHeartbeats 400000 in
theorem fail_none (c : List UInt8) (g : Nat) (v : Value) (w : World) (h : Rd w g c none) :
    Calls Tryd.prog 41 #[.pointer (some ⟨g, 0, none⟩), v] w fun e w' => e = .returned (.tuple #[]) ∧ Rd w' g c none ∧ w.grownBy w' (some g) := by
  obtain ⟨a, n, y, h⟩ := h
  have h' : Hid (Blk w g #[.string ⟨c.toArray⟩, I a, FltF n y] 84) := h
  have c2 : w.cell? ⟨g, 2, none⟩ = some (FltF n y) := h'.out.cell 2
  clear h
  go_enter Tryd.func41, Tryd.ntmps41
  go_wp2
  go_end0
  exact ⟨rfl, ⟨_, _, _, h'.out⟩, grown_refl _ _⟩

set_option maxHeartbeats 400000 in
theorem fail_nil (c : List UInt8) (k : Nat) (g : Nat) (w : World) (h : Rd w g c (some k)) :
    Calls Tryd.prog 41 #[.pointer (some ⟨g, 0, none⟩), .nilIface] w fun e w' => e = .returned (.tuple #[]) ∧ Rd w' g c (some k) ∧ w.grownBy w' (some g) := by
  have h' : Hid (Blk w g #[.string ⟨c.toArray⟩, I k, .nilIface] 84) := h
  have c2 : w.cell? ⟨g, 2, none⟩ = some .nilIface := h'.out.cell 2
  clear h
  go_enter Tryd.func41, Tryd.ntmps41
  go_wp2
  go_end0
  exact ⟨rfl, h'.out, grown_refl _ _⟩

end Go.Proofs.YtfmcngncaffloaaDoor

namespace Go.Proofs.YtfmcngncaffloaaDoor
open Go.RowKit
set_option maxRecDepth 100000

theorem str_get (c : List UInt8) (k : Nat) (hk : k < c.length) (h : k < (⟨c.toArray⟩ : ByteArray).size) : (⟨c.toArray⟩ : ByteArray)[k] = c.getD k 0 := by
  simp [ByteArray.getElem_eq_getElem_data, hk]
theorem grown_drew {w w' : World} {row : Option Nat} (h : w.grownBy w' row) (n : Nat) : w.grownBy (w'.drewN n) row := ⟨h.os, h.tape, h.output, h.size, h.block⟩
theorem grown_drew0 {w w' : World} {row : Option Nat} {n : Nat} (h : (w.drewN n).grownBy w' row) : w.grownBy w' row := ⟨h.os, h.tape, h.output, h.size, h.block⟩
set_option maxHeartbeats 800000 in
theorem one_some (c : List UInt8) (k : Nat) (g : Nat) (w : World) (h : Rd w g c (some k)) (hk : k < c.length) (hc : c.length ≤ 9223372036854775807) :
    Calls Tryd.prog 59 #[.pointer (some ⟨g, 0, none⟩)] w fun e w' => e = .returned (I (c.getD k 0).toNat) ∧ Rd w' g c (some (k + 1)) ∧ w.grownBy w' (some g) := by
  have h' : Hid (Blk w g #[.string ⟨c.toArray⟩, I k, .nilIface] 84) := h
  have c0 : w.cell? ⟨g, 0, none⟩ = some (.string ⟨c.toArray⟩) := h'.out.cell 0
  have c1 : w.cell? ⟨g, 1, none⟩ = some (I k) := h'.out.cell 1
  have c2 : w.cell? ⟨g, 2, none⟩ = some .nilIface := h'.out.cell 2
  have z1 := h'.out.frozen 1
  have hs : (⟨c.toArray⟩ : ByteArray).size = c.length := by simp [ByteArray.size]
  have hb := Wv.byte_lt (c.getD k 0)
  clear h
  go_enter Tryd.func59, Tryd.ntmps59
  go_wp2
  go_quiet (fail)
  go_wp2
  go_quiet (fail)
  go_wp2
  go_ret
  exact ⟨ret_int (by rw [str_get c k hk]; unfold wrap64; omega), h'.out.set 1 _, grown_drew (grown_drew0 (grown_set _ _ _ _)) _⟩

set_option maxHeartbeats 800000 in
theorem one_end (c : List UInt8) (k : Nat) (g : Nat) (w w0 : World) (g0 : Gd w0) (hb : Below w0.heap.size w0 w) (h : Rd w g c (some k)) (hk : ¬ k < c.length) :
    Calls Tryd.prog 59 #[.pointer (some ⟨g, 0, none⟩)] w fun e w' => e = .returned (I 0) ∧ Rd w' g c none ∧ w.grownBy w' (some g) := by
  have h' : Hid (Blk w g #[.string ⟨c.toArray⟩, I k, .nilIface] 84) := h
  have c0 : w.cell? ⟨g, 0, none⟩ = some (.string ⟨c.toArray⟩) := h'.out.cell 0
  have c1 : w.cell? ⟨g, 1, none⟩ = some (I k) := h'.out.cell 1
  obtain ⟨a, ha⟩ := g0.cut
  have ha := cell_kept hb ha
  have hz := lt_of_cell ha
  have hs : (⟨c.toArray⟩ : ByteArray).size = c.length := by simp [ByteArray.size]
  clear h g0 hb
  go_enter Tryd.func59, Tryd.ntmps59
  go_wp2
  go_quiet (fail)
  go_wp2_with fail
  refine (fail_some c k g _ _ (w.drewN nq) h'.out).mono ?_
  rintro e w1 ⟨rfl, ⟨a1, n1, y1, hR⟩, hg⟩
  have HR : Hid (Blk w1 g #[.string ⟨c.toArray⟩, I a1, FltF n1 y1] 84) := hR
  have HG : Hid (w.grownBy w1 (some g)) := grown_drew0 hg
  have c2 : w1.cell? ⟨g, 2, none⟩ = some (FltF n1 y1) := hR.cell 2
  clear hR hg c0 c1 ha hz
  go_wp2
  go_ret
  exact ⟨rfl, ⟨_, _, _, HR.out⟩, HG.out⟩

set_option maxHeartbeats 800000 in
theorem one_none (c : List UInt8) (g : Nat) (w w0 : World) (g0 : Gd w0) (hb : Below w0.heap.size w0 w) (h : Rd w g c none) :
    Calls Tryd.prog 59 #[.pointer (some ⟨g, 0, none⟩)] w fun e w' => e = .returned (I 0) ∧ Rd w' g c none ∧ w.grownBy w' (some g) := by
  have HN : Hid (Rd w g c none) := h
  obtain ⟨a, n, y, h⟩ := h
  have h' : Hid (Blk w g #[.string ⟨c.toArray⟩, I a, FltF n y] 84) := h
  have c0 : w.cell? ⟨g, 0, none⟩ = some (.string ⟨c.toArray⟩) := h'.out.cell 0
  have c1 : w.cell? ⟨g, 1, none⟩ = some (I a) := h'.out.cell 1
  have c2 : w.cell? ⟨g, 2, none⟩ = some (FltF n y) := h'.out.cell 2
  obtain ⟨ad, ha⟩ := g0.cut
  have ha := cell_kept hb ha
  have hz := lt_of_cell ha
  clear h g0 hb
  by_cases hk : (c.length : Int) ≤ a
  · go_enter Tryd.func59, Tryd.ntmps59
    go_wp2
    go_quiet (fail)
    go_wp2_with fail
    refine (fail_none c g _ (w.drewN nq) HN.out).mono ?_
    rintro e w1 ⟨rfl, ⟨a1, n1, y1, hR⟩, hg⟩
    have HR : Hid (Blk w1 g #[.string ⟨c.toArray⟩, I a1, FltF n1 y1] 84) := hR
    have HG : Hid (w.grownBy w1 (some g)) := grown_drew0 hg
    have c2 : w1.cell? ⟨g, 2, none⟩ = some (FltF n1 y1) := hR.cell 2
    clear hR hg c0 c1 ha hz
    go_wp2
    go_ret
    exact ⟨rfl, ⟨_, _, _, HR.out⟩, HG.out⟩
  · go_enter Tryd.func59, Tryd.ntmps59
    go_wp2
    go_quiet (fail)
    go_wp2
    go_ret
    exact ⟨rfl, HN.out, grown_drew (grown_refl _ _) _⟩

/-- A byte. -/
theorem one_any (c : List UInt8) (q : Wv.St) (g : Nat) (w w0 : World) (g0 : Gd w0) (hb : Below w0.heap.size w0 w) (h : Rd w g c q) (hc : c.length ≤ 9223372036854775807) :
    Calls Tryd.prog 59 #[.pointer (some ⟨g, 0, none⟩)] w fun e w' => e = .returned (I (Wv.one c q)) ∧ Rd w' g c (Wv.nxt c q) ∧ w.grownBy w' (some g) := by
  cases q with
  | none => exact one_none c g w w0 g0 hb h
  | some k =>
    by_cases hk : k < c.length
    · have := one_some c k g w h hk hc
      simp only [Wv.one, Wv.nxt, hk, if_true]
      exact this
    · have := one_end c k g w w0 g0 hb h hk
      simp only [Wv.one, Wv.nxt, hk, if_false]
      exact this

end Go.Proofs.YtfmcngncaffloaaDoor

namespace Go.Proofs.YtfmcngncaffloaaDoor
open Go.RowKit
set_option maxRecDepth 100000

theorem grown_trans {w w' w2 : World} {row : Option Nat} (h : w.grownBy w' row) (h2 : w'.grownBy w2 row) : w.grownBy w2 row :=
  ⟨h2.os.trans h.os, h2.tape.trans h.tape, h2.output.trans h.output, Nat.le_trans h.size h2.size, fun k hk hr => (h2.block k (Nat.lt_of_lt_of_le hk h.size) hr).trans (h.block k hk hr)⟩
theorem below_g {w0 w w' : World} {g : Nat} (h : Below w0.heap.size w0 w) (hg : w.grownBy w' (some g)) (hw : w0.heap.size ≤ g) : Below w0.heap.size w0 w' :=
  h.grown hg h.size (fun k e => by cases e; exact hw)

theorem or_byte (a b : Int) (h1 : 0 ≤ a) (h2 : a ≤ 255) (h3 : 0 ≤ b) (h4 : b ≤ 255) : bits BinOp.or IntKind.i64 (a * 256) b = 256 * a + b := by
  obtain ⟨x, rfl⟩ := Int.eq_ofNat_of_zero_le h1
  obtain ⟨y, rfl⟩ := Int.eq_ofNat_of_zero_le h3
  have e : ((x : Int) * 256) = ((x * 256 : Nat) : Int) := by omega
  have k : x * 256 ||| y = x * 256 + y := by
    have := Nat.shiftLeft_add_eq_or_of_lt (b := y) (i := 8) (by omega) x
    rw [Nat.shiftLeft_eq] at this
    exact this.symm
  rw [e]
  show IntKind.i64.wrap ((BitVec.ofInt 64 ((x * 256 : Nat) : Int) ||| BitVec.ofInt 64 ((y : Nat) : Int)).toNat : Int) = _
  rw [BitVec.toNat_or, BitVec.ofInt_natCast, BitVec.ofInt_natCast, BitVec.toNat_ofNat, BitVec.toNat_ofNat, Nat.mod_eq_of_lt (by omega), Nat.mod_eq_of_lt (by omega), k, IntKind.wrap_i64]
  omega

set_option maxHeartbeats 800000 in
theorem rtwo_any (c : List UInt8) (q : Wv.St) (g : Nat) (w w0 : World) (g0 : Gd w0) (hb : Below w0.heap.size w0 w) (hg : w0.heap.size ≤ g) (h : Rd w g c q) (hc : c.length ≤ 9223372036854775807) :
    Calls Tryd.prog 57 #[.pointer (some ⟨g, 0, none⟩)] w fun e w' => e = .returned (I (Wv.two true c q)) ∧ Rd w' g c (Wv.nxt2 c q) ∧ w.grownBy w' (some g) := by
  have h' : Hid (Rd w g c q) := h
  have HB : Hid (Below w0.heap.size w0 w) := hb
  have G0 : Hid (Gd w0) := g0
  have HT : Hid (Wv.two true c q = 256 * Wv.one c q + Wv.one c (Wv.nxt c q)) := by show _ = _; simp [Wv.two]
  obtain ⟨a1, a2⟩ := Wv.one_lt c q
  obtain ⟨b1, b2⟩ := Wv.one_lt c (Wv.nxt c q)
  have hw : wrap64 (Wv.one c q * 256) = Wv.one c q * 256 := by unfold wrap64; omega
  have ho := or_byte _ _ a1 a2 b1 b2
  clear h hb g0
  go_enter Tryd.func57, Tryd.ntmps57
  go_wp2_with fail
  refine (one_any c q g _ w0 G0.out HB.out h'.out hc).mono ?_
  rintro e w1 ⟨rfl, hR, hG⟩
  have HR : Hid (Rd w1 g c (Wv.nxt c q)) := hR
  have HG : Hid (w.grownBy w1 (some g)) := hG
  have HB1 : Hid (Below w0.heap.size w0 w1) := below_g HB.out hG hg
  clear hR hG
  go_wp2_with fail
  refine (one_any c _ g _ w0 G0.out HB1.out HR.out hc).mono ?_
  rintro e w2 ⟨rfl, hR2, hG2⟩
  have HR2 : Hid (Rd w2 g c (Wv.nxt2 c q)) := hR2
  have HG2 : Hid (w.grownBy w2 (some g)) := grown_trans HG.out hG2
  clear hR2 hG2
  go_wp2
  go_ret
  exact ⟨ret_int HT.out.symm, HR2.out, HG2.out⟩

theorem grown_new {w w' : World} {o : Obj} {row : Option Nat} (h : (w.alloc o).grownBy w' row) : w.grownBy w' row :=
  ⟨h.os, h.tape, h.output, Nat.le_trans (by simp) h.size, fun k hk hr => (h.block k (by simp; omega) hr).trans (Below.heap_alloc w o k hk)⟩
theorem grown_set_new {w w' : World} {row : Option Nat} (h : w.grownBy w' row) {a : Addr} (ha : w.heap.size ≤ a.block) (u : Value) : w.grownBy (w'.setCell a u) row :=
  ⟨h.os, h.tape, h.output, Nat.le_trans h.size (by simp [World.setCell]), fun k hk hr => (heap_setCell_other w' a k u (by omega)).trans (h.block k hk hr)⟩
theorem Rd.other {w : World} {g : Nat} {c : List UInt8} {q : Wv.St} (h : Rd w g c q) {a : Addr} (ha : g ≠ a.block) (u : Value) : Rd (w.setCell a u) g c q := by
  cases q with
  | some k => exact Blk.other h ha u
  | none => obtain ⟨b, n, y, h⟩ := h; exact ⟨b, n, y, Blk.other h ha u⟩
theorem Rd.alloc {w : World} {g : Nat} {c : List UInt8} {q : Wv.St} (h : Rd w g c q) (o : Obj) : Rd (w.alloc o) g c q := by
  cases q with
  | some k => exact Blk.alloc h o
  | none => obtain ⟨b, n, y, h⟩ := h; exact ⟨b, n, y, Blk.alloc h o⟩

set_option maxHeartbeats 800000 in
theorem rddot_any (c : List UInt8) (q : Wv.St) (g : Nat) (w w0 : World) (g0 : Gd w0) (hb : Below w0.heap.size w0 w) (hg : w0.heap.size ≤ g) (h : Rd w g c q) (hc : c.length ≤ 9223372036854775807) :
    Calls Tryd.prog 68 #[.pointer (some ⟨g, 0, none⟩)] w fun e w' => e = .returned (dotV (Wv.dotR c q)) ∧ Rd w' g c (Wv.nxt3 c q) ∧ w.grownBy w' (some g) := by
  have hlt := h.lt
  have hne : g ≠ w.heap.size := by omega
  have h' : Hid (Rd (w.alloc (.cells #[.int .i64 0, .int .i64 0, .int .i64 0] 40)) g c q) := h.alloc _
  have HB : Hid (Below w0.heap.size w0 (w.alloc (.cells #[.int .i64 0, .int .i64 0, .int .i64 0] 40))) := hb.alloc hb.size _
  have HK : Hid (Blk (w.alloc (.cells #[.int .i64 0, .int .i64 0, .int .i64 0] 40)) w.heap.size #[.int .i64 0, .int .i64 0, .int .i64 0] 40) := heap_alloc_new w _
  have G0 : Hid (Gd w0) := g0
  clear h hb g0
  go_enter Tryd.func68, Tryd.ntmps68
  go_wp2_with fail
  refine (one_any c q g _ w0 G0.out HB.out h'.out hc).mono ?_
  rintro e w1 ⟨rfl, hR, hG⟩
  have HR : Hid (Rd w1 g c (Wv.nxt c q)) := hR
  have HG : Hid ((w.alloc (.cells #[.int .i64 0, .int .i64 0, .int .i64 0] 40)).grownBy w1 (some g)) := hG
  have HB1 : Hid (Below w0.heap.size w0 w1) := below_g HB.out hG hg
  clear hR hG
  go_wp2_with fail
  refine (one_any c _ g _ w0 G0.out HB1.out HR.out hc).mono ?_
  rintro e w2 ⟨rfl, hR2, hG2⟩
  have HR2 : Hid (Rd w2 g c (Wv.nxt2 c q)) := hR2
  have HG2 : Hid ((w.alloc (.cells #[.int .i64 0, .int .i64 0, .int .i64 0] 40)).grownBy w2 (some g)) := grown_trans HG.out hG2
  have HB2 : Hid (Below w0.heap.size w0 w2) := below_g HB1.out hG2 hg
  clear hR2 hG2
  go_wp2_with fail
  refine (one_any c _ g _ w0 G0.out HB2.out HR2.out hc).mono ?_
  rintro e w3 ⟨rfl, hR3, hG3⟩
  have HR3 : Hid (Rd w3 g c (Wv.nxt3 c q)) := hR3
  have HG3 : Hid ((w.alloc (.cells #[.int .i64 0, .int .i64 0, .int .i64 0] 40)).grownBy w3 (some g)) := grown_trans HG2.out hG3
  have HK3 : Hid (Blk w3 w.heap.size #[.int .i64 0, .int .i64 0, .int .i64 0] 40) := HK.out.grown HG3.out (by simp; omega)
  have d0 : w3.cell? ⟨w.heap.size, 0, none⟩ = some (.int .i64 0) := HK3.out.cell 0
  have d1 : w3.cell? ⟨w.heap.size, 1, none⟩ = some (.int .i64 0) := HK3.out.cell 1
  have d2 : w3.cell? ⟨w.heap.size, 2, none⟩ = some (.int .i64 0) := HK3.out.cell 2
  have z0 := HK3.out.frozen 0
  have z1 := HK3.out.frozen 1
  have z2 := HK3.out.frozen 2
  clear hR3 hG3
  go_wp2
  have HF : Hid (Blk (((w3.setCell ⟨w.heap.size, 0, none⟩ (I (Wv.one c q))).setCell ⟨w.heap.size, 1, none⟩ (I (Wv.one c (Wv.nxt c q)))).setCell ⟨w.heap.size, 2, none⟩ (I (Wv.one c (Wv.nxt2 c q)))) w.heap.size #[I (Wv.one c q), I (Wv.one c (Wv.nxt c q)), I (Wv.one c (Wv.nxt2 c q))] 40) := ((HK3.out.set 0 _).set 1 _).set 2 _
  have HZ : Hid (Rd (((w3.setCell ⟨w.heap.size, 0, none⟩ (I (Wv.one c q))).setCell ⟨w.heap.size, 1, none⟩ (I (Wv.one c (Wv.nxt c q)))).setCell ⟨w.heap.size, 2, none⟩ (I (Wv.one c (Wv.nxt2 c q)))) g c (Wv.nxt3 c q)) := ((HR3.out.other hne _).other hne _).other hne _
  have HY : Hid (w.grownBy (((w3.setCell ⟨w.heap.size, 0, none⟩ (I (Wv.one c q))).setCell ⟨w.heap.size, 1, none⟩ (I (Wv.one c (Wv.nxt c q)))).setCell ⟨w.heap.size, 2, none⟩ (I (Wv.one c (Wv.nxt2 c q)))) (some g)) := grown_set_new (grown_set_new (grown_set_new (grown_new HG3.out) (Nat.le_refl _) _) (Nat.le_refl _) _) (Nat.le_refl _) _
  generalize (((w3.setCell ⟨w.heap.size, 0, none⟩ (I (Wv.one c q))).setCell ⟨w.heap.size, 1, none⟩ (I (Wv.one c (Wv.nxt c q)))).setCell ⟨w.heap.size, 2, none⟩ (I (Wv.one c (Wv.nxt2 c q)))) = wF at *
  have f0 : wF.cell? ⟨w.heap.size, 0, none⟩ = some (I (Wv.one c q)) := HF.out.cell 0
  have f1 : wF.cell? ⟨w.heap.size, 1, none⟩ = some (I (Wv.one c (Wv.nxt c q))) := HF.out.cell 1
  have f2 : wF.cell? ⟨w.heap.size, 2, none⟩ = some (I (Wv.one c (Wv.nxt2 c q))) := HF.out.cell 2
  refine bodyPost_ret (v := dotV (Wv.dotR c q)) (by simp [results, Tryd.results68, go_sem, f0, f1, f2]; exact ⟨rfl, rfl, rfl⟩) rfl ⟨rfl, HZ.out, HY.out⟩

end Go.Proofs.YtfmcngncaffloaaDoor

namespace Go.Proofs.YtfmcngncaffloaaDoor.Wv

theorem nxt_le {s : List UInt8} {q : St} {k : Nat} (h : nxt s q = some k) : k ≤ s.length := by
  cases q with
  | none => cases h
  | some j =>
    simp only [nxt] at h
    split at h
    · cases h; omega
    · cases h
theorem run_le {α : Type} {F : St → α × St} {L : Nat} (hF : ∀ q k, (F q).2 = some k → k ≤ L) (n : Nat) (q : St) (hq : ∀ k, q = some k → k ≤ L) (k : Nat) (h : (run F n q).2 = some k) : k ≤ L := by
  cases n with
  | zero => exact hq k h
  | succ n => exact hF _ k h
theorem eff5_le {p : Bool} {s : List UInt8} {q : St} {k : Nat} (h : eff5 p s q = some k) : k ≤ s.length := by
  unfold eff5 at h
  split at h
  · cases h
  · exact nxt_le h
theorem eff6_le {p : Bool} {s : List UInt8} {q : St} {k : Nat} (h : eff6 p s q = some k) : k ≤ s.length := by
  unfold eff6 at h
  split at h
  · exact eff5_le h
  · exact nxt_le h
theorem effF_le {p : Bool} {s : List UInt8} {q : St} {k : Nat} (h : (effF p s q).2 = some k) : k ≤ s.length := by
  have h' : (effD p s q).2 = some k := h
  unfold effD at h'
  split at h'
  · exact run_le (fun q k h => nxt_le h) _ _ (fun k h => nxt_le h) k h'
  · exact eff6_le h'
theorem batF_le {p : Bool} {s : List UInt8} {q : St} {k : Nat} (h : (batF p s q).2 = some k) : k ≤ s.length :=
  run_le (fun _ _ h => effF_le h) _ _ (fun _ h => nxt_le h) k h
theorem body_tail (s : List UInt8) : body s ++ tail4 s = s := List.take_append_drop _ _
theorem body_len (s : List UInt8) : (body s).length = s.length - 4 := by simp [body]
theorem seal_iff (s : List UInt8) : body s ++ be4 (sum (body s) : Nat) = s ↔ tail4 s = be4 (sum (body s) : Nat) :=
  ⟨fun h => (List.append_cancel_left (h.trans (body_tail s).symm)).symm, fun h => by rw [← h, body_tail]⟩

end Go.Proofs.YtfmcngncaffloaaDoor.Wv
namespace Go.Proofs.YtfmcngncaffloaaDoor
open Go.RowKit
set_option maxRecDepth 100000

theorem str_size (l : List UInt8) : (⟨l.toArray⟩ : ByteArray).size = l.length := by simp [ByteArray.size]
theorem str_inj {a b : List UInt8} : ((⟨a.toArray⟩ : ByteArray) = ⟨b.toArray⟩) ↔ a = b := by
  constructor
  · intro h
    have := congrArg (fun x : ByteArray => x.data.toList) h
    simpa using this
  · rintro rfl; rfl
theorem str_take (l : List UInt8) (n : Nat) : (⟨l.toArray⟩ : ByteArray).extract 0 n = ⟨(l.take n).toArray⟩ := by
  apply ByteArray.ext
  simp [ByteArray.data_extract]

set_option maxHeartbeats 400000 in
theorem sopen_short (l : List UInt8) (w : World) (h : l.length < 4) :
    Calls Tryd.prog 58 #[.string ⟨l.toArray⟩] w fun e w' => e = .returned (.tuple #[.string ⟨#[]⟩, .bool false]) ∧ Below w.heap.size w w' := by
  have hs := str_size l
  go_enter Tryd.func58, Tryd.ntmps58
  go_wp2
  go_ret2
  exact ⟨rfl, Below.refl _ _⟩

set_option maxHeartbeats 800000 in
theorem sopen_yes (l : List UInt8) (w : World) (h : 4 ≤ l.length) (h2 : l.length ≤ 65535) (ht : Wv.tail4 l = Wv.be4 (Wv.sum (Wv.body l) : Nat)) :
    Calls Tryd.prog 58 #[.string ⟨l.toArray⟩] w fun e w' => e = .returned (.tuple #[.string ⟨(Wv.body l).toArray⟩, .bool true]) ∧ Below w.heap.size w w' := by
  have hs := str_size l
  have hx : (⟨l.toArray⟩ : ByteArray).extract 0 (l.length - 4) = ⟨(Wv.body l).toArray⟩ := str_take l _
  have HT : Hid _ := ht
  clear ht
  go_enter Tryd.func58, Tryd.ntmps58
  go_wp2_with fail
  rw [hx]
  have hq := seal_any ⟨(Wv.body l).toArray⟩ w (by rw [str_size, Wv.body_len]; omega)
  rw [show (⟨(Wv.body l).toArray⟩ : ByteArray).data.toList = Wv.body l from rfl] at hq
  refine hq.mono ?_
  rintro e w1 ⟨rfl, hb1⟩
  have HB : Hid (Below w.heap.size w w1) := hb1
  clear hb1 hq
  rw [(Wv.seal_iff l).2 HT.out]
  go_wp2
  go_ret2
  exact ⟨rfl, HB.out⟩

set_option maxHeartbeats 800000 in
theorem sopen_no (l : List UInt8) (w : World) (h : 4 ≤ l.length) (h2 : l.length ≤ 65535) (ht : ¬ Wv.tail4 l = Wv.be4 (Wv.sum (Wv.body l) : Nat)) :
    Calls Tryd.prog 58 #[.string ⟨l.toArray⟩] w fun e w' => e = .returned (.tuple #[.string ⟨#[]⟩, .bool false]) ∧ Below w.heap.size w w' := by
  have hs := str_size l
  have hx : (⟨l.toArray⟩ : ByteArray).extract 0 (l.length - 4) = ⟨(Wv.body l).toArray⟩ := str_take l _
  have HT : Hid _ := ht
  clear ht
  go_enter Tryd.func58, Tryd.ntmps58
  go_wp2_with fail
  rw [hx]
  have hq := seal_any ⟨(Wv.body l).toArray⟩ w (by rw [str_size, Wv.body_len]; omega)
  rw [show (⟨(Wv.body l).toArray⟩ : ByteArray).data.toList = Wv.body l from rfl] at hq
  refine hq.mono ?_
  rintro e w1 ⟨rfl, hb1⟩
  have HB : Hid (Below w.heap.size w w1) := hb1
  clear hb1 hq
  have h1 : ¬ Wv.body l ++ Wv.be4 (Wv.sum (Wv.body l) : Nat) = l := fun e => HT.out ((Wv.seal_iff l).1 e)
  generalize Wv.body l ++ Wv.be4 (Wv.sum (Wv.body l) : Nat) = l2 at *
  have h3 : (l2 == l) = false := beq_eq_false_iff_ne.2 h1
  have h4 : (l2 != l) = true := by rw [bne, h3]; rfl
  go_wp2
  go_ret2
  exact ⟨rfl, HB.out⟩

end Go.Proofs.YtfmcngncaffloaaDoor

namespace Go.Proofs.YtfmcngncaffloaaDoor.Wv

theorem two_first (l : List UInt8) (h : 2 ≤ l.length) : two true l (some 0) = num2 l := by
  simp [two, one, nxt, num2, show 0 < l.length by omega, show 1 < l.length by omega]
theorem nxt_first (l : List UInt8) (h : 2 ≤ l.length) : nxt2 l (some 0) = some 2 := by
  simp [nxt2, nxt, show 0 < l.length by omega, show 1 < l.length by omega]
theorem nxt_short (l : List UInt8) (h : l.length < 2) : nxt2 l (some 0) = none := by
  unfold nxt2
  by_cases h0 : 0 < l.length
  · simp [nxt, h0, show ¬ 1 < l.length by omega]
  · simp [nxt, h0]
theorem num2_le (l : List UInt8) : 0 ≤ num2 l ∧ num2 l ≤ 65535 := by
  have h1 := byte_lt (l.getD 0 0)
  have h2 := byte_lt (l.getD 1 0)
  unfold num2
  omega

end Go.Proofs.YtfmcngncaffloaaDoor.Wv
namespace Go.Proofs.YtfmcngncaffloaaDoor
open Go.RowKit
set_option maxRecDepth 100000

set_option maxHeartbeats 800000 in
theorem fopen_short (l : List UInt8) (w : World) (g0 : Gd w) (h : l.length < 2) :
    Calls Tryd.prog 39 #[.string ⟨l.toArray⟩] w fun e w' => (∃ n y, e = .returned (.tuple #[.pointer none, FltF n y])) ∧ Below w.heap.size w w' := by
  have hlen : l.length ≤ 9223372036854775807 := by omega
  have G0 : Hid (Gd w) := g0
  have HR : Hid (Rd (w.alloc (.cells #[.string ⟨l.toArray⟩, I 0, .nilIface] 84)) w.heap.size l (some 0)) := heap_alloc_new w _
  have HB : Hid (Below w.heap.size w (w.alloc (.cells #[.string ⟨l.toArray⟩, I 0, .nilIface] 84))) := (Below.refl _ _).alloc (Nat.le_refl _) _
  have HQ : Hid (Wv.nxt2 l (some 0) = none) := Wv.nxt_short l h
  clear g0
  go_enter Tryd.func39, Tryd.ntmps39
  go_wp2_with fail
  refine (rtwo_any l (some 0) w.heap.size _ w G0.out HB.out (Nat.le_refl _) HR.out hlen).mono ?_
  rintro e w1 ⟨rfl, hR, hG⟩
  rw [HQ.out] at hR
  obtain ⟨a, n, y, hR⟩ := hR
  have HB1 : Hid (Below w.heap.size w w1) := below_g HB.out hG (Nat.le_refl _)
  have c2 : w1.cell? ⟨w.heap.size, 2, none⟩ = some (FltF n y) := hR.cell 2
  clear hR hG HR
  go_wp2
  go_region
  all_goals
    (go_wp2
     go_ret2
     exact ⟨⟨_, _, rfl⟩, HB1.out.drew⟩)

set_option maxHeartbeats 800000 in
theorem fopen_len (l : List UInt8) (w : World) (g0 : Gd w) (h : 2 ≤ l.length) (hlen : l.length ≤ 9223372036854775807) (hn : ¬ Wv.num2 l = l.length) :
    Calls Tryd.prog 39 #[.string ⟨l.toArray⟩] w fun e w' => (∃ n y, e = .returned (.tuple #[.pointer none, FltF n y])) ∧ Below w.heap.size w w' := by
  have G0 : Hid (Gd w) := g0
  have hs := str_size l
  have HR : Hid (Rd (w.alloc (.cells #[.string ⟨l.toArray⟩, I 0, .nilIface] 84)) w.heap.size l (some 0)) := heap_alloc_new w _
  have HB : Hid (Below w.heap.size w (w.alloc (.cells #[.string ⟨l.toArray⟩, I 0, .nilIface] 84))) := (Below.refl _ _).alloc (Nat.le_refl _) _
  have HQ : Hid (Wv.nxt2 l (some 0) = some 2) := Wv.nxt_first l h
  have HT : Hid (Wv.two true l (some 0) = Wv.num2 l) := Wv.two_first l h
  clear g0
  go_enter Tryd.func39, Tryd.ntmps39
  go_wp2_with fail
  refine (rtwo_any l (some 0) w.heap.size _ w G0.out HB.out (Nat.le_refl _) HR.out hlen).mono ?_
  rintro e w1 ⟨rfl, hR, hG⟩
  rw [HQ.out] at hR
  rw [HT.out]
  have HB1 : Hid (Below w.heap.size w w1) := below_g HB.out hG (Nat.le_refl _)
  have c1 : w1.cell? ⟨w.heap.size, 1, none⟩ = some (I 2) := Blk.cell hR 1
  have c2 : w1.cell? ⟨w.heap.size, 2, none⟩ = some .nilIface := Blk.cell hR 2
  obtain ⟨ad, ha⟩ := (G0.out.kept HB1.out).len
  have hz := lt_of_cell ha
  clear hR hG HR
  generalize Wv.num2 l = nn at *
  have hn' : (nn == (l.length : Int)) = false := beq_eq_false_iff_ne.2 hn
  have hn2 : (nn != (l.length : Int)) = true := by rw [bne, hn']; rfl
  go_wp2
  go_region
  all_goals
    (go_wp2
     go_ret2
     exact ⟨⟨_, _, rfl⟩, HB1.out.drew⟩)

/-- What open asks of the bytes. -/
def opens (l : List UInt8) : Prop := 4 ≤ l.length ∧ Wv.num2 l = l.length ∧ Wv.tail4 l = Wv.be4 (Wv.sum (Wv.body l) : Nat)

set_option maxHeartbeats 800000 in
theorem fopen_sum (l : List UInt8) (w : World) (g0 : Gd w) (h : 2 ≤ l.length) (hlen : l.length ≤ 9223372036854775807) (hn : Wv.num2 l = l.length) (ho : ¬ opens l) :
    Calls Tryd.prog 39 #[.string ⟨l.toArray⟩] w fun e w' => (∃ n y, e = .returned (.tuple #[.pointer none, FltF n y])) ∧ Below w.heap.size w w' := by
  have G0 : Hid (Gd w) := g0
  have hs := str_size l
  have h6 : l.length ≤ 65535 := by have := (Wv.num2_le l).2; omega
  have HR : Hid (Rd (w.alloc (.cells #[.string ⟨l.toArray⟩, I 0, .nilIface] 84)) w.heap.size l (some 0)) := heap_alloc_new w _
  have HB : Hid (Below w.heap.size w (w.alloc (.cells #[.string ⟨l.toArray⟩, I 0, .nilIface] 84))) := (Below.refl _ _).alloc (Nat.le_refl _) _
  have HQ : Hid (Wv.nxt2 l (some 0) = some 2) := Wv.nxt_first l h
  have HT : Hid (Wv.two true l (some 0) = (l.length : Int)) := (Wv.two_first l h).trans hn
  have HS : Hid (∀ w1 : World, Calls Tryd.prog 58 #[.string ⟨l.toArray⟩] w1 fun e w' => e = .returned (.tuple #[.string ⟨#[]⟩, .bool false]) ∧ Below w1.heap.size w1 w') := by
    intro w1
    by_cases h4 : 4 ≤ l.length
    · exact sopen_no l w1 h4 h6 (fun e => ho ⟨h4, hn, e⟩)
    · exact sopen_short l w1 (by omega)
  clear g0 ho hn
  go_enter Tryd.func39, Tryd.ntmps39
  go_wp2_with fail
  refine (rtwo_any l (some 0) w.heap.size _ w G0.out HB.out (Nat.le_refl _) HR.out hlen).mono ?_
  rintro e w1 ⟨rfl, hR, hG⟩
  rw [HQ.out] at hR
  rw [HT.out]
  have HB1 : Hid (Below w.heap.size w w1) := below_g HB.out hG (Nat.le_refl _)
  have HK : Hid (Blk w1 w.heap.size #[.string ⟨l.toArray⟩, I 2, .nilIface] 84) := hR
  have c2 : w1.cell? ⟨w.heap.size, 2, none⟩ = some .nilIface := HK.out.cell 2
  clear hR hG HR
  go_wp2_with fail
  refine (HS.out _).mono ?_
  rintro e w2 ⟨rfl, hb2⟩
  have HB2 : Hid (Below w.heap.size w w2) := HB1.out.trans (hb2.mono HB1.out.size)
  have c1 : w2.cell? ⟨w.heap.size, 1, none⟩ = some (I 2) := cell_kept hb2 (HK.out.cell 1)
  obtain ⟨ad, ha⟩ := (G0.out.kept HB2.out).sum
  have hz := lt_of_cell ha
  clear hb2 c2
  go_wp2
  go_region
  all_goals
    (go_wp2
     go_ret2
     exact ⟨⟨_, _, rfl⟩, HB2.out.drew⟩)

set_option maxHeartbeats 800000 in
theorem fopen_yes (l : List UInt8) (w : World) (g0 : Gd w) (ho : opens l) :
    Calls Tryd.prog 39 #[.string ⟨l.toArray⟩] w fun e w' => e = .returned (.tuple #[.pointer (some ⟨w.heap.size, 0, none⟩), .nilIface]) ∧ Rd w' w.heap.size (Wv.body l) (some 2) ∧ Below w.heap.size w w' := by
  obtain ⟨h4, hn, ht⟩ := ho
  have G0 : Hid (Gd w) := g0
  have hs := str_size l
  have h6 : l.length ≤ 65535 := by have := (Wv.num2_le l).2; omega
  have HR : Hid (Rd (w.alloc (.cells #[.string ⟨l.toArray⟩, I 0, .nilIface] 84)) w.heap.size l (some 0)) := heap_alloc_new w _
  have HB : Hid (Below w.heap.size w (w.alloc (.cells #[.string ⟨l.toArray⟩, I 0, .nilIface] 84))) := (Below.refl _ _).alloc (Nat.le_refl _) _
  have HQ : Hid (Wv.nxt2 l (some 0) = some 2) := Wv.nxt_first l (by omega)
  have HT : Hid (Wv.two true l (some 0) = (l.length : Int)) := (Wv.two_first l (by omega)).trans hn
  have HS : Hid (∀ w1 : World, Calls Tryd.prog 58 #[.string ⟨l.toArray⟩] w1 fun e w' => e = .returned (.tuple #[.string ⟨(Wv.body l).toArray⟩, .bool true]) ∧ Below w1.heap.size w1 w') := fun w1 => sopen_yes l w1 h4 h6 ht
  clear g0 hn ht
  go_enter Tryd.func39, Tryd.ntmps39
  go_wp2_with fail
  refine (rtwo_any l (some 0) w.heap.size _ w G0.out HB.out (Nat.le_refl _) HR.out (by omega)).mono ?_
  rintro e w1 ⟨rfl, hR, hG⟩
  rw [HQ.out] at hR
  rw [HT.out]
  have HB1 : Hid (Below w.heap.size w w1) := below_g HB.out hG (Nat.le_refl _)
  have HK : Hid (Blk w1 w.heap.size #[.string ⟨l.toArray⟩, I 2, .nilIface] 84) := hR
  have c2 : w1.cell? ⟨w.heap.size, 2, none⟩ = some .nilIface := HK.out.cell 2
  clear hR hG HR
  go_wp2_with fail
  refine (HS.out _).mono ?_
  rintro e w2 ⟨rfl, hb2⟩
  have HB2 : Hid (Below w.heap.size w w2) := HB1.out.trans (hb2.mono HB1.out.size)
  have HK2 : Hid (Blk w2 w.heap.size #[.string ⟨l.toArray⟩, I 2, .nilIface] 84) := HK.out.kept hb2 HK.out.lt
  have c0 : w2.cell? ⟨w.heap.size, 0, none⟩ = some (.string ⟨l.toArray⟩) := HK2.out.cell 0
  have z0 := HK2.out.frozen 0
  clear hb2 c2
  go_wp2
  go_ret2
  exact ⟨rfl, HK2.out.set 0 _, HB2.out.setCell (Nat.le_refl _) _⟩

end Go.Proofs.YtfmcngncaffloaaDoor
