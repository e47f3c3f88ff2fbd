import Derived.Test.YtfmcngncaffloaaGreatDoorG33StH
import Derived.Test.YtfmcngncaffloaaGreatDoorG34BkF
import Derived.BigQuiet
import Derived.Deep.RegionHeldLaw
namespace Go.Proofs.YtfmcngncaffloaaGreatDoor
open Go.RowKit
set_option maxRecDepth 100000

theorem at_ints {w : World} {a : Option Addr} {xs : List Int} (h : At w a (xs.map I)) {k : Nat} (hk : k < xs.length) : ∃ b o, a = some ⟨b, o, none⟩ ∧ w.cell? ⟨b, o + k, none⟩ = some (I xs[k]) :=
  h k (I xs[k]) (by simp [hk])
set_option maxHeartbeats 800000 in
theorem equal_any (xs ys : List Int) (a b : Option Addr) (ca cb : Nat) (w : World) (ha : At w a (xs.map I)) (hb : At w b (ys.map I)) (hl : xs.length ≤ 1048576) :
    Calls Tryz.prog 32 #[.slice a xs.length ca, .slice b ys.length cb] w fun e w' => e = .returned (.bool (decide (xs = ys))) ∧ Below w.heap.size w w' := by
  have HA : Hid (At w a (xs.map I)) := ha
  have HB : Hid (At w b (ys.map I)) := hb
  clear ha hb
  obtain ⟨bq, HQ⟩ : ∃ bq, Hid (decide (xs = ys) = bq) := ⟨_, rfl⟩
  rw [HQ.out]
  go_enter Tryz.func32, Tryz.ntmps32
  by_cases hne : xs.length = ys.length
  · have hni : (xs.length : Int) = (ys.length : Int) := by omega
    have HNE : Hid (xs.length = ys.length) := hne
    have hb1 : ((xs.length : Int) != (ys.length : Int)) = false := by simp [hne]
    have hb2 : ((xs.length : Int) == (ys.length : Int)) = true := by simp [hne]
    clear hne hni
    go_wp2_with fail
    go_loopw [5] (fun x wX => ∃ k : Nat, k ≤ xs.length ∧ x = I k ∧ Hid (Below w.heap.size w wX) ∧ Hid (xs.take k = ys.take k)) (fun x _ => xs.length - (intOf x).toNat)
    case atStart => exact ⟨0, Nat.zero_le _, rfl, Below.refl _ _, (rfl : xs.take 0 = ys.take 0)⟩
    case round =>
      obtain ⟨k, hk, rfl, HW, HT⟩ := hrel
      by_cases hlt : k < xs.length
      · have hltb : k < ys.length := by have := HNE.out; omega
        have HAr : Hid (At wr a (xs.map I)) := HA.out.kept HW.out
        have HBr : Hid (At wr b (ys.map I)) := HB.out.kept HW.out
        obtain ⟨ga, oa, rfl, ea⟩ := at_ints HAr.out hlt
        obtain ⟨gb, ob, rfl, eb⟩ := at_ints HBr.out hltb
        have hki : (k : Int) < xs.length := by omega
        have hkj : (k : Int) < ys.length := by omega
        have HE1 : Hid (xs[k] = ys[k] → xs.take (k + 1) = ys.take (k + 1)) := fun e => by rw [List.take_succ_eq_append_getElem hlt, List.take_succ_eq_append_getElem hltb, HT.out, e]
        have HE2 : Hid (¬ xs[k] = ys[k] → false = bq) := fun e => by
          rw [← HQ.out]
          refine (decide_eq_false (fun h => e ?_)).symm
          subst h
          rfl
        clear HT HAr HBr
        obtain ⟨xk, HXK⟩ : ∃ z, Hid (xs[k] = z) := by exact ⟨xs[k], rfl⟩
        obtain ⟨yk, HYK⟩ : ∃ z, Hid (ys[k] = z) := by exact ⟨ys[k], rfl⟩
        rw [HXK.out] at ea HE1 HE2
        rw [HYK.out] at eb HE1 HE2
        by_cases he : xk = yk
        · have HN := HE1.out he
          have HN : Hid (xs.take (k + 1) = ys.take (k + 1)) := HN
          have hq1 : (xk != yk) = false := by simp [he]
          have hq2 : (xk == yk) = true := by simp [he]
          clear he HE1 HE2
          go_wp2_with fail
          go_quiet (fail)
          have HW2 : Hid (Below w.heap.size w (wr.drewN nq)) := belowN HW.out nq
          go_wp2_with fail
          go_roundw
          case rel => exact ⟨k + 1, hlt, by go_num, HW2, HN⟩
          case measure => simp [intOf]; omega
        · have HN : Hid (false = bq) := HE2.out he
          have hq1 : (xk != yk) = true := by simp [he]
          have hq2 : (xk == yk) = false := by simp [he]
          clear HE1 HE2
          go_wp2_with fail
          go_quiet (fail)
          have HW2 : Hid (Below w.heap.size w (wr.drewN nq)) := belowN HW.out nq
          go_wp2
          go_ret
          exact ⟨by rw [← HN.out]; rfl, HW2.out⟩
      · have hki : ¬ (k : Int) < xs.length := by omega
        have HN : Hid (true = bq) := by
          rw [← HQ.out]
          refine (decide_eq_true ?_).symm
          have h1 := HT.out
          have h2 := HNE.out
          rw [List.take_of_length_le (by omega), List.take_of_length_le (by omega)] at h1
          exact h1
        go_wp2
        go_ret
        exact ⟨by rw [← HN.out]; rfl, HW.out⟩
  · have HN : Hid (false = bq) := by
      rw [← HQ.out]
      exact (decide_eq_false (fun h => hne (by rw [h]))).symm
    have hb1 : ((xs.length : Int) != (ys.length : Int)) = true := by simp; omega
    have hb2 : ((xs.length : Int) == (ys.length : Int)) = false := by simp; omega
    clear hne
    go_wp2
    go_ret
    exact ⟨by rw [← HN.out]; rfl, Below.refl _ _⟩

end Go.Proofs.YtfmcngncaffloaaGreatDoor

namespace Go.Proofs.YtfmcngncaffloaaGreatDoor
open Go.RowKit
set_option maxRecDepth 100000

/-- An operation that is asked for. -/
structure Ac where
  op : Int
  ob : Nat
  x : Int
  y : Int
def AcsAt (w : World) (ga : Nat) (acs : List Ac) : Prop := ∀ i (h : i < acs.length), w.cell? ⟨ga, i * 5, none⟩ = some (I acs[i].op) ∧ w.cell? ⟨ga, i * 5 + 1, none⟩ = some (I acs[i].ob) ∧ w.cell? ⟨ga, i * 5 + 2, none⟩ = some (I acs[i].x) ∧ w.cell? ⟨ga, i * 5 + 3, none⟩ = some (I acs[i].y)
theorem AcsAt.tch {F : Nat → Prop} {w w' : World} {ga : Nat} {acs : List Ac} (h : AcsAt w ga acs) (hT : Tch F w w') (hn : ¬ F ga) : AcsAt w' ga acs := fun i hi => ⟨hT.cell (h i hi).1 hn, hT.cell (h i hi).2.1 hn, hT.cell (h i hi).2.2.1 hn, hT.cell (h i hi).2.2.2 hn⟩
/-- It is let in. -/
structure DoCan (R : Rp) (a : Ac) (o : Ob) : Prop where
  up : Rup R
  st : R.st = 1
  op : 1 ≤ a.op ∧ a.op ≤ 6
  n5 : R.effs.length < 5
  ls : ¬ (0 : Int) < Wv.rLeastD a.op
  ms : ¬ (0 : Int) > Wv.rMostD a.op
  kd : (a.ob : Int) % 4 = Wv.rKind a.op
  pl : o.plain
  er : ((seeTo (pendB R) a.ob o R.effs.length).says a.op a.x a.y).2.2 = 0
  at_ : R.obs[a.ob]? = some o
/-- They are let in, one behind the other. -/
def Dos : Rp → List Ac → Rp → Prop
  | R, [], R' => R' = R
  | R, a :: acs, R' => ∃ o, DoCan R a o ∧ Dos (doR R a.op a.ob a.x a.y o) acs R'
theorem StOk.acs {w0 w w' : World} {own : Clr} {s ga : Nat} {S : Sto} {eb ef : Addr} {acs : List Ac} (h : StOk w0 w own s S eb ef w') (ha : AcsAt w ga acs) (h0 : own ga = 0) : AcsAt w' ga acs := by
  obtain ⟨_, _, _, _, _, _, _, _, _, _, hT⟩ := h
  exact ha.tch hT (by rw [h0]; omega)
end Go.Proofs.YtfmcngncaffloaaGreatDoor
