import Derived.Test.YtfmcngncaffloaaDoorLents
import Derived.Test.YtfmcngncaffloaaDoorSameB
import Derived.Deep.RegionHeld3
import Derived.Test.YtfmcngncaffloaaDoorREnc2
import Derived.Test.YtfmcngncaffloaaDoorMem2
import Derived.Deep.Slices
import Derived.Deep.Strs
import Derived.Lib.SmallJoins
import Derived.SizedLaws
import Derived.Test.YtfmcngncaffloaaDoorPow
import Derived.Test.YtfmcngncaffloaaDoorRows
import Derived.OpenShut
import Derived.Stop.LaidTwo
import Derived.Lib.LaidTab
import Derived.Test.YtfmcngncaffloaaDoorCards
import Derived.Test.YtfmcngncaffloaaDoorTie
import Derived.WalkKit
import Derived.ProofKit
import Derived.Carry
import Derived.Deep.DeepHandedRow
namespace Go.Proofs.YtfmcngncaffloaaDoor
open Go.RowKit
set_option maxRecDepth 100000

theorem At.prefix {w : World} {a : Option Addr} {l r : List Value} (h : At w a (l ++ r)) : At w a l := fun j u hj => h j u (by rw [List.getElem?_append_left (List.getElem?_eq_some_iff.1 hj).1]; exact hj)
theorem flat_append {α : Type} (f : α → List Value) (l r : List α) : flat f (l ++ r) = flat f l ++ flat f r := by
  induction l with
  | nil => rfl
  | cons x l ih => simp only [List.cons_append, flat, ih, List.append_assoc]
abbrev Lent (w : World) (B : Nat) (b : Wv.Bt) (ca ea : Option Addr) (cc ec gE cE : Nat) (vD : Value) (nd : List Em) : Prop := LentIn w B b ca ea cc ec (.slice (some ⟨gE, 0, none⟩) b.effs.length cE) vD (.slice (some ⟨gE, 0, none⟩) (b.effs.length + 2) cE) nd (nd ++ [beyondE, beyondE])
theorem LentIn.bat {w : World} {B : Nat} {b : Wv.Bt} {ca ea : Option Addr} {cc ec gE cE : Nat} {vD : Value} {nd : List Em} (h : Lent w B b ca ea cc ec gE cE vD nd) (hn : nd.map (·.e) = b.effs) : BatAt w b (some ⟨B + 2, 0, none⟩) (some ⟨gE, 0, none⟩) nd := by
  have hl : (nd ++ [beyondE, beyondE]).length = b.effs.length + 2 := by rw [← hn]; simp
  refine ⟨?_, hn.symm, ?_, ?_⟩
  · have := h.clock.cells
    rw [List.map_append] at this
    exact this.prefix
  · have := h.ownE
    rw [hl] at this
    have := own_at this
    rw [flat_append] at this
    exact this.prefix
  · intro m hm
    obtain ⟨g, e1, _, f⟩ := h.dots m hm
    rw [e1]
    exact f.cells.prefix
/-- What stands behind the lists. -/
theorem LentIn.behind {w : World} {B : Nat} {b : Wv.Bt} {ca ea : Option Addr} {cc ec gE cE : Nat} {vD : Value} {nd : List Em} (h : Lent w B b ca ea cc ec gE cE vD nd) (hn : nd.map (·.e) = b.effs) :
    w.cell? ⟨B + 2, b.clock.length, none⟩ = some (I (-77)) ∧ w.cell? ⟨B + 2, b.clock.length + 1, none⟩ = some (I (-77)) ∧ w.cell? ⟨gE, b.effs.length * 7, none⟩ = some (I (-77)) ∧ w.cell? ⟨gE, (b.effs.length + 1) * 7, none⟩ = some (I (-77)) := by
  have hln : nd.length = b.effs.length := by rw [← hn]; simp
  have hl : (nd ++ [beyondE, beyondE]).length = b.effs.length + 2 := by simp [hln]
  have hE := h.ownE
  rw [hl] at hE
  have hA := own_at hE
  have hC := h.clock.cells
  refine ⟨?_, ?_, ?_, ?_⟩
  · obtain ⟨p, o, e, hc⟩ := hC b.clock.length (I (-77)) (by simp)
    cases e; simpa using hc
  · obtain ⟨p, o, e, hc⟩ := hC (b.clock.length + 1) (I (-77)) (by simp)
    cases e; simpa using hc
  · obtain ⟨p, o, e, hc⟩ := hA (b.effs.length * 7) (I (-77)) (by
      have := flat_get Em.cells 7 emCells_len (nd ++ [beyondE, beyondE]) b.effs.length (by omega) 0 (by omega)
      rw [Nat.add_zero] at this
      rw [this]
      simp [← hln, beyondE, Em.cells])
    cases e; simpa using hc
  · obtain ⟨p, o, e, hc⟩ := hA ((b.effs.length + 1) * 7) (I (-77)) (by
      have := flat_get Em.cells 7 emCells_len (nd ++ [beyondE, beyondE]) (b.effs.length + 1) (by omega) 0 (by omega)
      rw [Nat.add_zero] at this
      rw [this]
      simp [← hln, beyondE, Em.cells])
    cases e; simpa using hc
/-- The k-th list of Dots, and what stands behind it. -/
theorem LentIn.dotsAt {w : World} {B : Nat} {b : Wv.Bt} {ca ea : Option Addr} {cc ec gE cE : Nat} {vD : Value} {nd : List Em} (h : Lent w B b ca ea cc ec gE cE vD nd) (hn : nd.map (·.e) = b.effs) (k : Nat) (hk : k < b.effs.length) :
    ∃ gD cD g, vD = .slice (some ⟨gD, 0, none⟩) b.effs.length cD ∧ w.cell? ⟨gD, k, none⟩ = some (.slice (some ⟨g, 0, none⟩) (b.effs[k].dots.length + 2) (b.effs[k].dots.length + 2)) ∧ w.cell? ⟨g, b.effs[k].dots.length * 3 + 1, none⟩ = some (I (-77)) ∧ w.cell? ⟨g, (b.effs[k].dots.length + 1) * 3 + 1, none⟩ = some (I (-77)) := by
  have hln : nd.length = b.effs.length := by rw [← hn]; simp
  have hk' : k < nd.length := by omega
  have hD := h.ownD
  rw [hln] at hD
  have he : nd[k].e = b.effs[k] := by simp [← hn]
  rcases hD.2 with ⟨_, h0⟩ | ⟨gD, cD, cur, rfl, _⟩
  · omega
  · obtain ⟨g, e1, e2, f⟩ := h.dots nd[k] (List.getElem_mem _)
    have hA := f.cells
    have hfl := flat_len dotCells 3 dotCells_len nd[k].e.dots
    refine ⟨gD, cD, g, rfl, ?_, ?_, ?_⟩
    · rw [hD.cellAt k (by omega), ← he]
      simp [hk', Em.lentV, e1, e2]
    · rw [← he]
      obtain ⟨p, o, e, hc⟩ := hA (nd[k].e.dots.length * 3 + 1) (I (-77)) (by rw [← hfl, List.getElem?_append_right (by omega)]; simp [beyondD])
      cases e; simpa using hc
    · rw [← he]
      obtain ⟨p, o, e, hc⟩ := hA ((nd[k].e.dots.length + 1) * 3 + 1) (I (-77)) (by rw [show (nd[k].e.dots.length + 1) * 3 + 1 = (flat dotCells nd[k].e.dots).length + 4 by omega, List.getElem?_append_right (by omega)]; simp [beyondD])
      cases e; simpa using hc

end Go.Proofs.YtfmcngncaffloaaDoor

namespace Go.Proofs.YtfmcngncaffloaaDoor
open Go.RowKit
set_option maxRecDepth 100000

set_option maxHeartbeats 1600000 in
theorem still_any (b : Wv.Bt) (ca ea ca0 ea0 : Option Addr) (cc ec cc0 ec0 : Nat) (B gE cE : Nat) (vD : Value) (nd ms : List Em) (w : World) (hL : Lent w B b ca0 ea0 cc0 ec0 gE cE vD nd) (hn : nd.map (·.e) = b.effs) (h : BatAt w b ca ea ms)
    (hcl : b.clock.length ≤ 4611686018427387904) (hel : b.effs.length ≤ 4611686018427387904) (hd : ∀ m ∈ ms, m.e.dots.length ≤ 4611686018427387904) :
    Calls Tryd.prog 9 #[.pointer (some ⟨B + 1, 0, none⟩), bV b ca ea cc ec] w fun e w' => e = .returned (.bool true) ∧ Below w.heap.size w w' := by
  have h' : Hid (BatAt w b ca ea ms) := h
  have L' : Hid (Lent w B b ca0 ea0 cc0 ec0 gE cE vD nd) := hL
  have N' : Hid (nd.map (·.e) = b.effs) := hn
  have D' : Hid (∀ m ∈ ms, m.e.dots.length ≤ 4611686018427387904) := hd
  have D2 : Hid (∀ m ∈ nd, m.e.dots.length ≤ 4611686018427387904) := by
    show ∀ m ∈ nd, _
    intro m hm
    have : m.e ∈ b.effs := by rw [← hn]; exact List.mem_map_of_mem hm
    rw [h.effs] at this
    obtain ⟨m2, h2, e⟩ := List.mem_map.1 this
    rw [← e]
    exact hd m2 h2
  have HW : Hid (Below w.heap.size w (w.alloc (.cells #[I b.o, I b.s, I b.t, .slice ca b.clock.length cc, .slice ea b.effs.length ec] 25))) := (Below.refl _ _).alloc (Nat.le_refl _) _
  have x0 : w.cell? ⟨B + 1, 0, none⟩ = some (I b.o) := hL.k1.cell 0
  have x1 : w.cell? ⟨B + 1, 1, none⟩ = some (I b.s) := hL.k1.cell 1
  have x2 : w.cell? ⟨B + 1, 2, none⟩ = some (I b.t) := hL.k1.cell 2
  have x3 : w.cell? ⟨B + 1, 3, none⟩ = some (.slice (some ⟨B + 2, 0, none⟩) b.clock.length (b.clock.length + 2)) := hL.k1.cell 3
  have x4 : w.cell? ⟨B + 1, 4, none⟩ = some (.slice (some ⟨gE, 0, none⟩) b.effs.length cE) := hL.k1.cell 4
  have hB1 : B + 1 < w.heap.size := hL.k1.lt
  have hne := World.new_ne w ⟨B + 1, 0, none⟩ x0
  clear h hL hn hd
  go_enter Tryd.func9, Tryd.ntmps9
  go_wp2_with fail
  go_region_held3 (fun w' => w'.cell? ⟨B + 1, 0, none⟩ = some (I b.o) ∧ w'.cell? ⟨B + 1, 1, none⟩ = some (I b.s) ∧ w'.cell? ⟨B + 1, 2, none⟩ = some (I b.t) ∧ w'.cell? ⟨B + 1, 3, none⟩ = some (.slice (some ⟨B + 2, 0, none⟩) b.clock.length (b.clock.length + 2)) ∧ w'.cell? ⟨B + 1, 4, none⟩ = some (.slice (some ⟨gE, 0, none⟩) b.effs.length cE) ∧ w'.cell? ⟨w.heap.size, 0, none⟩ = some (I b.o) ∧ w'.cell? ⟨w.heap.size, 1, none⟩ = some (I b.s) ∧ w'.cell? ⟨w.heap.size, 2, none⟩ = some (I b.t) ∧ w'.cell? ⟨w.heap.size, 3, none⟩ = some (.slice ca b.clock.length cc) ∧ w'.cell? ⟨w.heap.size, 4, none⟩ = some (.slice ea b.effs.length ec)) (first | go_keep | (refine ⟨cell_kept hb ?_, cell_kept hb ?_, cell_kept hb ?_, cell_kept hb ?_, cell_kept hb ?_, cell_kept hb ?_, cell_kept hb ?_, cell_kept hb ?_, cell_kept hb ?_, cell_kept hb ?_⟩ <;> go_keep))
    (first | (go_at_call 12; refine (sameB_any b (some ⟨B + 2, 0, none⟩) (some ⟨gE, 0, none⟩) ca ea (b.clock.length + 2) cE cc ec nd ms _ (((L'.out.bat N'.out).kept HW.out).kept (Below.refl _ _).drew) ((h'.out.kept HW.out).kept (Below.refl _ _).drew) hcl hel D2.out).mono ?_; rintro e w' ⟨rfl, hb⟩; have HC : Hid (Below (w.heap.size + 1) (w.alloc (.cells #[I b.o, I b.s, I b.t, .slice ca b.clock.length cc, .slice ea b.effs.length ec] 25)) w') := (Below.refl _ _).drew.trans (hb.mono (by simp))))
  have HBw : Hid (Below w.heap.size w w') := HW.out.trans (HC.out.mono (by omega))
  have L2 : Hid (Lent w' B b ca0 ea0 cc0 ec0 gE cE vD nd) := L'.out.kept HBw.out
  have H2 : Hid (BatAt w' b ca ea ms) := h'.out.kept HBw.out
  have e4 : w'.cell? ⟨w.heap.size, 4, none⟩ = some (.slice ea b.effs.length ec) := (HC.out.cell (p := ⟨w.heap.size, 4, none⟩) (by simp)).trans (World.cell?_alloc_mark w _ _ _ 4)
  have x5 : w'.cell? ⟨B + 1, 5, none⟩ = some (.slice (some ⟨B + 2, 0, none⟩) (b.clock.length + 2) (b.clock.length + 2)) := L2.out.k1.cell 5
  have x6 : w'.cell? ⟨B + 1, 6, none⟩ = some (.slice (some ⟨gE, 0, none⟩) (b.effs.length + 2) cE) := L2.out.k1.cell 6
  have x7 : w'.cell? ⟨B + 1, 7, none⟩ = some vD := L2.out.k1.cell 7
  obtain ⟨q0, q1, q2, q3⟩ := L2.out.behind N'.out
  clear x0 x1 x2 x3 x4 hne L' h' HW HC hb
  go_wp2_with fail
  go_loopw [8] (fun x wr => ∃ k : Nat, k ≤ b.effs.length ∧ x = I k ∧ wr = w') (fun x _ => b.effs.length - (intOf x).toNat)
  case atStart => exact ⟨0, Nat.zero_le _, rfl, rfl⟩
  case round =>
    obtain ⟨k, hk, rfl, hwr⟩ := hrel
    subst hwr
    by_cases hlt : k < b.effs.length
    · have hlt' : k < ms.length := by have := congrArg List.length H2.out.effs; simp at this; omega
      obtain ⟨gD, cD, g, hvD, d0, d1, d2⟩ := L2.out.dotsAt N'.out k hlt
      obtain ⟨p2, r2, hea, hp2, hce⟩ := effs_at H2.out.cells (by omega)
      obtain ⟨_, _, _, _, _, _, c6⟩ := hce k hlt'
      have hme : ms[k].e = b.effs[k] := by simp [H2.out.effs]
      have hdm := D'.out ms[k] (List.getElem_mem _)
      rw [hme] at c6 hdm
      rw [hvD] at x7
      subst hea
      have hki : (k : Int) < (b.effs.length : Int) := by omega
      generalize ms[k].da = da at c6
      generalize ms[k].dc = dc at c6
      generalize b.effs[k].dots.length = n at c6 d0 d1 d2 hdm
      clear hvD hce hme
      go_wp2_with fail
      go_roundw
      case rel => exact ⟨k + 1, by omega, by go_num, trivial⟩
      case measure => simp [intOf]; omega
    · obtain rfl : k = b.effs.length := by omega
      go_wp2_with fail
      go_ret
      exact ⟨rfl, HBw.out⟩

end Go.Proofs.YtfmcngncaffloaaDoor

namespace Go.Proofs.YtfmcngncaffloaaDoor
open Go.RowKit
set_option maxRecDepth 100000

/-- The reference's Encode, whatever it is given. -/
theorem refEnc_any (b : Wv.Bt) (ca ea : Option Addr) (cc ec : Nat) (ms : List Em) (w : World) (h : BatAt w b ca ea ms) (hn' : b.effs.length ≤ 9223372036854775807) :
    Calls Tryd.prog 8 #[bV b ca ea cc ec] w fun e w' => e = .returned (.tuple #[.string ⟨(encS b).toArray⟩, I (encE b)]) ∧ Below w.heap.size w w' := by
  cases hb : Wv.isB b
  · have hS : encS b = [] := by simp [encS, hb]
    have hE : encE b = 16 := by simp [encE, hb]
    rw [hS, hE]
    exact refEnc_no b ca ea cc ec ms w h hn' hb
  · have hS : encS b = Wv.frameB b := by simp [encS, hb]
    have hE : encE b = 0 := by simp [encE, hb]
    rw [hS, hE]
    have hH : Wv.headOk b = true := by simp only [Wv.isB, Bool.and_eq_true] at hb; exact hb.1
    have hcl : 2 ≤ b.clock.length ∧ b.clock.length ≤ 4 := by
      simp only [Wv.headOk, Bool.and_eq_true, decide_eq_true_eq] at hH
      exact hH.1.1.1.1.1
    have hel : 1 ≤ b.effs.length ∧ b.effs.length ≤ 5 := by
      simp only [Wv.headOk, Bool.and_eq_true, decide_eq_true_eq] at hH
      exact hH.1.2
    have hml : ms.length = b.effs.length := by rw [h.effs]; simp
    obtain ⟨p, q, rfl, hp0, hc0⟩ := h.clock.first (by simp; omega)
    obtain ⟨p2, q2, rfl, hp2, hc2⟩ := effs_at h.cells (by omega)
    exact refEnc_yes b cc ec p q p2 q2 ms w h hb hcl.2 hel hc0 hc2

end Go.Proofs.YtfmcngncaffloaaDoor

namespace Go.Proofs.YtfmcngncaffloaaDoor
open Go.RowKit
set_option maxRecDepth 100000

set_option maxHeartbeats 1600000 in
theorem encodes_any (b : Wv.Bt) (ca ea : Option Addr) (cc ec : Nat) (ms : List Em) (w : World) (eb ef : Addr) (hI : ItoaSaid) (g : Gl w eb ef) (hp : Pw w) (h : BatAt w b ca ea ms) (hc : b.clock.length * 8 ≤ 140737488351232) (he : b.effs.length * 72 ≤ 140737488351232) (hd : ∀ m ∈ ms, m.e.dots.length * 24 ≤ 140737488351232) :
    Calls Tryd.prog 3 #[bV b ca ea cc ec] w fun e w' => e = .returned (.bool true) ∧ Below w.heap.size w w' := by
  have hpw' : Hid (Pw w) := hp
  have g' : Hid (Gl w eb ef) := g
  have h' : Hid (BatAt w b ca ea ms) := h
  have hd' : Hid (∀ m ∈ ms, m.e.dots.length * 24 ≤ 140737488351232) := hd
  have HB : Hid (Below w.heap.size w (w.alloc (.cells #[I b.o, I b.s, I b.t, .slice ca b.clock.length cc, .slice ea b.effs.length ec] 25))) := (Below.refl _ _).alloc (Nat.le_refl _) _
  clear g hp h hd
  go_enter Tryd.func3, Tryd.ntmps3
  go_wp2_with fail
  refine (lent_any b ca ea cc ec ms _ (h'.out.kept HB.out) hc he hd'.out).mono ?_
  rintro e w1 ⟨rfl, gE, cE, vD, nd, hnd, hL, hb1⟩
  have HN : Hid (nd.map (·.e) = b.effs) := hnd
  have hsz : (w.alloc (.cells #[I b.o, I b.s, I b.t, .slice ca b.clock.length cc, .slice ea b.effs.length ec] 25)).heap.size = w.heap.size + 1 := by simp
  rw [hsz] at hL hb1 ⊢
  have HL : Hid (Lent w1 (w.heap.size + 1) b ca ea cc ec gE cE vD nd) := hL
  have HC1 : Hid (Below (w.heap.size + 1) (w.alloc (.cells #[I b.o, I b.s, I b.t, .slice ca b.clock.length cc, .slice ea b.effs.length ec] 25)) w1) := hb1
  have HB1 : Hid (Below w.heap.size w w1) := HB.out.trans (hb1.mono (by omega))
  have HD : Hid (∀ m ∈ nd, m.e.dots.length ≤ 9223372036854775807) := by
    show ∀ m ∈ nd, _
    intro m hm
    have : m.e ∈ b.effs := by rw [← hnd]; exact List.mem_map_of_mem hm
    rw [h'.out.effs] at this
    obtain ⟨m2, h2, e⟩ := List.mem_map.1 this
    have := hd'.out m2 h2
    rw [← e]
    omega
  have x0 : w1.cell? ⟨w.heap.size + 1 + 1, 0, none⟩ = some (I b.o) := hL.k1.cell 0
  have x1 : w1.cell? ⟨w.heap.size + 1 + 1, 1, none⟩ = some (I b.s) := hL.k1.cell 1
  have x2 : w1.cell? ⟨w.heap.size + 1 + 1, 2, none⟩ = some (I b.t) := hL.k1.cell 2
  have x3 : w1.cell? ⟨w.heap.size + 1 + 1, 3, none⟩ = some (.slice (some ⟨w.heap.size + 1 + 2, 0, none⟩) b.clock.length (b.clock.length + 2)) := hL.k1.cell 3
  have x4 : w1.cell? ⟨w.heap.size + 1 + 1, 4, none⟩ = some (.slice (some ⟨gE, 0, none⟩) b.effs.length cE) := hL.k1.cell 4
  clear hnd hL hb1 hsz
  go_wp2_with fail
  refine (wencode_any b (some ⟨w.heap.size + 1 + 2, 0, none⟩) (some ⟨gE, 0, none⟩) (b.clock.length + 2) cE nd _ eb ef hI (g'.out.kept HB1.out) (hpw'.out.kept HB1.out) (HL.out.bat HN.out) (by omega) (by omega) HD.out).mono ?_
  rintro e w2 ⟨rfl, hb2⟩
  have hs1 : w.heap.size + 1 ≤ w1.heap.size := by have := HC1.out.size; simpa using this
  have HC2 : Hid (Below (w.heap.size + 1) (w.alloc (.cells #[I b.o, I b.s, I b.t, .slice ca b.clock.length cc, .slice ea b.effs.length ec] 25)) w2) := HC1.out.trans (hb2.mono hs1)
  have HL2 : Hid (Lent w2 (w.heap.size + 1) b ca ea cc ec gE cE vD nd) := HL.out.kept hb2
  have HB2 : Hid (Below w.heap.size w w2) := HB1.out.trans (hb2.mono (by omega))
  clear hb2 x0 x1 x2 x3 x4
  have y0 : w2.cell? ⟨w.heap.size, 0, none⟩ = some (I b.o) := (HC2.out.cell (p := ⟨w.heap.size, 0, none⟩) (by simp)).trans (World.cell?_alloc_mark w _ _ _ 0)
  have y1 : w2.cell? ⟨w.heap.size, 1, none⟩ = some (I b.s) := (HC2.out.cell (p := ⟨w.heap.size, 1, none⟩) (by simp)).trans (World.cell?_alloc_mark w _ _ _ 1)
  have y2 : w2.cell? ⟨w.heap.size, 2, none⟩ = some (I b.t) := (HC2.out.cell (p := ⟨w.heap.size, 2, none⟩) (by simp)).trans (World.cell?_alloc_mark w _ _ _ 2)
  have y3 : w2.cell? ⟨w.heap.size, 3, none⟩ = some (.slice ca b.clock.length cc) := (HC2.out.cell (p := ⟨w.heap.size, 3, none⟩) (by simp)).trans (World.cell?_alloc_mark w _ _ _ 3)
  have y4 : w2.cell? ⟨w.heap.size, 4, none⟩ = some (.slice ea b.effs.length ec) := (HC2.out.cell (p := ⟨w.heap.size, 4, none⟩) (by simp)).trans (World.cell?_alloc_mark w _ _ _ 4)
  go_wp2_with fail
  refine (refEnc_any b ca ea cc ec ms _ (h'.out.kept HB2.out) (by omega)).mono ?_
  rintro e w3 ⟨rfl, hb3⟩
  have hs2 : w.heap.size + 1 ≤ w2.heap.size := by have := HC2.out.size; simpa using this
  have HC3 : Hid (Below (w.heap.size + 1) (w.alloc (.cells #[I b.o, I b.s, I b.t, .slice ca b.clock.length cc, .slice ea b.effs.length ec] 25)) w3) := HC2.out.trans (hb3.mono hs2)
  have HL3 : Hid (Lent w3 (w.heap.size + 1) b ca ea cc ec gE cE vD nd) := HL2.out.kept hb3
  have HB3 : Hid (Below w.heap.size w w3) := HB2.out.trans (hb3.mono (by omega))
  clear hb3 y0 y1 y2 y3 y4
  have y0 : w3.cell? ⟨w.heap.size, 0, none⟩ = some (I b.o) := (HC3.out.cell (p := ⟨w.heap.size, 0, none⟩) (by simp)).trans (World.cell?_alloc_mark w _ _ _ 0)
  have y1 : w3.cell? ⟨w.heap.size, 1, none⟩ = some (I b.s) := (HC3.out.cell (p := ⟨w.heap.size, 1, none⟩) (by simp)).trans (World.cell?_alloc_mark w _ _ _ 1)
  have y2 : w3.cell? ⟨w.heap.size, 2, none⟩ = some (I b.t) := (HC3.out.cell (p := ⟨w.heap.size, 2, none⟩) (by simp)).trans (World.cell?_alloc_mark w _ _ _ 2)
  have y3 : w3.cell? ⟨w.heap.size, 3, none⟩ = some (.slice ca b.clock.length cc) := (HC3.out.cell (p := ⟨w.heap.size, 3, none⟩) (by simp)).trans (World.cell?_alloc_mark w _ _ _ 3)
  have y4 : w3.cell? ⟨w.heap.size, 4, none⟩ = some (.slice ea b.effs.length ec) := (HC3.out.cell (p := ⟨w.heap.size, 4, none⟩) (by simp)).trans (World.cell?_alloc_mark w _ _ _ 4)
  go_wp2_with fail
  refine (still_any b ca ea ca ea cc ec cc ec (w.heap.size + 1) gE cE vD nd ms _ HL3.out HN.out (h'.out.kept HB3.out) (by omega) (by omega) (fun m hm => by have := hd'.out m hm; omega)).mono ?_
  rintro e w4 ⟨rfl, hb4⟩
  have HB4 : Hid (Below w.heap.size w w4) := HB3.out.trans (hb4.mono (by have := HB3.out.size; omega))
  clear hb4
  have t0 : (encE b == encE b) = true := by simp
  have t1 : (encS b == encS b) = true := by simp
  go_wp2_with fail
  go_ret
  exact ⟨rfl, HB4.out⟩

end Go.Proofs.YtfmcngncaffloaaDoor

namespace Go.Proofs.YtfmcngncaffloaaDoor
open Go.RowKit
set_option maxRecDepth 100000

variable {H : Type} {enc : TypeId × Value → H} {W : World} {base : Nat} {spare : Nat → Bool} {held : Bool}

theorem cellsInt : Tryd.prog.cellsOf 3 = 1 := by kernel_rfl
theorem cellsDot : Tryd.prog.cellsOf 40 = 3 := by kernel_rfl
theorem cellsDots : Tryd.prog.cellsOf 41 = 1 := by kernel_rfl
theorem cellsInts : Tryd.prog.cellsOf 22 = 1 := by kernel_rfl
theorem cellsEffs : Tryd.prog.cellsOf 23 = 1 := by kernel_rfl
theorem cellsEff : Tryd.prog.cellsOf 43 = 7 := by kernel_rfl
theorem cellsBat : Tryd.prog.cellsOf 25 = 5 := by kernel_rfl
theorem uInt : Tryd.prog.underlying 3 = some (.int .i64) := by kernel_rfl

theorem plain_of_cell {w : World} {a : Addr} {v : Value} (h : w.cell? a = some v) : a = ⟨a.block, a.off, none⟩ := by
  obtain ⟨b, o, s⟩ := a
  cases s with
  | none => rfl
  | some s =>
    unfold World.cell? at h
    split at h <;> simp at h
theorem pick {α : Type} (R : Nat → α → Prop) : ∀ n, (∀ i, i < n → ∃ x, R i x) → ∃ xs : List α, xs.length = n ∧ ∀ i (hi : i < xs.length), R i xs[i]
  | 0, _ => ⟨[], rfl, fun i hi => absurd hi (by simp)⟩
  | n + 1, h => by
    obtain ⟨xs, hl, hx⟩ := pick R n fun i hi => h i (by omega)
    obtain ⟨x, hr⟩ := h n (by omega)
    refine ⟨xs ++ [x], by simp [hl], fun i hi => ?_⟩
    rcases Nat.lt_or_ge i xs.length with h1 | h1
    · rw [List.getElem_append_left h1]; exact hx i h1
    · have : i = xs.length := by simp at hi; omega
      subst this
      rw [List.getElem_append_right (Nat.le_refl _)]
      simpa [hl] using hr
/-- Elements that lie behind one another. -/
theorem at_rows {α : Type} (f : α → List Value) (k : Nat) (hk : 0 < k) (hf : ∀ x, (f x).length = k) {w : World} {base : Nat} {a : Addr} {xs : List α} (h : ∀ i (hi : i < xs.length), w.cells? base (a.add (i * k)) k = some (f xs[i])) : At w (some a) (flat f xs) := by
  intro j u hj
  have hjl : j < xs.length * k := by rw [← flat_len f k hf xs]; exact (List.getElem?_eq_some_iff.1 hj).1
  have hi : j / k < xs.length := Nat.div_lt_of_lt_mul (by rw [Nat.mul_comm]; exact hjl)
  have hr : j % k < k := Nat.mod_lt _ hk
  have hpos : 0 < xs.length := Nat.lt_of_le_of_lt (Nat.zero_le _) hi
  have h0 := (World.cells?_some (h 0 hpos)).2.2 0 hk
  rw [Nat.zero_mul, show (a.add 0).add 0 = a by simp [Addr.add], List.getElem?_eq_getElem (by rw [hf]; exact hk)] at h0
  have hp := plain_of_cell h0
  have hc := (World.cells?_some (h (j / k) hi)).2.2 (j % k) hr
  rw [← flat_get f k hf xs (j / k) hi (j % k) hr, show j / k * k + j % k = j by rw [Nat.mul_comm]; exact Nat.div_add_mod j k, hj] at hc
  refine ⟨a.block, a.off, by rw [← hp], ?_⟩
  rw [hp] at hc
  rw [Addr.add_lit, Addr.add_lit, Nat.add_assoc, show j / k * k + j % k = j by rw [Nat.mul_comm]; exact Nat.div_add_mod j k] at hc
  exact hc
theorem trodDot {fuel : Nat} {cs : List Value} {x : DataW H × List MemPlace} (h : DataW.trod enc Tryd.prog W base spare held fuel 40 cs = some x) : ∃ d : Wv.Dt, cs = dotCells d := by
  obtain ⟨y0, y1, y2, n, _, hl, h0, h1, h2⟩ := Go.Deep.trod_struct3 Tryd.underlying40 h
  rw [cellsDot] at hl
  match cs, hl with
  | [a, b, c], _ =>
    simp only [cellsInt] at h0 h1 h2
    obtain ⟨z0, e0, _, _⟩ := DataW.trod_int uInt h0
    obtain ⟨z1, e1, _, _⟩ := DataW.trod_int uInt h1
    obtain ⟨z2, e2, _, _⟩ := DataW.trod_int uInt h2
    simp at e0 e1 e2
    exact ⟨⟨z0, z1, z2⟩, by simp [dotCells, e0, e1, e2]⟩
theorem bytesInt : Tryd.prog.bytesOf 3 = 8 := by kernel_rfl
theorem bytesDot : Tryd.prog.bytesOf 40 = 24 := by kernel_rfl
theorem bytesEff : Tryd.prog.bytesOf 43 = 72 := by kernel_rfl
theorem weights_mem_all {P : Program} {e : TypeId} : ∀ {l : List (DataW H)} {d : DataW H}, d ∈ l → ∀ n ∈ d.weights P e, n ∈ DataW.weightsAll P e l
  | x :: l, d, hd, n, hn => by
    simp only [DataW.weightsAll, List.mem_append]
    rcases List.mem_cons.1 hd with rfl | h
    · exact Or.inl hn
    · exact Or.inr (weights_mem_all h n hn)
theorem slice_weight {P : Program} {t e : TypeId} {es sp : List (DataW H)} {R : Nat} (hu : P.underlying t = some (.slice e)) (h : ∀ n ∈ (DataW.slice es sp).weights P t, n ≤ R) : (es.length + sp.length) * P.bytesOf e ≤ R ∧ ∀ d ∈ es, ∀ n ∈ d.weights P e, n ≤ R := by
  simp only [DataW.weights, hu] at h
  exact ⟨h _ (by simp), fun d hd n hn => h n (by simp [weights_mem_all hd n hn])⟩
theorem len_weight {a s b R : Nat} (h : (a + s) * b ≤ R) : a * b ≤ R := Nat.le_trans (Nat.mul_le_mul_right _ (Nat.le_add_right _ _)) h
theorem trodDots {fuel : Nat} {cs : List Value} {x : DataW H × List MemPlace} (h : DataW.trod enc Tryd.prog W base spare held fuel 41 cs = some x) :
    ∃ (da : Option Addr) (dc : Nat) (ds : List Wv.Dt), cs = [.slice da ds.length dc] ∧ At W da (flat dotCells ds) ∧ ∀ R, (∀ n ∈ x.1.weights Tryd.prog 41, n ≤ R) → ds.length * 24 ≤ R := by
  rcases Go.Deep.open_slice Tryd.underlying41 h with ⟨rfl, _⟩ | ⟨a, len, cap, m, n, D, Pl, rfl, _, hlc, _, hm, hx, he⟩
  · exact ⟨none, 0, [], rfl, fun j u hj => by simp [flat] at hj, fun R _ => by simp⟩
  · have hlm : len ≤ m := by rw [hm]; split <;> omega
    rw [cellsDot] at he
    obtain ⟨ds, hl, hd⟩ := pick (fun i (d : Wv.Dt) => W.cells? base (a.add (i * 3)) 3 = some (dotCells d)) len fun i hi => by
      obtain ⟨cs', h1, h2⟩ := he i (by omega)
      obtain ⟨d, rfl⟩ := trodDot h2
      exact ⟨d, h1⟩
    refine ⟨some a, cap, ds, by rw [hl], at_rows dotCells 3 (by omega) dotCells_len hd, fun R hR => ?_⟩
    rw [hx] at hR
    have := len_weight (slice_weight Tryd.underlying41 hR).1
    rw [bytesDot, List.length_map, List.length_range] at this
    rw [hl]
    exact this
theorem trodEff {fuel : Nat} {cs : List Value} {x : DataW H × List MemPlace} (h : DataW.trod enc Tryd.prog W base spare held fuel 43 cs = some x) :
    ∃ m : Em, cs = m.cells ∧ At W m.da (flat dotCells m.e.dots) ∧ ∀ R, (∀ n ∈ x.1.weights Tryd.prog 43, n ≤ R) → m.e.dots.length * 24 ≤ R := by
  obtain ⟨xs, n, _, hx, hl, hlen, hf⟩ := DataW.trod_struct Tryd.underlying43 h
  rw [cellsEff] at hl
  match xs, hlen with
  | [y0, y1, y2, y3, y4], _ =>
    match cs, hl with
    | [c0, c1, c2, c3, c4, c5, c6], _ =>
      have h0 : DataW.trod enc Tryd.prog W base spare held n 3 [c0] = some y0 := by have := hf 0 _ rfl; simpa [cellsInt] using this
      have h1 : DataW.trod enc Tryd.prog W base spare held n 3 [c1] = some y1 := by have := hf 1 _ rfl; simpa [cellsInt] using this
      have h2 : DataW.trod enc Tryd.prog W base spare held n 3 [c2] = some y2 := by have := hf 2 _ rfl; simpa [cellsInt] using this
      have h3 : DataW.trod enc Tryd.prog W base spare held n 40 [c3, c4, c5] = some y3 := by have := hf 3 _ rfl; simpa [cellsDot] using this
      have h4 : DataW.trod enc Tryd.prog W base spare held n 41 [c6] = some y4 := by have := hf 4 _ rfl; simpa [cellsDots] using this
      obtain ⟨z0, e0, _, _⟩ := DataW.trod_int uInt h0
      obtain ⟨z1, e1, _, _⟩ := DataW.trod_int uInt h1
      obtain ⟨z2, e2, _, _⟩ := DataW.trod_int uInt h2
      obtain ⟨d, e3⟩ := trodDot h3
      obtain ⟨da, dc, ds, e4, ha, hw⟩ := trodDots h4
      simp [dotCells] at e0 e1 e2 e3 e4
      refine ⟨⟨⟨z0, z1, z2, d, ds⟩, da, dc⟩, by simp [Em.cells, Em.dv, e0, e1, e2, e3, e4], ha, fun R hR => hw R fun n hn => hR n ?_⟩
      rw [hx]
      simp only [DataW.weights, Tryd.underlying43]
      exact DataW.weights_mem_each (j := 4) rfl rfl n hn
theorem trodEffs {fuel : Nat} {cs : List Value} {x : DataW H × List MemPlace} (h : DataW.trod enc Tryd.prog W base spare held fuel 23 cs = some x) :
    ∃ (ea : Option Addr) (ec : Nat) (ms : List Em), cs = [.slice ea ms.length ec] ∧ At W ea (flat Em.cells ms) ∧ (∀ m ∈ ms, At W m.da (flat dotCells m.e.dots)) ∧ ∀ R, (∀ n ∈ x.1.weights Tryd.prog 23, n ≤ R) → ms.length * 72 ≤ R ∧ ∀ m ∈ ms, m.e.dots.length * 24 ≤ R := by
  rcases Go.Deep.open_slice Tryd.underlying23 h with ⟨rfl, _⟩ | ⟨a, len, cap, m, n, D, Pl, rfl, _, hlc, _, hm, hx, he⟩
  · exact ⟨none, 0, [], rfl, fun j u hj => by simp [flat] at hj, by simp, fun R _ => by simp⟩
  · have hlm : len ≤ m := by rw [hm]; split <;> omega
    rw [cellsEff] at he
    obtain ⟨ms, hl, hd⟩ := pick (fun i (m : Em) => W.cells? base (a.add (i * 7)) 7 = some m.cells ∧ At W m.da (flat dotCells m.e.dots) ∧ ∀ R, (∀ n ∈ (D i).weights Tryd.prog 43, n ≤ R) → m.e.dots.length * 24 ≤ R) len fun i hi => by
      obtain ⟨cs', h1, h2⟩ := he i (by omega)
      obtain ⟨d, rfl, hA, hw⟩ := trodEff h2
      exact ⟨d, h1, hA, hw⟩
    refine ⟨some a, cap, ms, by rw [hl], at_rows Em.cells 7 (by omega) emCells_len fun i hi => (hd i hi).1, fun m hm => ?_, fun R hR => ?_⟩
    · obtain ⟨i, hi, rfl⟩ := List.mem_iff_getElem.1 hm
      exact (hd i hi).2.1
    · rw [hx] at hR
      obtain ⟨w1, w2⟩ := slice_weight Tryd.underlying23 hR
      have := len_weight w1
      rw [bytesEff, List.length_map, List.length_range] at this
      refine ⟨by rw [hl]; exact this, fun m hm => ?_⟩
      obtain ⟨i, hi, rfl⟩ := List.mem_iff_getElem.1 hm
      exact (hd i hi).2.2 R fun n hn => w2 (D i) (List.mem_map.2 ⟨i, by simp; omega, rfl⟩) n hn
theorem trodInts {fuel : Nat} {cs : List Value} {x : DataW H × List MemPlace} (h : DataW.trod enc Tryd.prog W base spare held fuel 22 cs = some x) :
    ∃ (ca : Option Addr) (cc : Nat) (zs : List Int), cs = [.slice ca zs.length cc] ∧ At W ca (zs.map I) ∧ ∀ R, (∀ n ∈ x.1.weights Tryd.prog 22, n ≤ R) → zs.length * 8 ≤ R := by
  rcases Go.Deep.open_slice Tryd.underlying22 h with ⟨rfl, _⟩ | ⟨a, len, cap, m, n, D, Pl, rfl, _, hlc, _, hm, hx, he⟩
  · exact ⟨none, 0, [], rfl, fun j u hj => by simp at hj, fun R _ => by simp⟩
  · have hlm : len ≤ m := by rw [hm]; split <;> omega
    rw [cellsInt] at he
    obtain ⟨zs, hl, hd⟩ := pick (fun i (z : Int) => W.cells? base (a.add (i * 1)) 1 = some [I z]) len fun i hi => by
      obtain ⟨cs', h1, h2⟩ := he i (by omega)
      obtain ⟨z, rfl, _, _⟩ := DataW.trod_int uInt h2
      exact ⟨z, h1⟩
    have := at_rows (fun z : Int => [I z]) 1 (by omega) (fun _ => rfl) hd
    have e : ∀ l : List Int, flat (fun z : Int => [I z]) l = l.map I := by
      intro l
      induction l with
      | nil => rfl
      | cons z l ih => simp [flat, ih]
    rw [e] at this
    refine ⟨some a, cap, zs, by rw [hl], this, fun R hR => ?_⟩
    rw [hx] at hR
    have := len_weight (slice_weight Tryd.underlying22 hR).1
    rw [bytesInt, List.length_map, List.length_range] at this
    rw [hl]
    exact this
/-- A batch that came in. -/
theorem trodBat {fuel : Nat} {cs : List Value} {x : DataW H × List MemPlace} (h : DataW.trod enc Tryd.prog W base spare held fuel 25 cs = some x) :
    ∃ (b : Wv.Bt) (ca ea : Option Addr) (cc ec : Nat) (ms : List Em), cs = [I b.o, I b.s, I b.t, .slice ca b.clock.length cc, .slice ea b.effs.length ec] ∧ BatAt W b ca ea ms ∧
      ∀ R, (∀ n ∈ x.1.weights Tryd.prog 25, n ≤ R) → b.clock.length * 8 ≤ R ∧ b.effs.length * 72 ≤ R ∧ ∀ m ∈ ms, m.e.dots.length * 24 ≤ R := by
  obtain ⟨xs, n, _, hx, hl, hlen, hf⟩ := DataW.trod_struct Tryd.underlying25 h
  rw [cellsBat] at hl
  match xs, hlen with
  | [y0, y1, y2, y3, y4], _ =>
    match cs, hl with
    | [c0, c1, c2, c3, c4], _ =>
      have h0 : DataW.trod enc Tryd.prog W base spare held n 3 [c0] = some y0 := by have := hf 0 _ rfl; simpa [cellsInt] using this
      have h1 : DataW.trod enc Tryd.prog W base spare held n 3 [c1] = some y1 := by have := hf 1 _ rfl; simpa [cellsInt] using this
      have h2 : DataW.trod enc Tryd.prog W base spare held n 3 [c2] = some y2 := by have := hf 2 _ rfl; simpa [cellsInt] using this
      have h3 : DataW.trod enc Tryd.prog W base spare held n 22 [c3] = some y3 := by have := hf 3 _ rfl; simpa [cellsInts] using this
      have h4 : DataW.trod enc Tryd.prog W base spare held n 23 [c4] = some y4 := by have := hf 4 _ rfl; simpa [cellsEffs] using this
      obtain ⟨z0, e0, _, _⟩ := DataW.trod_int uInt h0
      obtain ⟨z1, e1, _, _⟩ := DataW.trod_int uInt h1
      obtain ⟨z2, e2, _, _⟩ := DataW.trod_int uInt h2
      obtain ⟨ca, cc, zs, e3, hc, hw3⟩ := trodInts h3
      obtain ⟨ea, ec, ms, e4, hA, hD, hw4⟩ := trodEffs h4
      simp at e0 e1 e2 e3 e4
      refine ⟨⟨z0, z1, z2, zs, ms.map (·.e)⟩, ca, ea, cc, ec, ms, by simp [e0, e1, e2, e3, e4], ⟨hc, rfl, hA, hD⟩, fun R hR => ?_⟩
      have q : ∀ n ∈ DataW.weightsEach Tryd.prog [3, 3, 3, 22, 23] [y0.1, y1.1, y2.1, y3.1, y4.1], n ≤ R := fun n hn => hR n (by
        rw [hx]
        simp only [DataW.weights, Tryd.underlying25]
        exact hn)
      have r3 := hw3 R fun n hn => q n (DataW.weights_mem_each (j := 3) rfl rfl n hn)
      have r4 := hw4 R fun n hn => q n (DataW.weights_mem_each (j := 4) rfl rfl n hn)
      exact ⟨r3, by simpa using r4.1, r4.2⟩

end Go.Proofs.YtfmcngncaffloaaDoor

namespace Go.Proofs.YtfmcngncaffloaaDoor
open Go.RowKit
set_option maxRecDepth 100000

/-- One of the list may be left out. -/
theorem laidMet.less {P : Program} {x y : String × DataW Unit} {r : List (String × DataW Unit)} {w : World} (h : laidMet P (x :: y :: r) w) : laidMet P (x :: r) w := by
  obtain ⟨ps, hv, hnd, hrows⟩ := h
  obtain ⟨n, d⟩ := x
  obtain ⟨n2, d2⟩ := y
  obtain ⟨g, t, cs, fuel, p, q, h1, h2, h3, h4, ⟨g', t', cs', fuel', p', q', _, _, _, _, hq, rfl⟩, rfl⟩ := hv
  have hsub : (MemPlace.row ⟨g, 0, none⟩ cs.size ++ p ++ q').Sublist (MemPlace.row ⟨g, 0, none⟩ cs.size ++ p ++ (MemPlace.row ⟨g', 0, none⟩ cs'.size ++ p' ++ q')) := (List.Sublist.refl _).append (List.sublist_append_right _ _)
  exact ⟨_, ⟨g, t, cs, fuel, p, q', h1, h2, h3, h4, hq, rfl⟩, hnd.sublist hsub, fun b off hm => hrows b off (hsub.subset hm)⟩

def lits {H : Type} (l : List Int) : DataW H := .agg (l.map fun z => .lit (.int .i64 z))
theorem uInt' : Tryd.prog.underlying 3 = some (.int .i64) := by kernel_rfl
theorem cellsInt' : Tryd.prog.cellsOf 3 = 1 := by kernel_rfl
theorem uKind : Tryd.prog.underlying 92 = some (.int .i64) := by kernel_rfl
theorem cellsKind : Tryd.prog.cellsOf 92 = 1 := by kernel_rfl
theorem uFit : Tryd.prog.underlying 93 = some (.int .i64) := by kernel_rfl
theorem cellsFit : Tryd.prog.cellsOf 93 = 1 := by kernel_rfl
theorem cellsRule : Tryd.prog.cellsOf 95 = 6 := by kernel_rfl
theorem cellsRules : Tryd.prog.cellsOf 117 = 42 := by kernel_rfl
theorem trodRule {H : Type} {enc : TypeId × Value → H} {W : World} {base : Nat} {spare : Nat → Bool} {held : Bool} {fuel : Nat} {cs : List Value} {x : DataW H × List MemPlace} (h : DataW.trod enc Tryd.prog W base spare held fuel 95 cs = some x) :
    ∃ zs : List Int, zs.length = 6 ∧ cs = zs.map I ∧ x.1 = lits zs := by
  obtain ⟨xs, n, _, hx, hl, hlen, hf⟩ := DataW.trod_struct Tryd.underlying95 h
  rw [cellsRule] at hl
  match xs, hlen with
  | [y0, y1, y2, y3, y4, y5], _ =>
    match cs, hl with
    | [c0, c1, c2, c3, c4, c5], _ =>
      have h0 : DataW.trod enc Tryd.prog W base spare held n 92 [c0] = some y0 := by have := hf 0 _ rfl; simpa [cellsKind] using this
      have h1 : DataW.trod enc Tryd.prog W base spare held n 3 [c1] = some y1 := by have := hf 1 _ rfl; simpa [cellsInt'] using this
      have h2 : DataW.trod enc Tryd.prog W base spare held n 3 [c2] = some y2 := by have := hf 2 _ rfl; simpa [cellsInt'] using this
      have h3 : DataW.trod enc Tryd.prog W base spare held n 93 [c3] = some y3 := by have := hf 3 _ rfl; simpa [cellsFit] using this
      have h4 : DataW.trod enc Tryd.prog W base spare held n 3 [c4] = some y4 := by have := hf 4 _ rfl; simpa [cellsInt'] using this
      have h5 : DataW.trod enc Tryd.prog W base spare held n 3 [c5] = some y5 := by have := hf 5 _ rfl; simpa [cellsInt'] using this
      obtain ⟨z0, e0, d0, _⟩ := DataW.trod_int uKind h0
      obtain ⟨z1, e1, d1, _⟩ := DataW.trod_int uInt' h1
      obtain ⟨z2, e2, d2, _⟩ := DataW.trod_int uInt' h2
      obtain ⟨z3, e3, d3, _⟩ := DataW.trod_int uFit h3
      obtain ⟨z4, e4, d4, _⟩ := DataW.trod_int uInt' h4
      obtain ⟨z5, e5, d5, _⟩ := DataW.trod_int uInt' h5
      simp at e0 e1 e2 e3 e4 e5
      exact ⟨[z0, z1, z2, z3, z4, z5], rfl, by simp [e0, e1, e2, e3, e4, e5], by rw [hx]; simp [lits, d0, d1, d2, d3, d4, d5]⟩
theorem lits_inj {H : Type} {a b : List Int} (h : (lits a : DataW H) = lits b) : a = b := by
  simp only [lits, DataW.agg.injEq] at h
  exact List.map_inj_right (fun x y e => by simpa using e) |>.1 h
theorem rules_are : (Rows.laid_weave_batch_rules : DataW Unit) = .agg ((List.range 7).map fun i => lits ((Wv.tab.drop (i * 6)).take 6)) := by kernel_rfl
theorem trodRules {enc : TypeId × Value → Unit} {W : World} {base : Nat} {spare : Nat → Bool} {held : Bool} {fuel : Nat} {cs : List Value} {p : List MemPlace} (h : DataW.trod enc Tryd.prog W base spare held fuel 117 cs = some (Rows.laid_weave_batch_rules, p)) :
    ∀ j, j < 42 → cs[j]? = some (I (Wv.tab.getD j 0)) := by
  obtain ⟨xs, m, _, hx, hl, hlen, hf⟩ := DataW.trod_array Tryd.underlying117 h
  rw [cellsRule] at hf
  have hxs : xs.map (·.1) = (List.range 7).map fun i => lits ((Wv.tab.drop (i * 6)).take 6) := by
    have := congrArg Prod.fst hx
    rw [rules_are] at this
    simpa using this.symm
  intro j hj
  have hi : j / 6 < 7 := by omega
  have hr : j % 6 < 6 := Nat.mod_lt _ (by omega)
  have h1 := hf (j / 6) hi
  rw [List.getElem?_eq_getElem (by omega)] at h1
  obtain ⟨zs, hz, e1, e2⟩ := trodRule h1
  have e3 : (xs[j / 6]'(by omega)).1 = lits ((Wv.tab.drop (j / 6 * 6)).take 6) := by
    have := congrArg (fun l => l[j / 6]?) hxs
    simpa [hi, hlen] using this
  have e4 := lits_inj (e2.symm.trans e3)
  have e5 : ((cs.drop (j / 6 * 6)).take 6)[j % 6]? = cs[j]? := by
    rw [List.getElem?_take_of_lt hr, List.getElem?_drop, show j / 6 * 6 + j % 6 = j by omega]
  rw [← e5, e1, e4, List.getElem?_map, List.getElem?_take_of_lt hr, List.getElem?_drop, show j / 6 * 6 + j % 6 = j by omega]
  have ht : j < Wv.tab.length := hj
  simp [List.getD, ht]

end Go.Proofs.YtfmcngncaffloaaDoor

namespace Go.Proofs.YtfmcngncaffloaaDoor
open Go.RowKit
set_option maxRecDepth 100000

theorem star : "*" ++ "errors.errorString" = "*errors.errorString" := by decide
theorem rowStar (u : TypeId) (h : Tryd.prog.typeName? 3 u = some "*errors.errorString") : u = 149 :=
  typeName_ptr_named (nm := "errors.errorString") (by rw [star]; kernel_rfl) (by kernel_rfl) (by decide) u (by rw [star]; exact h)
theorem cellsErr : Tryd.prog.cellsOf 173 = 1 := by kernel_rfl
theorem cellsStr : Tryd.prog.cellsOf 9 = 1 := by kernel_rfl

theorem pw_of_tab {P : Program} {W : World} {n : String} (hg : P.globalNamed n = some 7) (h : Lib.TabIs P W n .u64 Lib.pow10Tab) : Pw W := by
  unfold Lib.TabIs World.var? at h
  rw [hg] at h
  simp only [Option.bind_some] at h
  split at h
  · rename_i cs t fr e
    cases h
    exact ⟨t, fr, e⟩
  · cases h
theorem gl_of_laid {W : World} (h : laidMetH Tryd.prog Rows.encodesRow.laid W) : ∃ eb ef, Gl W eb ef ∧ Pw W := by
  have h3 : laidMet Tryd.prog _ W := laidMet.tail (laidMet.tail (show laidMet Tryd.prog Rows.encodesRow.laid W from h))
  have h4 := laidMet.tail h3
  have h5 := laidMet.tail h4
  have hp : Pw W := by
    have := Lib.tabIs_of_head (P := Tryd.prog) (zs := Lib.pow10Tab) (k := .u64) (g := 7) (by kernel_rfl) (by kernel_rfl) Tryd.underlying143 Tryd.underlying136 (by kernel_rfl) (by kernel_rfl) h3
    exact pw_of_tab (by kernel_rfl) this
  obtain ⟨a0, a1, s0, s1, c0, c1, t0, t1, hv0, hv1, hc0, hs0, hz0, hc1, hs1, hz1, hne, hb0, hb1⟩ := laid_sentinels2 (laidMet.less h4) (g0 := 4) (g1 := 0) (by kernel_rfl) (by kernel_rfl) (by kernel_rfl) (by kernel_rfl) Tryd.underlying55 rowStar Tryd.underlying149 Tryd.underlying173 rfl rfl Tryd.underlying9 cellsErr cellsStr
  refine ⟨a0, a1, ⟨by simpa using World.var?_cell (by kernel_rfl) hv0 0, by simpa using World.var?_cell (by kernel_rfl) hv1 0, hne, ⟨_, _, hb0⟩, ⟨_, _, hb1⟩, ?_⟩, hp⟩
  obtain ⟨ps, ⟨g, t, cs, fuel, p, q, hg, ht, hv, hd, _, _⟩, _, _⟩ := h5
  obtain rfl : 5 = g := Option.some.inj ((show Tryd.prog.globalNamed _ = some 5 by kernel_rfl).symm.trans hg)
  obtain rfl : 117 = t := Option.some.inj ((show (Tryd.prog.globals[5]?).map (·.type) = some 117 by kernel_rfl).symm.trans ht)
  intro j hj
  rw [World.var?_cell hg hv j, ← Array.getElem?_toList]
  exact trodRules hd j hj

end Go.Proofs.YtfmcngncaffloaaDoor

namespace Go.Proofs.YtfmcngncaffloaaDoor.Enc
open Go.ChangeShapes Go.WideShapes Go.ChangeAt Go.RowKit
set_option maxRecDepth 100000

theorem own : ownKnob Tryd.prog.godebug = none := by kernel_rfl
theorem laidOut : laidOutB Tryd.prog = true := by kernel_rfl

theorem contract (H : Type) (enc : TypeId × Value → H) (W : World) (base : Nat) (args : Array Value) (ds gs : List (DataW H)) (before : List MemPlace)
    (hval : ∀ (j : Nat) t v, Tryd.f3.params[j]? = some t → args[j]? = some v → Value.okWide Tryd.prog W .any base t v)
    (hW : DataW.Whole enc Tryd.prog Tryd.f3.params.toList Rows.encodesSpec.vars false W args.toList ds gs before)
    (hL : laidMetH Tryd.prog Rows.encodesRow.laid W)
    (vt : List TypeId) (hwt : (DataW.weightsEach Tryd.prog (Tryd.f3.params.toList ++ vt) (ds ++ gs)).all (· ≤ reachBytes) = true) :
    Calls Tryd.prog 3 args W fun e W' => ∃ v, e = .returned v ∧ Rows.encodesSpec.post enc Tryd.prog Tryd.f3 false true false false W args v W' := by
  have hW' := hW
  obtain ⟨p, q, hA0, hV, rfl, hfz, hnd⟩ := hW
  have hA : DataW.TrodAll enc Tryd.prog W 0 (fun _ => true) true Tryd.f3.params.toList args.toList ds p := hA0
  rw [Tryd.params3] at hA hval hwt
  obtain ⟨v0, vs0, d0, ds0, p0, q0, hargs, rfl, rfl, h0, r0⟩ := trodAll_cons hA
  obtain ⟨rfl, rfl, rfl⟩ := trodAll_nil r0
  obtain rfl : args = #[v0] := by cases args; simp_all
  obtain ⟨rfl, rfl⟩ := trodVars_none hV
  have hok := hval 0 25 v0 rfl rfl
  unfold Value.okWide at hok
  rw [Tryd.underlying25] at hok
  obtain ⟨cs, rfl, _, _⟩ := hok
  have h0' := h0
  obtain ⟨fuel, hf⟩ := h0'
  obtain ⟨b, ca, ea, cc, ec, ms, hcs, hbat, hw⟩ := trodBat hf
  obtain ⟨l⟩ := cs
  have hl : l = _ := hcs
  subst hl
  have hR : ∀ n ∈ d0.weights Tryd.prog 25, n ≤ reachBytes := fun n hn => by
    have := List.all_eq_true.1 hwt n (DataW.weights_mem_each (j := 0) rfl rfl n hn)
    simpa using this
  obtain ⟨b1, b2, b3⟩ := hw reachBytes hR
  obtain ⟨eb, ef, hg, hp⟩ := gl_of_laid hL
  have hlt := DataW.TrodAll.lt hA
  refine (encodes_any b ca ea cc ec ms W eb ef itoa_said hg hp hbat b1 b2 b3).mono fun e W' ⟨he, hb⟩ => ?_
  subst he
  have hpl : ∀ x ∈ p0, x.block < W.heap.size := fun x hx => hlt x (by simpa using hx)
  have hback : DataW.Trod enc Tryd.prog W' 0 (fun b => decide (b < W.heap.size)) true 25 _ d0 p0 := Below.trod laidOut (by kernel_rfl) (of_decide_eq_true (by kernel_rfl)) h0 hb hpl
  exact ⟨_, rfl, _, _, _, [], p0 ++ [], [], hW', trodAll_cons_mk (shut_bool Tryd.underlying4 _) trodAll_mk0, trodAll_cons_mk hback trodAll_mk0, rfl, hb.frame _, fun h => by cases h⟩

/-! A world that meets the list. -/
def litV : DataW Unit → Value
  | .lit (.int k z) => .int k z
  | _ => .int .i64 0
def rowV : DataW Unit → Array Value
  | .agg l => (l.map litV).toArray
  | _ => #[]
abbrev batchS : ByteArray := { data := #[110, 111, 32, 98, 97, 116, 99, 104] }
abbrev frameS : ByteArray := { data := #[110, 111, 32, 102, 114, 97, 109, 101] }
noncomputable def low : Nat := (World.holding Tryd.prog default ⟨#[], #[], []⟩).heap.size
def lay (cs : Array Value) : Obj → Obj
  | .cells _ t frozen => .cells cs t frozen
  | o => o
noncomputable def laidWorld (os : Os) : World :=
  let w0 := World.holding Tryd.prog os ⟨#[.cells #[.string batchS] 173, .cells #[.string frameS] 173], #[], []⟩
  { w0 with heap := (((((w0.heap.modify 8 (lay (rowV Rows.laid_math_bits_deBruijn32tab))).modify 9 (lay (rowV Rows.laid_math_bits_deBruijn64tab))).modify 7 (lay (rowV Rows.laid_internal_strconv_uint64pow10))).modify 5 (lay (Wv.tab.map I).toArray)).modify 4 (lay #[.iface 149 (.pointer (some ⟨low, 0, none⟩))])).modify 0 (lay #[.iface 149 (.pointer (some ⟨low + 1, 0, none⟩))]) }
abbrev zeroB : Value := .agg #[I 0, I 0, I 0, .slice none 0 0, .slice none 0 0]
theorem laid_met (os : Os) : laidMet Tryd.prog Rows.encodesRow.laid ((laidWorld os).forCall (fun _ _ => 0) ⟨#[], #[zeroB], []⟩).memory :=
  laidMet_of_run' 8 (by kernel_rfl) (by kernel_rfl)
theorem reads (os : Os) {H : Type} (enc : TypeId × Value → H) : ∃ places, DataW.whole enc Tryd.prog ((laidWorld os).forCall (fun _ _ => 0) ⟨#[], #[zeroB], []⟩).memory Tryd.f3.params.toList Rows.encodesSpec.vars false #[zeroB].toList 8 = some ([.agg [.lit (.int .i64 0), .lit (.int .i64 0), .lit (.int .i64 0), .nil, .nil]], [], places) :=
  ⟨[], by kernel_rfl⟩

theorem lifted (os : Os) (started : os.Started) (H : Type) (enc : TypeId × Value → H) (F : Stop.Interp) :
    ReturnsInHanded {} Tryd.checked os 3 .any ((OpenSpec.ofChange Rows.encodesSpec).preRow enc Tryd.prog Tryd.f3 Rows.encodesRow.domain false Rows.encodesRow.laid) (((OpenSpec.ofChange Rows.encodesSpec).at F).post enc Tryd.prog Tryd.f3 false true false false) := by
  obtain ⟨places, hx⟩ := reads os enc
  refine returnsInHanded_of_row (C := Tryd.checked) (s := OpenSpec.ofChange Rows.encodesSpec) own started (by kernel_rfl) Tryd.func3
    (witness_row_at (enc := enc) (C := Tryd.checked) false (laidWorld os) #[zeroB] rfl (by kernel_rfl) (by kernel_rfl) (by kernel_rfl)
      (OpenSpec.preRow_of_cond 8 hx (by kernel_rfl) (fun k hk => by cases hk) (by kernel_rfl) (laid_met os))) ?_
  intro W base args ds gs before hval hW _ _ hwt hL _ _
  exact contract H enc W base args ds gs before hval hW hL _ hwt

theorem said : Rows.EncodesSaid :=
  OpenClaim.holds_of_cond 3 Tryd.f3 rfl rfl rfl rfl rfl rfl rfl ⟨rfl, rfl, rfl, rfl, rfl⟩ rfl rfl rfl rfl rfl (by kernel_rfl) Tryd.func3 (by kernel_rfl)
    (of_decide_eq_true (by kernel_rfl)) (by unfold Func.isWrapper; first | (rw [if_pos (by decide +kernel)]; kernel_rfl) | (rw [if_neg (by decide +kernel)]; exact ⟨rfl, rfl⟩))
    (fun os started H enc _ F => by rw [OpenClaim.pre_eq_preRow]; exact lifted os started H enc F)

/-- No parameter wants a stand-in; the program's own looks are off. -/
theorem plain (f : FuncId) (fn : Func) (hf : Tryd.pinned.checked.prog.funcNamed "weave/weavelaw.Encodes" = some f) (hfn : Tryd.pinned.checked.prog.funcs[f]? = some fn) :
    true = Tryd.pinned.checked.prog.looks [] ∧ ∀ (j : Nat) t, fn.params[j]? = some t → Tryd.pinned.checked.prog.wantsStandIn t = false := by
  obtain rfl : f = 3 := Option.some.inj ((show Tryd.prog.funcNamed "weave/weavelaw.Encodes" = some 3 by kernel_rfl).symm.trans hf) |>.symm
  obtain rfl : fn = Tryd.f3 := (Option.some.inj (Tryd.func3.symm.trans hfn)).symm
  refine ⟨by kernel_rfl, fun j t ht => ?_⟩
  rw [Tryd.params3] at ht
  obtain rfl : t = 25 := by simpa using Array.mem_of_getElem? ht
  exact (show Tryd.prog.wantsStandIn 25 = false by kernel_rfl)

theorem card : Rows.EncodesCardSaid :=
  Claim7.holds_tied_plain_at .later [] _ _ _ _ said (fun _ h => by cases h) (by kernel_rfl) (fun _ h => by cases h) encodes_row_tie rfl ⟨rfl, rfl⟩ (by kernel_rfl) rfl plain (by kernel_rfl)

end Go.Proofs.YtfmcngncaffloaaDoor.Enc

namespace Go.Proofs.YtfmcngncaffloaaDoor
theorem encodes_card : Rows.EncodesCardSaid := Enc.card
end Go.Proofs.YtfmcngncaffloaaDoor
