import Derived.Test.YtfmcngncaffloaaGreatDoorG42QsE
import Derived.Test.YtfmcngncaffloaaGreatDoorG43CsB
namespace Go.Proofs.YtfmcngncaffloaaGreatDoor
open Go.RowKit
set_option maxRecDepth 100000

set_option maxHeartbeats 1600000 in
theorem wdeliver_none (own : Clr) (s rg cc pp ch : Nat) (pv : Value) (prs : List Nat) (S : Sto) (i : Int) (w w0 : World) (eb ef : Addr) (hen : Env w0 w own eb ef) (h : StIn w own s rg cc pp ch pv prs S) (hi : ¬ (0 ≤ i ∧ i < S.msgs.length)) :
    Calls Tryz.prog 26 #[.pointer (some ⟨s, 0, none⟩), I i] w fun e w' => e = .returned (I 14) ∧ StOk w0 w own s S eb ef w' := by
  have HC : Hid (Calls Tryz.prog 50 #[.pointer (some ⟨pp, 0, none⟩), I i] w fun e w' => e = .returned (.tuple #[.agg #[.int .i64 0, .int .i64 0, .int .i64 0, .string ⟨#[]⟩], I 14]) ∧ Below w.heap.size w w') := ptake_no own 100 pp ch pv S.msgs i w h.post hi
  have c1 : w.cell? ⟨s, 1, none⟩ = some (.pointer (some ⟨pp, 0, none⟩)) := h.blk.cell 1
  have HS : Hid (StIn w own s rg cc pp ch pv prs S) := h
  have HEN : Hid (Env w0 w own eb ef) := hen
  clear h hen hi
  go_enter Tryz.func26, Tryz.ntmps26
  go_wp2_with fail
  refine HC.out.mono ?_
  rintro e w1 ⟨rfl, h1⟩
  have HB1 : Hid (Below w.heap.size w (w1.alloc (.cells #[.int .i64 0, .int .i64 0, .int .i64 0, .string ⟨#[]⟩] 59))) := h1.alloc h1.size _
  clear h1 HC c1
  go_wp2
  go_ret
  exact ⟨rfl, StOk.below HS.out HEN.out HB1.out⟩
theorem x_deliver_none {w0 w : World} {eb ef : Addr} {s : Nat} {S : Sto} {P : Nat → Prop} (h : Sx w0 w eb ef s S P) (hi : S.msgs = []) :
    Calls Tryz.prog 26 #[.pointer (some ⟨s, 0, none⟩), I 0] w fun e w' => e = .returned (I 14) ∧ Sy w0 w eb ef s S P w' := by
  obtain ⟨own, rg, cc, pp, ch, pv, prs, hS, hen, hp⟩ := h
  exact (wdeliver_none own s rg cc pp ch pv prs S 0 w w0 eb ef hen hS (by rw [hi]; simp)).mono (fun e w' hh => ⟨hh.1, hh.2.sy hp⟩)
/-- So many times the first message arrives, if there is one. -/
def Dels (w0 : World) (eb ef : Addr) : Nat → Sto → Sto → Prop
  | 0, S, S' => S' = S
  | n + 1, S, S' => (S.msgs = [] ∧ Dels w0 eb ef n S S') ∨ ∃ f t l sp R R', S.msgs[0]? = some ⟨1, f, (t : Nat), l, sp⟩ ∧ S.reps[t]? = some R ∧ R.st ≠ 2 ∧ TFrame w0 eb ef R l R' ∧ Dels w0 eb ef n ⟨S.reps.set t R', S.msgs.eraseIdx 0⟩ S'
theorem Dels.idle (w0 : World) (eb ef : Addr) (S : Sto) (h : S.msgs = []) : ∀ n, Dels w0 eb ef n S S
  | 0 => rfl
  | n + 1 => .inl ⟨h, Dels.idle w0 eb ef S h n⟩
theorem Sy.then {w0 w w1 w2 : World} {eb ef : Addr} {s : Nat} {S S1 : Sto} {P : Nat → Prop} (h : Sy w0 w eb ef s S P w1) (h2 : Sy w0 w1 eb ef s S1 P w2) : Sy w0 w eb ef s S1 P w2 := ⟨h2.1, fun g hg => (h2.2 g hg).trans (h.2 g hg)⟩
set_option maxHeartbeats 1600000 in
theorem delivered_any (w0 w : World) (eb ef : Addr) (s : Nat) (S S' : Sto) (P : Nat → Prop) (h : Sx w0 w eb ef s S P) (hd : Dels w0 eb ef 40 S S') :
    Calls Tryz.prog 24 #[.pointer (some ⟨s, 0, none⟩)] w fun e w' => e = .returned (.tuple #[]) ∧ Sy w0 w eb ef s S' P w' := by
  have HS : Hid (Sy w0 w eb ef s S P w) := ⟨h, fun g _ => rfl⟩
  have HD : Hid (Dels w0 eb ef 40 S S') := hd
  clear h hd
  go_enter Tryz.func24, Tryz.ntmps24
  go_wp2_with fail
  go_loopw [2] (fun x wr => ∃ (k : Nat) (Sk : Sto), k ≤ 40 ∧ x = I k ∧ Hid (Dels w0 eb ef (40 - k) Sk S') ∧ Hid (Sy w0 w eb ef s Sk P wr)) (fun x _ => 40 - (intOf x).toNat)
  case atStart => exact ⟨0, S, by omega, rfl, HD, HS⟩
  case round =>
    obtain ⟨k, Sk, hk, rfl, HDk, HSk⟩ := hrel
    clear HD HS
    by_cases hlt : k < 40
    · have hki : (k : Int) < 40 := by omega
      have HC : Hid (Calls Tryz.prog 26 #[.pointer (some ⟨s, 0, none⟩), I 0] wr fun e w' => ∃ z S1, e = .returned (I z) ∧ Dels w0 eb ef (40 - (k + 1)) S1 S' ∧ Sy w0 w eb ef s S1 P w') := by
        have hd := HDk.out
        rw [show 40 - k = (40 - (k + 1)) + 1 by omega] at hd
        rcases hd with ⟨h0, hd⟩ | ⟨f, t, l, sp, R, R', hm, hR, hst, hTF, hd⟩
        · exact (x_deliver_none HSk.out.1 h0).mono (fun e w' hh => ⟨14, Sk, hh.1, hd, HSk.out.then hh.2⟩)
        · exact (x_deliver HSk.out.1 0 f t l sp R R' hm hR hst hTF).mono (fun e w' hh => ⟨0, _, hh.1, hd, HSk.out.then hh.2⟩)
      clear HDk HSk
      go_wp2_with fail
      refine HC.out.mono ?_
      rintro e w1 ⟨z, S1, rfl, hd1, hs1⟩
      have HD1 : Hid (Dels w0 eb ef (40 - (k + 1)) S1 S') := hd1
      have HS1 : Hid (Sy w0 w eb ef s S1 P w1) := hs1
      clear hd1 hs1 HC
      go_wp2_with fail
      go_roundw
      case rel => exact ⟨k + 1, S1, hlt, by go_num, HD1, HS1⟩
      case measure => simp [intOf]; omega
    · obtain rfl : k = 40 := by omega
      have HE : Hid (S' = Sk) := HDk.out
      have HF : Hid (Sy w0 w eb ef s S' P wr) := by show Sy _ _ _ _ _ _ _ _; rw [HE.out]; exact HSk.out
      clear HDk HSk HE
      go_wp2
      go_end0
      exact ⟨rfl, HF.out⟩

end Go.Proofs.YtfmcngncaffloaaGreatDoor

namespace Go.Proofs.YtfmcngncaffloaaGreatDoor
open Go.RowKit
set_option maxRecDepth 100000

theorem x_readAll {w0 w : World} {eb ef : Addr} {s : Nat} {S : Sto} {P : Nat → Prop} (h : Sx w0 w eb ef s S P) (r k : Nat) (R : Rp) (o : Ob) (l : List Int) (hR : S.reps[r]? = some R) (hup : Rup R) (hk : R.obs[k]? = some o) (hl : (seeTo (pendB R) k o R.effs.length).tells = l) :
    Calls Tryz.prog 31 #[.pointer (some ⟨s, 0, none⟩), I r, I k] w fun e w' => ReadOk w l e w' := by
  obtain ⟨own, rg, cc, pp, ch, pv, prs, hS, hen, hp⟩ := h
  rw [← hl]
  exact wread_all own s rg cc pp ch pv prs S r R k o w hS hR hup hk
theorem x_writesAll {w0 w : World} {eb ef : Addr} {s : Nat} {S : Sto} {P : Nat → Prop} (hI : ItoaSaid) (h : Sx w0 w eb ef s S P) (r : Nat) (R R' : Rp) (acs : List Ac) (ga cp : Nat) (hR : S.reps[r]? = some R) (hup : Rup R) (hbg : beginR R = ({ R with st := 1 }, 0)) (hds : Puts { R with st := 1 } acs R') (hup' : Rup R') (h1 : R'.st = 1) (he : R'.effs ≠ []) (hisb : Wv.isB (pendB R') = true) (hroom : S.msgs.length + S.reps.length ≤ 40) (ha : AcsAt w ga acs) (hg0 : P ga) (hal : acs.length ≤ 1000) :
    Calls Tryz.prog 23 #[.pointer (some ⟨s, 0, none⟩), I r, .slice (some ⟨ga, 0, none⟩) acs.length cp] w fun e w' => e = .returned (.bool true) ∧ Sy w0 w eb ef s ⟨S.reps.set r (commitS R'), S.msgs ++ sprd r (Wv.frameB (pendB R')) S.reps.length⟩ P w' := by
  obtain ⟨own, rg, cc, pp, ch, pv, prs, hS, hen, hp⟩ := h
  exact (writes_all own s rg cc pp ch pv prs S r R R' acs ga cp w w0 eb ef hI hen hS hR hup hbg hds hup' h1 he hisb hroom ha (hp ga hg0).1 hal).mono (fun e w' hh => ⟨hh.1, hh.2.sy hp⟩)
set_option maxHeartbeats 1600000 in
/-- Both replicas tell that list. -/
theorem x_reads {w0 w : World} {eb ef : Addr} {s : Nat} {S : Sto} {P : Nat → Prop} (h : Sx w0 w eb ef s S P) (k : Nat) (R0 R1 : Rp) (o0 o1 : Ob) (want : List Int) (a : Option Addr) (c : Nat) (hR0 : S.reps[0]? = some R0) (hR1 : S.reps[1]? = some R1) (hu0 : Rup R0) (hu1 : Rup R1) (hk0 : R0.obs[k]? = some o0) (hk1 : R1.obs[k]? = some o1) (ht0 : (seeTo (pendB R0) k o0 R0.effs.length).tells = want) (ht1 : (seeTo (pendB R1) k o1 R1.effs.length).tells = want) (hw : At w a (want.map I)) (hl : want.length ≤ 1048576) :
    Calls Tryz.prog 25 #[.pointer (some ⟨s, 0, none⟩), I k, .slice a want.length c] w fun e w' => e = .returned (.bool true) ∧ Below w.heap.size w w' := by
  have HA : Hid (Calls Tryz.prog 31 #[.pointer (some ⟨s, 0, none⟩), I 0, I k] w fun e w' => ReadOk w want e w') := x_readAll h 0 k R0 o0 want hR0 hu0 hk0 ht0
  have HB : Hid (∀ w', Below w.heap.size w w' → Calls Tryz.prog 31 #[.pointer (some ⟨s, 0, none⟩), I 1, I k] w' fun e w'' => ReadOk w' want e w'') := fun w' hb => x_readAll (h.below hb) 1 k R1 o1 want hR1 hu1 hk1 ht1
  have HW : Hid (At w a (want.map I)) := hw
  clear h hR0 hR1 hu0 hu1 hk0 hk1 ht0 ht1 hw
  go_enter Tryz.func25, Tryz.ntmps25
  go_wp2_with fail
  refine HA.out.mono ?_
  rintro e w1 ⟨v1, rfl, hrow1, hb1⟩
  obtain ⟨a1, c1, rfl, hA1, _⟩ := own_list hrow1
  have HC := HB.out w1 hb1
  have HB1 : Hid (Below w.heap.size w w1) := hb1
  have HA1 : Hid (At w1 a1 (want.map I)) := hA1
  clear HA HB hrow1 hA1 hb1
  go_wp2_with fail
  refine HC.mono ?_
  rintro e w2 ⟨v2, rfl, hrow2, hb2⟩
  obtain ⟨a2, c2, rfl, hA2, _⟩ := own_list hrow2
  have HA2 : Hid (At w2 a2 (want.map I)) := hA2
  have HA12 : Hid (At w2 a1 (want.map I)) := HA1.out.kept hb2
  have HB2 : Hid (Below w.heap.size w w2) := HB1.out.trans (hb2.mono HB1.out.size)
  have HW2 : Hid (At w2 a (want.map I)) := HW.out.kept HB2.out
  have HE : Hid (Calls Tryz.prog 32 #[.slice a1 want.length c1, .slice a want.length c] w2 fun e w' => e = .returned (.bool true) ∧ Below w2.heap.size w2 w') := by
    have := equal_any want want a1 a c1 c w2 HA12.out HW2.out hl
    rw [decide_eq_true rfl] at this
    exact this
  have HE2 : Hid (∀ w', Below w2.heap.size w2 w' → Calls Tryz.prog 32 #[.slice a2 want.length c2, .slice a want.length c] w' fun e w'' => e = .returned (.bool true) ∧ Below w'.heap.size w' w'') := fun w' hb => by
    have := equal_any want want a2 a c2 c w' (HA2.out.kept hb) (HW2.out.kept hb) hl
    rw [decide_eq_true rfl] at this
    exact this
  clear HC hrow2 hA2 hb2 HA1 HA2 HA12 HW HW2 HB1
  go_wp2_with fail
  refine HE.out.mono ?_
  rintro e w3 ⟨rfl, hb3⟩
  have HC3 := HE2.out w3 hb3
  have HB3 : Hid (Below w.heap.size w w3) := HB2.out.trans (hb3.mono HB2.out.size)
  clear HE HE2 hb3 HB2
  go_wp2_with fail
  refine HC3.mono ?_
  rintro e w4 ⟨rfl, hb4⟩
  have HB4 : Hid (Below w.heap.size w w4) := HB3.out.trans (hb4.mono HB3.out.size)
  clear HC3 hb4 HB3
  go_wp2
  go_ret
  exact ⟨rfl, HB4.out⟩

end Go.Proofs.YtfmcngncaffloaaGreatDoor

namespace Go.Proofs.YtfmcngncaffloaaGreatDoor
open Go.RowKit
set_option maxRecDepth 100000

/-! Whether a batch is one doesn't hang on its values, where these are in their bounds. -/
def zv (e : Wv.Ef) : Wv.Ef := { e with va := 0 }
def zBt (b : Wv.Bt) : Wv.Bt := { b with effs := b.effs.map zv }
theorem ref_zero (b : Wv.Bt) (i : Int) (d : Wv.Dt) (u : Int) : Wv.refOk (zBt b) i d u = Wv.refOk b i d u := rfl
theorem dots_zero (b : Wv.Bt) (i : Int) (ds : List Wv.Dt) : ∀ n, Wv.dotsTo (zBt b) i ds n = Wv.dotsTo b i ds n
  | 0 => rfl
  | n + 1 => by
    rw [Wv.dotsTo, Wv.dotsTo, dots_zero b i ds n]
    rfl
theorem clk_zero (b : Wv.Bt) : ∀ n, Wv.clkTo (zBt b) n = Wv.clkTo b n
  | 0 => rfl
  | n + 1 => by
    rw [Wv.clkTo, Wv.clkTo, clk_zero b n]
    rfl
theorem zero_in (op : Int) : Wv.rLeast op ≤ 0 ∧ 0 ≤ Wv.rGreat op := by
  unfold Wv.rLeast Wv.rGreat
  constructor <;> (repeat' split) <;> omega
theorem eff_zero (b : Wv.Bt) (i : Int) (e : Wv.Ef) (h : Wv.rLeast e.op ≤ e.va ∧ e.va ≤ Wv.rGreat e.op) : Wv.effOk (zBt b) i (zv e) = Wv.effOk b i e := by
  unfold Wv.effOk Wv.dotsOk
  rw [ref_zero, dots_zero]
  have h0 := zero_in e.op
  show (_ && (decide (Wv.rLeast e.op ≤ 0) && decide (0 ≤ Wv.rGreat e.op)) && _ && _ && _) = _
  rw [decide_eq_true h0.1, decide_eq_true h0.2, decide_eq_true h.1, decide_eq_true h.2]
  rfl
theorem effs_zero (b : Wv.Bt) (h : ∀ e ∈ b.effs, Wv.rLeast e.op ≤ e.va ∧ e.va ≤ Wv.rGreat e.op) : ∀ n, n ≤ b.effs.length → Wv.effsTo (zBt b) n = Wv.effsTo b n
  | 0, _ => rfl
  | n + 1, hn => by
    have hlt : n < b.effs.length := by omega
    have hlt2 : n < (zBt b).effs.length := by show n < (b.effs.map zv).length; rw [List.length_map]; exact hlt
    rw [Wv.effsTo, Wv.effsTo, effs_zero b h n (by omega), List.getD_eq_getElem?_getD, List.getD_eq_getElem?_getD, List.getElem?_eq_getElem hlt, List.getElem?_eq_getElem hlt2, Option.getD_some, Option.getD_some]
    have e1 : (zBt b).effs[n] = zv b.effs[n] := by
      exact List.getElem_map zv
    rw [e1, eff_zero b n _ (h _ (List.getElem_mem hlt))]
theorem isB_zero (b : Wv.Bt) (h : ∀ e ∈ b.effs, Wv.rLeast e.op ≤ e.va ∧ e.va ≤ Wv.rGreat e.op) : Wv.isB (zBt b) = Wv.isB b := by
  have hl : (zBt b).effs.length = b.effs.length := by show (b.effs.map zv).length = _; rw [List.length_map]
  unfold Wv.isB
  rw [hl, effs_zero b h _ (Nat.le_refl _)]
  congr 1
  unfold Wv.headOk Wv.clkOk
  rw [hl, show (zBt b).clock = b.clock from rfl, clk_zero]
  rfl

/-! The states that the law comes through. -/
def mP (o : Int) : List Int → List Wv.Ef
  | [] => []
  | [a] => [⟨5, 3, a, ⟨0, 0, 0⟩, []⟩]
  | a :: b :: _ => [⟨5, 3, a, ⟨0, 0, 0⟩, []⟩, ⟨5, 3, b, ⟨o, 1, 0⟩, []⟩]
def mE1 (A : List Int) (x : Int) : List Wv.Ef := mP 0 A ++ [⟨4, 2, x, ⟨0, 0, 0⟩, []⟩, ⟨1, 0, x, ⟨0, 0, 0⟩, []⟩, ⟨2, 1, x, ⟨0, 0, 0⟩, []⟩]
def mE2 (B : List Int) (y : Int) : List Wv.Ef := mP 1 B ++ [⟨4, 2, y, ⟨0, 0, 0⟩, []⟩, ⟨1, 0, -y, ⟨0, 0, 0⟩, []⟩]
def mb1 (A : List Int) (x : Int) : Wv.Bt := ⟨0, 1, 1, [0, 0], mE1 A x⟩
def mb2 (B : List Int) (y : Int) : Wv.Bt := ⟨1, 1, 1, [0, 0], mE2 B y⟩
/-- Numbers of a byte, at most two. -/
def Sml (A : List Int) : Prop := A.length ≤ 2 ∧ ∀ a ∈ A, 0 ≤ a ∧ a ≤ 255
theorem Sml.cases {A : List Int} (h : Sml A) : A = [] ∨ (∃ a, A = [a] ∧ 0 ≤ a ∧ a ≤ 255) ∨ ∃ a b, A = [a, b] ∧ 0 ≤ a ∧ a ≤ 255 ∧ 0 ≤ b ∧ b ≤ 255 := by
  obtain ⟨h1, h2⟩ := h
  match A, h1, h2 with
  | [], _, _ => exact .inl rfl
  | [a], _, h2 => exact .inr (.inl ⟨a, rfl, h2 a (by simp)⟩)
  | [a, b], _, h2 =>
    have ha := h2 a (by simp)
    have hb := h2 b (by simp)
    exact .inr (.inr ⟨a, b, rfl, ha.1, ha.2, hb.1, hb.2⟩)
theorem isM1 {A : List Int} {x : Int} (hA : Sml A) (h0 : 0 ≤ x) (h1 : x ≤ 255) : Wv.isB (mb1 A x) = true := by
  rcases hA.cases with rfl | ⟨a, rfl, ha⟩ | ⟨a, b, rfl, ha⟩
  · rw [← isB_zero (mb1 [] x) (by intro e he; simp [mb1, mE1, mP] at he; rcases he with rfl | rfl | rfl <;> exact ⟨by show (_ : Int) ≤ x; simp [Wv.rLeast]; omega, by show x ≤ (_ : Int); simp [Wv.rGreat]; omega⟩)]
    rfl
  · rw [← isB_zero (mb1 [a] x) (by intro e he; simp [mb1, mE1, mP] at he; rcases he with rfl | rfl | rfl | rfl <;> exact ⟨by simp [Wv.rLeast]; omega, by simp [Wv.rGreat]; omega⟩)]
    rfl
  · rw [← isB_zero (mb1 [a, b] x) (by intro e he; simp [mb1, mE1, mP] at he; rcases he with rfl | rfl | rfl | rfl | rfl <;> exact ⟨by simp [Wv.rLeast]; omega, by simp [Wv.rGreat]; omega⟩)]
    rfl
theorem isM2 {B : List Int} {y : Int} (hB : Sml B) (h0 : 0 ≤ y) (h1 : y ≤ 255) : Wv.isB (mb2 B y) = true := by
  rcases hB.cases with rfl | ⟨a, rfl, ha⟩ | ⟨a, b, rfl, ha⟩
  · rw [← isB_zero (mb2 [] y) (by intro e he; simp [mb2, mE2, mP] at he; rcases he with rfl | rfl <;> exact ⟨by simp [Wv.rLeast]; omega, by simp [Wv.rGreat]; omega⟩)]
    rfl
  · rw [← isB_zero (mb2 [a] y) (by intro e he; simp [mb2, mE2, mP] at he; rcases he with rfl | rfl | rfl <;> exact ⟨by simp [Wv.rLeast]; omega, by simp [Wv.rGreat]; omega⟩)]
    rfl
  · rw [← isB_zero (mb2 [a, b] y) (by intro e he; simp [mb2, mE2, mP] at he; rcases he with rfl | rfl | rfl | rfl <;> exact ⟨by simp [Wv.rLeast]; omega, by simp [Wv.rGreat]; omega⟩)]
    rfl

end Go.Proofs.YtfmcngncaffloaaGreatDoor

namespace Go.Proofs.YtfmcngncaffloaaGreatDoor
open Go.RowKit
set_option maxRecDepth 100000

theorem ans_add (n x : Int) (h0 : -1000 ≤ x) (h1 : x ≤ 1000) : Ob.answer (.counter n) 1 x 0 = ⟨x, ⟨0, 0, 0⟩, [], 0⟩ := by
  show (⟨(addE x).1, ⟨0, 0, 0⟩, [], (addE x).2⟩ : Sya) = _
  unfold addE
  rw [if_neg (by omega)]
theorem val_ok {x : Int} (h0 : 0 ≤ x) (h1 : x ≤ 255) : valE x = 0 := by unfold valE; rw [if_neg (by omega)]
theorem ans_write (m : Lv) (x : Int) (h0 : 0 ≤ x) (h1 : x ≤ 255) : Ob.answer (.reg m) 4 x 0 = ⟨x, ⟨0, 0, 0⟩, sortD (m.map (·.1)), 0⟩ := by
  show (⟨(regE m x).1, ⟨0, 0, 0⟩, (regE m x).2.1, (regE m x).2.2⟩ : Sya) = _
  unfold regE
  rw [val_ok h0 h1, if_neg (by simp)]
theorem ans_insert (m : Lv) (x : Int) (h0 : 0 ≤ x) (h1 : x ≤ 255) : Ob.answer (.set m) 2 x 0 = ⟨x, ⟨0, 0, 0⟩, [], 0⟩ := by
  show (⟨(setE m 2 x).1, ⟨0, 0, 0⟩, (setE m 2 x).2.1, (setE m 2 x).2.2⟩ : Sya) = _
  unfold setE
  rw [val_ok h0 h1, if_neg (by simp), if_neg (by decide)]
theorem ans_remove (m : Lv) (x : Int) (h0 : 0 ≤ x) (h1 : x ≤ 255) : Ob.answer (.set m) 3 x 0 = ⟨0, ⟨0, 0, 0⟩, remD m x, 0⟩ := by
  show (⟨(setE m 3 x).1, ⟨0, 0, 0⟩, (setE m 3 x).2.1, (setE m 3 x).2.2⟩ : Sya) = _
  unfold setE
  rw [val_ok h0 h1, if_neg (by simp), if_pos rfl]
theorem ans_put0 (ls : List El) (v : Int) (h0 : 0 ≤ v) (h1 : v ≤ 255) : Ob.answer (.list ls) 5 0 v = ⟨v, ⟨0, 0, 0⟩, [], 0⟩ := by
  show (⟨(listE ls 5 0 v).1, (listE ls 5 0 v).2.1, [], (listE ls 5 0 v).2.2⟩ : Sya) = _
  unfold listE
  rw [if_neg (by decide), val_ok h0 h1, if_neg (by simp), putA_zero]
theorem ans_put1 (e : El) (hx : e.x = false) (v : Int) (h0 : 0 ≤ v) (h1 : v ≤ 255) : Ob.answer (.list [e]) 5 1 v = ⟨v, e.s.d, [], 0⟩ := by
  have hs : stands [e] = [e] := by unfold stands; simp [hx]
  have hp : putA [e] 1 v = (v, e.s.d, 0) := by
    have := putA_yes [e] 0 v (by rw [hs]; simp)
    simpa [hs] using this
  show (⟨(listE [e] 5 1 v).1, (listE [e] 5 1 v).2.1, [], (listE [e] 5 1 v).2.2⟩ : Sya) = _
  unfold listE
  rw [if_neg (by decide), val_ok h0 h1, if_neg (by simp), hp]
/-- An effect that a replica may hold. -/
def EvOk (e : Wv.Ef) : Prop := 0 ≤ e.ob ∧ e.ob < 8 ∧ -1000 ≤ e.va ∧ e.va ≤ 1000 ∧ e.dots.length ≤ 1048576
/-- A replica with a transaction open. -/
abbrev opn (R : Rp) (es : List Wv.Ef) : Rp := { R with st := 1, effs := es }
structure Rest (R : Rp) : Prop where
  ok : Rok R
  n0 : 0 ≤ R.n
  n1 : R.n < R.clock.length
theorem Rest.up {R : Rp} (h : Rest R) (es : List Wv.Ef) (hl : es.length ≤ 5) (hv : ∀ e ∈ es, EvOk e) : Rup (opn R es) := ⟨h.ok.same rfl rfl rfl rfl rfl, h.n0, h.n1, by show (1 : Int) ≠ 2; omega, hl, hv⟩
theorem puts_cons {R R' : Rp} {es : List Wv.Ef} {a : Ac} {acs : List Ac} (h : Rest R) (hl : es.length < 5) (hv : ∀ e ∈ es, EvOk e) (o : Ob) (s : Sya) (hop : 1 ≤ a.op ∧ a.op ≤ 6) (hk : R.obs[a.ob]? = some o) (hs : (seeTo (pendB (opn R es)) a.ob o es.length).answer a.op a.x a.y = s)
    (hls : ¬ (s.ds.length : Int) < Wv.rLeastD a.op) (hms : ¬ (s.ds.length : Int) > Wv.rMostD a.op) (hkd : (a.ob : Int) % 4 = Wv.rKind a.op) (her : s.err = 0) (hn : Puts (opn R (es ++ [syE a.op a.ob s])) acs R') : Puts (opn R es) (a :: acs) R' := by
  refine ⟨o, ⟨h.up es (by omega) hv, rfl, hop, hl, ?_, ?_, hkd, ?_, hk⟩, ?_⟩
  · show ¬ (((seeTo (pendB (opn R es)) a.ob o es.length).answer a.op a.x a.y).ds.length : Int) < Wv.rLeastD a.op
    rw [hs]; exact hls
  · show ¬ (((seeTo (pendB (opn R es)) a.ob o es.length).answer a.op a.x a.y).ds.length : Int) > Wv.rMostD a.op
    rw [hs]; exact hms
  · show ((seeTo (pendB (opn R es)) a.ob o es.length).answer a.op a.x a.y).err = 0
    rw [hs]; exact her
  · show Puts { opn R es with effs := es ++ [syE a.op a.ob ((seeTo (pendB (opn R es)) a.ob o es.length).answer a.op a.x a.y)] } acs R'
    rw [hs]; exact hn

end Go.Proofs.YtfmcngncaffloaaGreatDoor

namespace Go.Proofs.YtfmcngncaffloaaGreatDoor
open Go.RowKit
set_option maxRecDepth 100000

theorem see_skip {R : Rp} {es : List Wv.Ef} {k : Int} {o : Ob} (h : ∀ e ∈ es, e.ob ≠ k) : ∀ n, seeTo (pendB (opn R es)) k o n = o
  | 0 => rfl
  | n + 1 => by
    have ih := see_skip (R := R) (o := o) h n
    rw [seeTo]
    split
    · rename_i e he
      have hm : e ∈ es := List.mem_of_getElem? he
      rw [if_neg (h e hm)]
      exact ih
    · exact ih
def mA : List Int → List Ac
  | [] => []
  | [a] => [⟨5, 3, 0, a⟩]
  | a :: b :: _ => [⟨5, 3, 0, a⟩, ⟨5, 3, 1, b⟩]
def acts1 (A : List Int) (x : Int) : List Ac := mA A ++ [⟨4, 2, x, 0⟩, ⟨1, 0, x, 0⟩, ⟨2, 1, x, 0⟩]
def acts2 (B : List Int) (y : Int) : List Ac := mA B ++ [⟨4, 2, y, 0⟩, ⟨1, 0, -y, 0⟩]
theorem mP_ob {i : Int} {A : List Int} : ∀ e ∈ mP i A, e.ob = 3 := by
  intro e he
  match A, he with
  | [], he => simp [mP] at he
  | [a], he => simp [mP] at he; rw [he]
  | a :: b :: _, he => simp [mP] at he; rcases he with rfl | rfl <;> rfl
theorem mP_len {i : Int} {A : List Int} : (mP i A).length ≤ 2 := by
  match A with
  | [] => simp [mP]
  | [a] => simp [mP]
  | a :: b :: _ => simp [mP]
theorem mP_ev {i : Int} {A : List Int} (h : Sml A) : ∀ e ∈ mP i A, EvOk e := by
  intro e he
  rcases h.cases with rfl | ⟨a, rfl, h0, h1⟩ | ⟨a, b, rfl, h0, h1, h2, h3⟩
  · simp [mP] at he
  · simp [mP] at he
    rw [he]
    exact ⟨of_decide_eq_true rfl, of_decide_eq_true rfl, by show -1000 ≤ a; omega, by show a ≤ 1000; omega, of_decide_eq_true rfl⟩
  · simp [mP] at he
    rcases he with rfl | rfl
    · exact ⟨of_decide_eq_true rfl, of_decide_eq_true rfl, by show -1000 ≤ a; omega, by show a ≤ 1000; omega, of_decide_eq_true rfl⟩
    · exact ⟨of_decide_eq_true rfl, of_decide_eq_true rfl, by show -1000 ≤ b; omega, by show b ≤ 1000; omega, of_decide_eq_true rfl⟩
theorem ev_snoc {es : List Wv.Ef} {e : Wv.Ef} (h : ∀ x ∈ es, EvOk x) (he : EvOk e) : ∀ x ∈ es ++ [e], EvOk x := by
  intro x hx
  rcases List.mem_append.1 hx with hx | hx
  · exact h x hx
  · simp only [List.mem_singleton] at hx
    rw [hx]; exact he
theorem rest_new (i : Nat) (hi : i < 2) : Rest (newR i 2) := ⟨Rok.new i 2 (by omega), by show (0 : Int) ≤ (i : Int); omega, by show (i : Int) < 2; omega⟩
theorem puts_pre (i : Nat) (hi : i < 2) {A : List Int} (hA : Sml A) {acs : List Ac} {R' : Rp} (h : Puts (opn (newR i 2) (mP i A)) acs R') : Puts (opn (newR i 2) []) (mA A ++ acs) R' := by
  have hr := rest_new i hi
  rcases hA.cases with rfl | ⟨a, rfl, h0, h1⟩ | ⟨a, b, rfl, h0, h1, h2, h3⟩
  · exact h
  · exact puts_cons hr (of_decide_eq_true rfl) (fun e he => by cases he) (.list []) ⟨a, ⟨0, 0, 0⟩, [], 0⟩ (of_decide_eq_true rfl) rfl (ans_put0 [] a h0 h1) (of_decide_eq_true rfl) (of_decide_eq_true rfl) (of_decide_eq_true rfl) rfl h
  · have hev : ∀ e ∈ ([] ++ [syE 5 3 ⟨a, ⟨0, 0, 0⟩, [], 0⟩] : List Wv.Ef), EvOk e := ev_snoc (fun e he => by cases he) ⟨of_decide_eq_true rfl, of_decide_eq_true rfl, by show -1000 ≤ a; omega, by show a ≤ 1000; omega, of_decide_eq_true rfl⟩
    refine puts_cons hr (of_decide_eq_true rfl) (fun e he => by cases he) (.list []) ⟨a, ⟨0, 0, 0⟩, [], 0⟩ (of_decide_eq_true rfl) rfl (ans_put0 [] a h0 h1) (of_decide_eq_true rfl) (of_decide_eq_true rfl) (of_decide_eq_true rfl) rfl ?_
    have hi2 : i = 0 ∨ i = 1 := by omega
    rcases hi2 with rfl | rfl
    · exact puts_cons hr (of_decide_eq_true rfl) hev (.list []) ⟨b, ⟨0, 1, 0⟩, [], 0⟩ (of_decide_eq_true rfl) rfl (ans_put1 ⟨⟨⟨0, 1, 0⟩, 1⟩, a, false⟩ rfl b h2 h3) (of_decide_eq_true rfl) (of_decide_eq_true rfl) (of_decide_eq_true rfl) rfl h
    · exact puts_cons hr (of_decide_eq_true rfl) hev (.list []) ⟨b, ⟨1, 1, 0⟩, [], 0⟩ (of_decide_eq_true rfl) rfl (ans_put1 ⟨⟨⟨1, 1, 0⟩, 1⟩, a, false⟩ rfl b h2 h3) (of_decide_eq_true rfl) (of_decide_eq_true rfl) (of_decide_eq_true rfl) rfl h
theorem puts1 {A : List Int} {x : Int} (hA : Sml A) (h0 : 0 ≤ x) (h1 : x ≤ 255) : Puts (opn (newR 0 2) []) (acts1 A x) (opn (newR 0 2) (mE1 A x)) := by
  have hr := rest_new 0 (by omega)
  have hl := mP_len (i := 0) (A := A)
  have hv := mP_ev (i := 0) hA
  have ho := mP_ob (i := 0) (A := A)
  have v1 := ev_snoc hv (e := ⟨4, 2, x, ⟨0, 0, 0⟩, []⟩) ⟨of_decide_eq_true rfl, of_decide_eq_true rfl, by show -1000 ≤ x; omega, by show x ≤ 1000; omega, of_decide_eq_true rfl⟩
  have v2 := ev_snoc v1 (e := ⟨1, 0, x, ⟨0, 0, 0⟩, []⟩) ⟨of_decide_eq_true rfl, of_decide_eq_true rfl, by show -1000 ≤ x; omega, by show x ≤ 1000; omega, of_decide_eq_true rfl⟩
  refine puts_pre 0 (by omega) hA ?_
  refine puts_cons hr (by show (mP 0 A).length < 5; omega) hv (.reg []) ⟨x, ⟨0, 0, 0⟩, [], 0⟩ (of_decide_eq_true rfl) rfl ?_ (of_decide_eq_true rfl) (of_decide_eq_true rfl) (of_decide_eq_true rfl) rfl ?_
  · rw [see_skip (fun e he => by rw [ho e he]; exact of_decide_eq_true rfl)]
    exact ans_write [] x h0 h1
  refine puts_cons hr (by rw [List.length_append]; show (mP 0 A).length + 1 < 5; omega) v1 (.counter 0) ⟨x, ⟨0, 0, 0⟩, [], 0⟩ (of_decide_eq_true rfl) rfl ?_ (of_decide_eq_true rfl) (of_decide_eq_true rfl) (of_decide_eq_true rfl) rfl ?_
  · rw [see_skip (fun e he => by
      rcases List.mem_append.1 he with he | he
      · rw [ho e he]; exact of_decide_eq_true rfl
      · simp only [List.mem_singleton] at he; rw [he]; exact of_decide_eq_true rfl)]
    exact ans_add 0 x (by omega) (by omega)
  refine puts_cons hr (by rw [List.length_append, List.length_append]; show (mP 0 A).length + 1 + 1 < 5; omega) v2 (.set []) ⟨x, ⟨0, 0, 0⟩, [], 0⟩ (of_decide_eq_true rfl) rfl ?_ (of_decide_eq_true rfl) (of_decide_eq_true rfl) (of_decide_eq_true rfl) rfl ?_
  · rw [see_skip (fun e he => by
      rcases List.mem_append.1 he with he | he
      · rcases List.mem_append.1 he with he | he
        · rw [ho e he]; exact of_decide_eq_true rfl
        · simp only [List.mem_singleton] at he; rw [he]; exact of_decide_eq_true rfl
      · simp only [List.mem_singleton] at he; rw [he]; exact of_decide_eq_true rfl)]
    exact ans_insert [] x h0 h1
  · show opn (newR 0 2) (mE1 A x) = opn (newR 0 2) (((mP 0 A ++ [_]) ++ [_]) ++ [_])
    unfold mE1
    simp [syE]
theorem puts2 {B : List Int} {y : Int} (hB : Sml B) (h0 : 0 ≤ y) (h1 : y ≤ 255) : Puts (opn (newR 1 2) []) (acts2 B y) (opn (newR 1 2) (mE2 B y)) := by
  have hr := rest_new 1 (by omega)
  have hl := mP_len (i := 1) (A := B)
  have hv := mP_ev (i := 1) hB
  have ho := mP_ob (i := 1) (A := B)
  have v1 := ev_snoc hv (e := ⟨4, 2, y, ⟨0, 0, 0⟩, []⟩) ⟨of_decide_eq_true rfl, of_decide_eq_true rfl, by show -1000 ≤ y; omega, by show y ≤ 1000; omega, of_decide_eq_true rfl⟩
  refine puts_pre 1 (by omega) hB ?_
  refine puts_cons hr (by show (mP 1 B).length < 5; omega) hv (.reg []) ⟨y, ⟨0, 0, 0⟩, [], 0⟩ (of_decide_eq_true rfl) rfl ?_ (of_decide_eq_true rfl) (of_decide_eq_true rfl) (of_decide_eq_true rfl) rfl ?_
  · rw [see_skip (fun e he => by rw [ho e he]; exact of_decide_eq_true rfl)]
    exact ans_write [] y h0 h1
  refine puts_cons hr (by rw [List.length_append]; show (mP 1 B).length + 1 < 5; omega) v1 (.counter 0) ⟨-y, ⟨0, 0, 0⟩, [], 0⟩ (of_decide_eq_true rfl) rfl ?_ (of_decide_eq_true rfl) (of_decide_eq_true rfl) (of_decide_eq_true rfl) rfl ?_
  · rw [see_skip (fun e he => by
      rcases List.mem_append.1 he with he | he
      · rw [ho e he]; exact of_decide_eq_true rfl
      · simp only [List.mem_singleton] at he; rw [he]; exact of_decide_eq_true rfl)]
    exact ans_add 0 (-y) (by omega) (by omega)
  · show opn (newR 1 2) (mE2 B y) = opn (newR 1 2) ((mP 1 B ++ [_]) ++ [_])
    unfold mE2
    simp [syE]

end Go.Proofs.YtfmcngncaffloaaGreatDoor

namespace Go.Proofs.YtfmcngncaffloaaGreatDoor
open Go.RowKit
set_option maxRecDepth 100000

def mN : List Int → Int
  | [] => 0
  | [_] => 1
  | _ :: _ :: _ => 2
def mL (o : Int) : List Int → List El
  | [] => []
  | [a] => [⟨⟨⟨o, 1, 0⟩, 1⟩, a, false⟩]
  | a :: b :: _ => [⟨⟨⟨o, 1, 0⟩, 1⟩, a, false⟩, ⟨⟨⟨o, 1, 1⟩, 1⟩, b, false⟩]
def mS (A : List Int) (x : Int) : Lv := [(⟨0, 1, mN A + 2⟩, x)]
def mR0 (A B : List Int) (x y : Int) : Lv := [(⟨0, 1, mN A⟩, x), (⟨1, 1, mN B⟩, y)]
def mR1 (A B : List Int) (x y : Int) : Lv := [(⟨1, 1, mN B⟩, y), (⟨0, 1, mN A⟩, x)]
def mOb (c : Int) (s r : Lv) (l : List El) : List Ob := [.counter c, .set s, .reg r, .list l, .counter 0, .set [], .reg [], .list []]
/-- Replica 0 and 1 behind their own transactions. -/
def mC0 (A : List Int) (x : Int) : Rp := ⟨0, 0, [1, 0], 1, mOb (0 + x) (mS A x) [(⟨0, 1, mN A⟩, x)] (mL 0 A), Wv.frameB (mb1 A x), (Wv.frameB (mb1 A x)).length, [], []⟩
def mC1 (B : List Int) (y : Int) : Rp := ⟨1, 0, [0, 1], 1, mOb (0 + -y) [] [(⟨1, 1, mN B⟩, y)] (mL 1 B), Wv.frameB (mb2 B y), (Wv.frameB (mb2 B y)).length, [], []⟩
/-- Behind those of the other. -/
def mD0 (A B : List Int) (x y : Int) : Rp := ⟨0, 0, [1, 1], 1, mOb (0 + x + -y) (mS A x) (mR0 A B x y) (mL 1 B ++ mL 0 A), Wv.frameB (mb1 A x) ++ Wv.frameB (mb2 B y), (Wv.frameB (mb1 A x)).length, [], []⟩
def mD1 (A B : List Int) (x y : Int) : Rp := ⟨1, 0, [1, 1], 1, mOb (0 + -y + x) (mS A x) (mR1 A B x y) (mL 1 B ++ mL 0 A), Wv.frameB (mb2 B y) ++ Wv.frameB (mb1 A x), (Wv.frameB (mb2 B y)).length, [], []⟩
theorem mC0_eq {A : List Int} (x : Int) (hA : Sml A) : commitS (opn (newR 0 2) (mE1 A x)) = mC0 A x := by
  rcases hA.cases with rfl | ⟨a, rfl, h0, h1⟩ | ⟨a, b, rfl, h0, h1, h2, h3⟩ <;> rfl
theorem mC1_eq {B : List Int} (y : Int) (hB : Sml B) : commitS (opn (newR 1 2) (mE2 B y)) = mC1 B y := by
  rcases hB.cases with rfl | ⟨a, rfl, h0, h1⟩ | ⟨a, b, rfl, h0, h1, h2, h3⟩ <;> rfl
set_option maxHeartbeats 8000000 in
theorem mD0_eq {A B : List Int} (x y : Int) (hA : Sml A) (hB : Sml B) (hd : Wv.dec (Wv.frameB (mb2 B y)) = some (mb2 B y)) : frameR (mC0 A x) (Wv.frameB (mb2 B y)) = mD0 A B x y := by
  unfold frameR
  rw [hd]
  show heldR 1 (deliverR (mC0 A x) (mb2 B y) (Wv.frameB (mb2 B y)) []) = mD0 A B x y
  rw [heldR]
  show deliverR (mC0 A x) (mb2 B y) (Wv.frameB (mb2 B y)) [] = mD0 A B x y
  unfold mC0 mD0
  generalize Wv.frameB (mb1 A x) = f1
  generalize Wv.frameB (mb2 B y) = f2
  rcases hA.cases with rfl | ⟨a, rfl, h0, h1⟩ | ⟨a, b, rfl, h0, h1, h2, h3⟩ <;> rcases hB.cases with rfl | ⟨c, rfl, k0, k1⟩ | ⟨c, d, rfl, k0, k1, k2, k3⟩ <;> rfl
set_option maxHeartbeats 8000000 in
theorem mD1_eq {A B : List Int} (x y : Int) (hA : Sml A) (hB : Sml B) (hd : Wv.dec (Wv.frameB (mb1 A x)) = some (mb1 A x)) : frameR (mC1 B y) (Wv.frameB (mb1 A x)) = mD1 A B x y := by
  unfold frameR
  rw [hd]
  show heldR 1 (deliverR (mC1 B y) (mb1 A x) (Wv.frameB (mb1 A x)) []) = mD1 A B x y
  rw [heldR]
  show deliverR (mC1 B y) (mb1 A x) (Wv.frameB (mb1 A x)) [] = mD1 A B x y
  unfold mC1 mD1
  generalize Wv.frameB (mb1 A x) = f1
  generalize Wv.frameB (mb2 B y) = f2
  rcases hA.cases with rfl | ⟨a, rfl, h0, h1⟩ | ⟨a, b, rfl, h0, h1, h2, h3⟩ <;> rcases hB.cases with rfl | ⟨c, rfl, k0, k1⟩ | ⟨c, d, rfl, k0, k1, k2, k3⟩ <;> rfl

end Go.Proofs.YtfmcngncaffloaaGreatDoor

namespace Go.Proofs.YtfmcngncaffloaaGreatDoor
open Go.RowKit
set_option maxRecDepth 100000

theorem remD_one (d : Wv.Dt) (x : Int) : remD [(d, x)] x = [d] := by
  have hg : getD [(d, x)] d = x := by simp [getD, idxD, List.findIdx?_cons, (eqD_iff d d).2 rfl]
  show List.filter (fun e => !(getD [(d, x)] e != x)) [d] = [d]
  simp [hg]
/-- The second and the third transactions. -/
def mF0 (n k y : Int) : List Wv.Ef := [⟨3, 1, 0, ⟨0, 0, 0⟩, [⟨0, 1, n + 2⟩]⟩, ⟨4, 2, y, ⟨0, 0, 0⟩, [⟨0, 1, n⟩, ⟨1, 1, k⟩]⟩]
def mF1 (x : Int) : List Wv.Ef := [⟨2, 1, x, ⟨0, 0, 0⟩, []⟩]
def mF2 : List Wv.Ef := [⟨3, 1, 0, ⟨0, 0, 0⟩, [⟨1, 2, 0⟩]⟩]
def mb3 (n k y : Int) : Wv.Bt := ⟨0, 2, 2, [1, 1], mF0 n k y⟩
def mb4 (x : Int) : Wv.Bt := ⟨1, 2, 2, [1, 1], mF1 x⟩
def mb5 : Wv.Bt := ⟨1, 3, 3, [2, 2], mF2⟩
def Two (n : Int) : Prop := n = 0 ∨ n = 1 ∨ n = 2
theorem isM3 {n k y : Int} (hn : Two n) (hk : Two k) (h0 : 0 ≤ y) (h1 : y ≤ 255) : Wv.isB (mb3 n k y) = true := by
  rw [← isB_zero (mb3 n k y) (by intro e he; simp [mb3, mF0] at he; rcases he with rfl | rfl <;> exact ⟨by simp [Wv.rLeast]; try omega, by simp [Wv.rGreat]; try omega⟩)]
  rcases hn with rfl | rfl | rfl <;> rcases hk with rfl | rfl | rfl <;> rfl
theorem isM4 {x : Int} (h0 : 0 ≤ x) (h1 : x ≤ 255) : Wv.isB (mb4 x) = true := by
  rw [← isB_zero (mb4 x) (by intro e he; simp [mb4, mF1] at he; subst he; exact ⟨by simp [Wv.rLeast]; omega, by simp [Wv.rGreat]; omega⟩)]
  rfl
theorem isM5 : Wv.isB mb5 = true := rfl
/-- Replicas 0 and 1 as the law goes on: with what sets and registers they have. -/
def mX (i : Int) (c0 c1 t : Int) (c : Int) (s r : Lv) (l : List El) (L : List UInt8) (z : Int) : Rp := ⟨i, 0, [c0, c1], t, mOb c s r l, L, z, [], []⟩
def mQ (n k x y : Int) : Lv := [(⟨0, 1, n⟩, x), (⟨1, 1, k⟩, y)]
def mQ' (n k x y : Int) : Lv := [(⟨1, 1, k⟩, y), (⟨0, 1, n⟩, x)]
theorem mG0_eq (n k x y c : Int) (l : List El) (L : List UInt8) (z : Int) (hn : Two n) (hk : Two k) : commitS (opn (mX 0 1 1 1 c [(⟨0, 1, n + 2⟩, x)] (mQ n k x y) l L z) (mF0 n k y)) = mX 0 2 1 2 c [] [(⟨0, 2, 1⟩, y)] l (L ++ Wv.frameB (mb3 n k y)) (L ++ Wv.frameB (mb3 n k y)).length := by
  rcases hn with rfl | rfl | rfl <;> rcases hk with rfl | rfl | rfl <;> rfl
theorem mG1_eq (n k x y c : Int) (l : List El) (L : List UInt8) (z : Int) (hn : Two n) (hk : Two k) : commitS (opn (mX 1 1 1 1 c [(⟨0, 1, n + 2⟩, x)] (mQ' n k x y) l L z) (mF1 x)) = mX 1 1 2 2 c [(⟨0, 1, n + 2⟩, x), (⟨1, 2, 0⟩, x)] (mQ' n k x y) l (L ++ Wv.frameB (mb4 x)) (L ++ Wv.frameB (mb4 x)).length := by
  rcases hn with rfl | rfl | rfl <;> rcases hk with rfl | rfl | rfl <;> rfl
theorem mH0_eq (x y c : Int) (l : List El) (L : List UInt8) (z : Int) (hd : Wv.dec (Wv.frameB (mb4 x)) = some (mb4 x)) : frameR (mX 0 2 1 2 c [] [(⟨0, 2, 1⟩, y)] l L z) (Wv.frameB (mb4 x)) = mX 0 2 2 2 c [(⟨1, 2, 0⟩, x)] [(⟨0, 2, 1⟩, y)] l (L ++ Wv.frameB (mb4 x)) z := by
  unfold frameR
  rw [hd]
  show heldR 1 (deliverR (mX 0 2 1 2 c [] [(⟨0, 2, 1⟩, y)] l L z) (mb4 x) (Wv.frameB (mb4 x)) []) = _
  rw [heldR]
  show deliverR (mX 0 2 1 2 c [] [(⟨0, 2, 1⟩, y)] l L z) (mb4 x) (Wv.frameB (mb4 x)) [] = _
  generalize Wv.frameB (mb4 x) = f
  rfl
theorem mH1_eq (n k x y c : Int) (l : List El) (L : List UInt8) (z : Int) (hn : Two n) (hk : Two k) (hd : Wv.dec (Wv.frameB (mb3 n k y)) = some (mb3 n k y)) : frameR (mX 1 1 2 2 c [(⟨0, 1, n + 2⟩, x), (⟨1, 2, 0⟩, x)] (mQ' n k x y) l L z) (Wv.frameB (mb3 n k y)) = mX 1 2 2 2 c [(⟨1, 2, 0⟩, x)] [(⟨0, 2, 1⟩, y)] l (L ++ Wv.frameB (mb3 n k y)) z := by
  unfold frameR
  rw [hd]
  show heldR 1 (deliverR (mX 1 1 2 2 c [(⟨0, 1, n + 2⟩, x), (⟨1, 2, 0⟩, x)] (mQ' n k x y) l L z) (mb3 n k y) (Wv.frameB (mb3 n k y)) []) = _
  rw [heldR]
  show deliverR (mX 1 1 2 2 c [(⟨0, 1, n + 2⟩, x), (⟨1, 2, 0⟩, x)] (mQ' n k x y) l L z) (mb3 n k y) (Wv.frameB (mb3 n k y)) [] = _
  generalize Wv.frameB (mb3 n k y) = f
  rcases hn with rfl | rfl | rfl <;> rcases hk with rfl | rfl | rfl <;> rfl
theorem mI1_eq (x y c : Int) (l : List El) (L : List UInt8) (z : Int) : commitS (opn (mX 1 2 2 2 c [(⟨1, 2, 0⟩, x)] [(⟨0, 2, 1⟩, y)] l L z) mF2) = mX 1 2 3 3 c [] [(⟨0, 2, 1⟩, y)] l (L ++ Wv.frameB mb5) (L ++ Wv.frameB mb5).length := by
  rfl
theorem mI0_eq (x y c : Int) (l : List El) (L : List UInt8) (z : Int) (hd : Wv.dec (Wv.frameB mb5) = some mb5) : frameR (mX 0 2 2 2 c [(⟨1, 2, 0⟩, x)] [(⟨0, 2, 1⟩, y)] l L z) (Wv.frameB mb5) = mX 0 2 3 3 c [] [(⟨0, 2, 1⟩, y)] l (L ++ Wv.frameB mb5) z := by
  unfold frameR
  rw [hd]
  show heldR 1 (deliverR (mX 0 2 2 2 c [(⟨1, 2, 0⟩, x)] [(⟨0, 2, 1⟩, y)] l L z) mb5 (Wv.frameB mb5) []) = _
  rw [heldR]
  show deliverR (mX 0 2 2 2 c [(⟨1, 2, 0⟩, x)] [(⟨0, 2, 1⟩, y)] l L z) mb5 (Wv.frameB mb5) [] = _
  generalize Wv.frameB mb5 = f
  rfl

end Go.Proofs.YtfmcngncaffloaaGreatDoor

namespace Go.Proofs.YtfmcngncaffloaaGreatDoor
open Go.RowKit
set_option maxRecDepth 100000

theorem puts3 {n k x y c : Int} {l : List El} {L : List UInt8} {z : Int} (h : Rest (mX 0 1 1 1 c [(⟨0, 1, n + 2⟩, x)] (mQ n k x y) l L z)) (hx0 : 0 ≤ x) (hx1 : x ≤ 255) (hy0 : 0 ≤ y) (hy1 : y ≤ 255) : Puts (opn (mX 0 1 1 1 c [(⟨0, 1, n + 2⟩, x)] (mQ n k x y) l L z) []) [⟨3, 1, x, 0⟩, ⟨4, 2, y, 0⟩] (opn (mX 0 1 1 1 c [(⟨0, 1, n + 2⟩, x)] (mQ n k x y) l L z) (mF0 n k y)) := by
  have v1 : ∀ e ∈ ([] ++ [syE 3 1 ⟨0, ⟨0, 0, 0⟩, [⟨0, 1, n + 2⟩], 0⟩] : List Wv.Ef), EvOk e := ev_snoc (fun e he => by cases he) ⟨of_decide_eq_true rfl, of_decide_eq_true rfl, of_decide_eq_true rfl, of_decide_eq_true rfl, of_decide_eq_true rfl⟩
  refine puts_cons h (of_decide_eq_true rfl) (fun e he => by cases he) (.set [(⟨0, 1, n + 2⟩, x)]) ⟨0, ⟨0, 0, 0⟩, [⟨0, 1, n + 2⟩], 0⟩ (of_decide_eq_true rfl) rfl ?_ (of_decide_eq_true rfl) (of_decide_eq_true rfl) (of_decide_eq_true rfl) rfl ?_
  · show Ob.answer (.set [(⟨0, 1, n + 2⟩, x)]) 3 x 0 = _
    rw [ans_remove _ x hx0 hx1, remD_one]
  refine puts_cons h (of_decide_eq_true rfl) v1 (.reg (mQ n k x y)) ⟨y, ⟨0, 0, 0⟩, [⟨0, 1, n⟩, ⟨1, 1, k⟩], 0⟩ (of_decide_eq_true rfl) rfl ?_ (of_decide_eq_true rfl) (of_decide_eq_true rfl) (of_decide_eq_true rfl) rfl rfl
  show Ob.answer (.reg (mQ n k x y)) 4 y 0 = _
  rw [ans_write _ y hy0 hy1]
  rfl
theorem puts4 {d : Wv.Dt} {r : Lv} {x c : Int} {l : List El} {L : List UInt8} {z : Int} (h : Rest (mX 1 1 1 1 c [(d, x)] r l L z)) (hx0 : 0 ≤ x) (hx1 : x ≤ 255) : Puts (opn (mX 1 1 1 1 c [(d, x)] r l L z) []) [⟨2, 1, x, 0⟩] (opn (mX 1 1 1 1 c [(d, x)] r l L z) (mF1 x)) :=
  puts_cons h (of_decide_eq_true rfl) (fun e he => by cases he) (.set [(d, x)]) ⟨x, ⟨0, 0, 0⟩, [], 0⟩ (of_decide_eq_true rfl) rfl (ans_insert [(d, x)] x hx0 hx1) (of_decide_eq_true rfl) (of_decide_eq_true rfl) (of_decide_eq_true rfl) rfl rfl
theorem puts5 {r : Lv} {x c : Int} {l : List El} {L : List UInt8} {z : Int} (h : Rest (mX 1 2 2 2 c [(⟨1, 2, 0⟩, x)] r l L z)) (hx0 : 0 ≤ x) (hx1 : x ≤ 255) : Puts (opn (mX 1 2 2 2 c [(⟨1, 2, 0⟩, x)] r l L z) []) [⟨3, 1, x, 0⟩] (opn (mX 1 2 2 2 c [(⟨1, 2, 0⟩, x)] r l L z) mF2) := by
  refine puts_cons h (of_decide_eq_true rfl) (fun e he => by cases he) (.set [(⟨1, 2, 0⟩, x)]) ⟨0, ⟨0, 0, 0⟩, [⟨1, 2, 0⟩], 0⟩ (of_decide_eq_true rfl) rfl ?_ (of_decide_eq_true rfl) (of_decide_eq_true rfl) (of_decide_eq_true rfl) rfl rfl
  show Ob.answer (.set [(⟨1, 2, 0⟩, x)]) 3 x 0 = _
  rw [ans_remove _ x hx0 hx1, remD_one]
/-! What the objects come to. -/
theorem tell_set (d : Wv.Dt) (x : Int) : Ob.tells (.set [(d, x)]) = [x] := rfl
theorem tell_reg1 (d : Wv.Dt) (y : Int) : Ob.tells (.reg [(d, y)]) = [y] := by
  have hg : getD [(d, y)] d = y := by simp [getD, idxD, List.findIdx?_cons, (eqD_iff d d).2 rfl]
  show [getD [(d, y)] d] = [y]
  rw [hg]
theorem tell_regQ {n k : Int} (x y : Int) (hn : Two n) (hk : Two k) : Ob.tells (.reg (mQ n k x y)) = [x, y] := by
  rcases hn with rfl | rfl | rfl <;> rcases hk with rfl | rfl | rfl <;> rfl
theorem tell_regQ' {n k : Int} (x y : Int) (hn : Two n) (hk : Two k) : Ob.tells (.reg (mQ' n k x y)) = [x, y] := by
  rcases hn with rfl | rfl | rfl <;> rcases hk with rfl | rfl | rfl <;> rfl
theorem tell_list {A B : List Int} (hA : Sml A) (hB : Sml B) : Ob.tells (.list (mL 1 B ++ mL 0 A)) = B ++ A := by
  rcases hA.cases with rfl | ⟨a, rfl, h0, h1⟩ | ⟨a, b, rfl, h0, h1, h2, h3⟩ <;> rcases hB.cases with rfl | ⟨c, rfl, k0, k1⟩ | ⟨c, d, rfl, k0, k1, k2, k3⟩ <;> rfl
theorem tell_cnt0 (x y : Int) : Ob.tells (.counter (0 + x + -y)) = [x - y] := by
  show [0 + x + -y] = [x - y]
  congr 1
  omega
theorem tell_cnt1 (x y : Int) : Ob.tells (.counter (0 + -y + x)) = [x - y] := by
  show [0 + -y + x] = [x - y]
  congr 1
  omega
/-! The replicas stay what they are. -/
theorem Rest.up0 {R : Rp} (h : Rest R) (hs : R.st = 0) (he : R.effs = []) : Rup R := ⟨h.ok, h.n0, h.n1, by rw [hs]; omega, by rw [he]; exact Nat.zero_le _, fun e hm => by rw [he] at hm; cases hm⟩
theorem Rest.opn {R : Rp} (h : Rest R) (es : List Wv.Ef) : Rest (opn R es) := ⟨h.ok.same rfl rfl rfl rfl rfl, h.n0, h.n1⟩
section
variable {A B : List Int} {x y : Int}
theorem restC0 (hA : Sml A) (h0 : 0 ≤ x) (h1 : x ≤ 255) : Rest (mC0 A x) := ⟨by rw [← mC0_eq x hA]; exact ((rest_new 0 (by omega)).opn (mE1 A x)).ok.commit (isM1 hA h0 h1), of_decide_eq_true rfl, of_decide_eq_true rfl⟩
theorem restC1 (hB : Sml B) (h0 : 0 ≤ y) (h1 : y ≤ 255) : Rest (mC1 B y) := ⟨by rw [← mC1_eq y hB]; exact ((rest_new 1 (by omega)).opn (mE2 B y)).ok.commit (isM2 hB h0 h1), of_decide_eq_true rfl, of_decide_eq_true rfl⟩
theorem decM1 (hA : Sml A) (h0 : 0 ≤ x) (h1 : x ≤ 255) : Wv.dec (Wv.frameB (mb1 A x)) = some (mb1 A x) := Wv.dec_frame _ (isM1 hA h0 h1)
theorem decM2 (hB : Sml B) (h0 : 0 ≤ y) (h1 : y ≤ 255) : Wv.dec (Wv.frameB (mb2 B y)) = some (mb2 B y) := Wv.dec_frame _ (isM2 hB h0 h1)
theorem restD0 (hA : Sml A) (hB : Sml B) (hx0 : 0 ≤ x) (hx1 : x ≤ 255) (hy0 : 0 ≤ y) (hy1 : y ≤ 255) : Rest (mD0 A B x y) := ⟨by rw [← mD0_eq x y hA hB (decM2 hB hy0 hy1)]; exact (restC0 hA hx0 hx1).ok.frame _, of_decide_eq_true rfl, of_decide_eq_true rfl⟩
theorem restD1 (hA : Sml A) (hB : Sml B) (hx0 : 0 ≤ x) (hx1 : x ≤ 255) (hy0 : 0 ≤ y) (hy1 : y ≤ 255) : Rest (mD1 A B x y) := ⟨by rw [← mD1_eq x y hA hB (decM1 hA hx0 hx1)]; exact (restC1 hB hy0 hy1).ok.frame _, of_decide_eq_true rfl, of_decide_eq_true rfl⟩
end
end Go.Proofs.YtfmcngncaffloaaGreatDoor

namespace Go.Proofs.YtfmcngncaffloaaGreatDoor
open Go.RowKit
set_option maxRecDepth 100000

def msg01 (f : List UInt8) : Ms := ⟨1, 0, 1, f, false⟩
def msg10 (f : List UInt8) : Ms := ⟨1, 1, 0, f, false⟩
section
variable {A B : List Int} {x y : Int} {w0 w : World} {eb ef : Addr} {s : Nat} {P : Nat → Prop}
theorem ev_app {es fs : List Wv.Ef} (h : ∀ e ∈ es, EvOk e) (k : ∀ e ∈ fs, EvOk e) : ∀ e ∈ es ++ fs, EvOk e := fun e he => by
  rcases List.mem_append.1 he with he | he
  · exact h e he
  · exact k e he
theorem ev1 (hA : Sml A) (h0 : 0 ≤ x) (h1 : x ≤ 255) : ∀ e ∈ mE1 A x, EvOk e := ev_app (mP_ev hA) (fun e he => by
  simp only [List.mem_cons, List.not_mem_nil, or_false] at he
  rcases he with rfl | rfl | rfl <;> exact ⟨of_decide_eq_true rfl, of_decide_eq_true rfl, by show -1000 ≤ x; omega, by show x ≤ 1000; omega, of_decide_eq_true rfl⟩)
theorem ev2 (hB : Sml B) (h0 : 0 ≤ y) (h1 : y ≤ 255) : ∀ e ∈ mE2 B y, EvOk e := ev_app (mP_ev hB) (fun e he => by
  simp only [List.mem_cons, List.not_mem_nil, or_false] at he
  rcases he with rfl | rfl
  · exact ⟨of_decide_eq_true rfl, of_decide_eq_true rfl, by show -1000 ≤ y; omega, by show y ≤ 1000; omega, of_decide_eq_true rfl⟩
  · exact ⟨of_decide_eq_true rfl, of_decide_eq_true rfl, by show -1000 ≤ -y; omega, by show -y ≤ 1000; omega, of_decide_eq_true rfl⟩)
theorem len1 : (mE1 A x).length ≤ 5 := by
  have := mP_len (i := 0) (A := A)
  unfold mE1
  rw [List.length_append]
  show (mP 0 A).length + 3 ≤ 5
  omega
theorem len2 : (mE2 B y).length ≤ 5 := by
  have := mP_len (i := 1) (A := B)
  unfold mE2
  rw [List.length_append]
  show (mP 1 B).length + 2 ≤ 5
  omega
theorem ne1 : mE1 A x ≠ [] := by unfold mE1; simp
theorem ne2 : mE2 B y ≠ [] := by unfold mE2; simp
theorem lenA : (mA A).length ≤ 2 := by
  match A with
  | [] => simp [mA]
  | [a] => simp [mA]
  | a :: b :: _ => simp [mA]
def M1 (A : List Int) (x : Int) : Sto := ⟨[mC0 A x, newR 1 2], [msg01 (Wv.frameB (mb1 A x))]⟩
def M2 (A B : List Int) (x y : Int) : Sto := ⟨[mC0 A x, mC1 B y], [msg01 (Wv.frameB (mb1 A x)), msg10 (Wv.frameB (mb2 B y))]⟩
def M3 (A B : List Int) (x y : Int) : Sto := ⟨[mD0 A B x y, mD1 A B x y], []⟩
theorem g1 (hI : ItoaSaid) (h : Sx w0 w eb ef s (newS 2) P) (hA : Sml A) (h0 : 0 ≤ x) (h1 : x ≤ 255) (ga cp : Nat) (ha : AcsAt w ga (acts1 A x)) (hg : P ga) :
    Calls Tryz.prog 23 #[.pointer (some ⟨s, 0, none⟩), I 0, .slice (some ⟨ga, 0, none⟩) (acts1 A x).length cp] w fun e w' => e = .returned (.bool true) ∧ Sy w0 w eb ef s (M1 A x) P w' := by
  have hl := lenA (A := A)
  have hw := x_writesAll hI h 0 (newR 0 2) (opn (newR 0 2) (mE1 A x)) (acts1 A x) ga cp rfl ((rest_new 0 (by omega)).up0 rfl rfl) rfl (puts1 hA h0 h1) ((rest_new 0 (by omega)).up _ len1 (ev1 hA h0 h1)) rfl ne1 (isM1 hA h0 h1) (of_decide_eq_true rfl) ha hg (by unfold acts1; rw [List.length_append]; show (mA A).length + 3 ≤ 1000; omega)
  have e : (⟨(newS 2).reps.set 0 (commitS (opn (newR 0 2) (mE1 A x))), (newS 2).msgs ++ sprd 0 (Wv.frameB (pendB (opn (newR 0 2) (mE1 A x)))) (newS 2).reps.length⟩ : Sto) = M1 A x := by
    rw [mC0_eq x hA]
    rfl
  rw [e] at hw
  exact hw
theorem g2 (hI : ItoaSaid) (h : Sx w0 w eb ef s (M1 A x) P) (hB : Sml B) (h0 : 0 ≤ y) (h1 : y ≤ 255) (ga cp : Nat) (ha : AcsAt w ga (acts2 B y)) (hg : P ga) :
    Calls Tryz.prog 23 #[.pointer (some ⟨s, 0, none⟩), I 1, .slice (some ⟨ga, 0, none⟩) (acts2 B y).length cp] w fun e w' => e = .returned (.bool true) ∧ Sy w0 w eb ef s (M2 A B x y) P w' := by
  have hl := lenA (A := B)
  have hw := x_writesAll hI h 1 (newR 1 2) (opn (newR 1 2) (mE2 B y)) (acts2 B y) ga cp rfl ((rest_new 1 (by omega)).up0 rfl rfl) rfl (puts2 hB h0 h1) ((rest_new 1 (by omega)).up _ len2 (ev2 hB h0 h1)) rfl ne2 (isM2 hB h0 h1) (of_decide_eq_true rfl) ha hg (by unfold acts2; rw [List.length_append]; show (mA B).length + 2 ≤ 1000; omega)
  have e : (⟨(M1 A x).reps.set 1 (commitS (opn (newR 1 2) (mE2 B y))), (M1 A x).msgs ++ sprd 1 (Wv.frameB (pendB (opn (newR 1 2) (mE2 B y)))) (M1 A x).reps.length⟩ : Sto) = M2 A B x y := by
    rw [mC1_eq y hB]
    rfl
  rw [e] at hw
  exact hw
theorem g3 (hI : ItoaSaid) (hgd : Gd w0) (h : Sx w0 w eb ef s (M2 A B x y) P) (hA : Sml A) (hB : Sml B) (hx0 : 0 ≤ x) (hx1 : x ≤ 255) (hy0 : 0 ≤ y) (hy1 : y ≤ 255) :
    Calls Tryz.prog 24 #[.pointer (some ⟨s, 0, none⟩)] w fun e w' => e = .returned (.tuple #[]) ∧ Sy w0 w eb ef s (M3 A B x y) P w' := by
  have t1 : TFrame w0 eb ef (mC1 B y) (Wv.frameB (mb1 A x)) (mD1 A B x y) := by
    rw [← mD1_eq x y hA hB (decM1 hA hx0 hx1)]
    exact tframe_new hI hgd (restC1 hB hy0 hy1).ok (decM1 hA hx0 hx1) rfl (of_decide_eq_true rfl)
  have t0 : TFrame w0 eb ef (mC0 A x) (Wv.frameB (mb2 B y)) (mD0 A B x y) := by
    rw [← mD0_eq x y hA hB (decM2 hB hy0 hy1)]
    exact tframe_new hI hgd (restC0 hA hx0 hx1).ok (decM2 hB hy0 hy1) rfl (of_decide_eq_true rfl)
  refine delivered_any w0 w eb ef s _ _ P h (.inr ⟨0, 1, _, false, _, _, rfl, rfl, of_decide_eq_true rfl, t1, .inr ⟨1, 0, _, false, _, _, rfl, rfl, of_decide_eq_true rfl, t0, ?_⟩⟩)
  exact Dels.idle w0 eb ef (M3 A B x y) rfl 38
end

end Go.Proofs.YtfmcngncaffloaaGreatDoor

namespace Go.Proofs.YtfmcngncaffloaaGreatDoor
open Go.RowKit
set_option maxRecDepth 100000

/-- What stays of the law's state. -/
structure Mv where
  n : Int
  k : Int
  x : Int
  y : Int
  c0 : Int
  c1 : Int
  l : List El
structure Mv.Ok (v : Mv) : Prop where
  n : Two v.n
  k : Two v.k
  x0 : 0 ≤ v.x
  x1 : v.x ≤ 255
  y0 : 0 ≤ v.y
  y1 : v.y ≤ 255
def q3 (v : Mv) : List UInt8 := Wv.frameB (mb3 v.n v.k v.y)
def q4 (v : Mv) : List UInt8 := Wv.frameB (mb4 v.x)
def q5 : List UInt8 := Wv.frameB mb5
def N3 (v : Mv) (L0 L1 : List UInt8) (z0 z1 : Int) : Sto := ⟨[mX 0 1 1 1 v.c0 [(⟨0, 1, v.n + 2⟩, v.x)] (mQ v.n v.k v.x v.y) v.l L0 z0, mX 1 1 1 1 v.c1 [(⟨0, 1, v.n + 2⟩, v.x)] (mQ' v.n v.k v.x v.y) v.l L1 z1], []⟩
def N4 (v : Mv) (L0 L1 : List UInt8) (z0 z1 : Int) : Sto := ⟨[mX 0 2 1 2 v.c0 [] [(⟨0, 2, 1⟩, v.y)] v.l L0 z0, mX 1 1 1 1 v.c1 [(⟨0, 1, v.n + 2⟩, v.x)] (mQ' v.n v.k v.x v.y) v.l L1 z1], [msg01 (q3 v)]⟩
def N5 (v : Mv) (L0 L1 : List UInt8) (z0 z1 : Int) : Sto := ⟨[mX 0 2 1 2 v.c0 [] [(⟨0, 2, 1⟩, v.y)] v.l L0 z0, mX 1 1 2 2 v.c1 [(⟨0, 1, v.n + 2⟩, v.x), (⟨1, 2, 0⟩, v.x)] (mQ' v.n v.k v.x v.y) v.l L1 z1], [msg01 (q3 v), msg10 (q4 v)]⟩
def N6 (v : Mv) (L0 L1 : List UInt8) (z0 z1 : Int) : Sto := ⟨[mX 0 2 2 2 v.c0 [(⟨1, 2, 0⟩, v.x)] [(⟨0, 2, 1⟩, v.y)] v.l L0 z0, mX 1 2 2 2 v.c1 [(⟨1, 2, 0⟩, v.x)] [(⟨0, 2, 1⟩, v.y)] v.l L1 z1], []⟩
def N7 (v : Mv) (L0 L1 : List UInt8) (z0 z1 : Int) : Sto := ⟨[mX 0 2 2 2 v.c0 [(⟨1, 2, 0⟩, v.x)] [(⟨0, 2, 1⟩, v.y)] v.l L0 z0, mX 1 2 3 3 v.c1 [] [(⟨0, 2, 1⟩, v.y)] v.l L1 z1], [msg10 q5]⟩
def N8 (v : Mv) (L0 L1 : List UInt8) (z0 z1 : Int) : Sto := ⟨[mX 0 2 3 3 v.c0 [] [(⟨0, 2, 1⟩, v.y)] v.l L0 z0, mX 1 2 3 3 v.c1 [] [(⟨0, 2, 1⟩, v.y)] v.l L1 z1], []⟩
/-- Both replicas are whole. -/
def Whl (S : Sto) : Prop := ∀ R ∈ S.reps, Rest R
theorem Whl.at {S : Sto} (h : Whl S) {i : Nat} {R : Rp} (hi : S.reps[i]? = some R) : Rest R := h R (List.mem_of_getElem? hi)
theorem Whl.two {R0 R1 : Rp} {ms : List Ms} (h0 : Rest R0) (h1 : Rest R1) : Whl ⟨[R0, R1], ms⟩ := fun R hR => by
  simp only [List.mem_cons, List.not_mem_nil, or_false] at hR
  rcases hR with rfl | rfl
  · exact h0
  · exact h1
section
variable {v : Mv} {L0 L1 : List UInt8} {z0 z1 : Int} {w0 w : World} {eb ef : Addr} {s : Nat} {P : Nat → Prop}
theorem dec3 (hv : v.Ok) : Wv.dec (q3 v) = some (mb3 v.n v.k v.y) := Wv.dec_frame _ (isM3 hv.n hv.k hv.y0 hv.y1)
theorem dec4 (hv : v.Ok) : Wv.dec (q4 v) = some (mb4 v.x) := Wv.dec_frame _ (isM4 hv.x0 hv.x1)
theorem dec5 : Wv.dec q5 = some mb5 := Wv.dec_frame _ isM5
theorem g4 (hI : ItoaSaid) (h : Sx w0 w eb ef s (N3 v L0 L1 z0 z1) P) (hw : Whl (N3 v L0 L1 z0 z1)) (hv : v.Ok) (ga cp : Nat) (ha : AcsAt w ga [⟨3, 1, v.x, 0⟩, ⟨4, 2, v.y, 0⟩]) (hg : P ga) :
    Calls Tryz.prog 23 #[.pointer (some ⟨s, 0, none⟩), I 0, .slice (some ⟨ga, 0, none⟩) 2 cp] w fun e w' => e = .returned (.bool true) ∧ ∃ L z, Whl (N4 v L L1 z z1) ∧ Sy w0 w eb ef s (N4 v L L1 z z1) P w' := by
  have hr : Rest (mX 0 1 1 1 v.c0 [(⟨0, 1, v.n + 2⟩, v.x)] (mQ v.n v.k v.x v.y) v.l L0 z0) := hw.at (i := 0) rfl
  have hr1 : Rest (mX 1 1 1 1 v.c1 [(⟨0, 1, v.n + 2⟩, v.x)] (mQ' v.n v.k v.x v.y) v.l L1 z1) := hw.at (i := 1) rfl
  have hb := isM3 hv.n hv.k hv.y0 hv.y1
  have hc := x_writesAll hI h 0 _ _ [⟨3, 1, v.x, 0⟩, ⟨4, 2, v.y, 0⟩] ga cp rfl (hr.up0 rfl rfl) rfl (puts3 hr hv.x0 hv.x1 hv.y0 hv.y1) (hr.up (mF0 v.n v.k v.y) (of_decide_eq_true rfl) (fun e he => by
    simp only [mF0, List.mem_cons, List.not_mem_nil, or_false] at he
    have := hv.y0; have := hv.y1
    rcases he with rfl | rfl
    · exact ⟨of_decide_eq_true rfl, of_decide_eq_true rfl, of_decide_eq_true rfl, of_decide_eq_true rfl, of_decide_eq_true rfl⟩
    · exact ⟨of_decide_eq_true rfl, of_decide_eq_true rfl, by show -1000 ≤ v.y; omega, by show v.y ≤ 1000; omega, of_decide_eq_true rfl⟩)) rfl (by unfold mF0; simp) hb (of_decide_eq_true rfl) ha hg (of_decide_eq_true rfl)
  refine hc.mono ?_
  rintro e w' ⟨he, hs⟩
  rw [mG0_eq _ _ _ _ _ _ _ _ hv.n hv.k] at hs
  refine ⟨he, _, _, Whl.two ⟨?_, of_decide_eq_true rfl, of_decide_eq_true rfl⟩ hr1, hs⟩
  rw [← mG0_eq v.n v.k v.x v.y v.c0 v.l L0 z0 hv.n hv.k]
  exact (hr.opn (mF0 v.n v.k v.y)).ok.commit hb
theorem g5 (hI : ItoaSaid) (h : Sx w0 w eb ef s (N4 v L0 L1 z0 z1) P) (hw : Whl (N4 v L0 L1 z0 z1)) (hv : v.Ok) (ga cp : Nat) (ha : AcsAt w ga [⟨2, 1, v.x, 0⟩]) (hg : P ga) :
    Calls Tryz.prog 23 #[.pointer (some ⟨s, 0, none⟩), I 1, .slice (some ⟨ga, 0, none⟩) 1 cp] w fun e w' => e = .returned (.bool true) ∧ ∃ L z, Whl (N5 v L0 L z0 z) ∧ Sy w0 w eb ef s (N5 v L0 L z0 z) P w' := by
  have hr0 : Rest (mX 0 2 1 2 v.c0 [] [(⟨0, 2, 1⟩, v.y)] v.l L0 z0) := hw.at (i := 0) rfl
  have hr : Rest (mX 1 1 1 1 v.c1 [(⟨0, 1, v.n + 2⟩, v.x)] (mQ' v.n v.k v.x v.y) v.l L1 z1) := hw.at (i := 1) rfl
  have hb := isM4 hv.x0 hv.x1
  have hc := x_writesAll hI h 1 _ _ [⟨2, 1, v.x, 0⟩] ga cp rfl (hr.up0 rfl rfl) rfl (puts4 hr hv.x0 hv.x1) (hr.up (mF1 v.x) (of_decide_eq_true rfl) (fun e he => by
    simp only [mF1, List.mem_cons, List.not_mem_nil, or_false] at he
    have := hv.x0; have := hv.x1
    subst he
    exact ⟨of_decide_eq_true rfl, of_decide_eq_true rfl, by show -1000 ≤ v.x; omega, by show v.x ≤ 1000; omega, of_decide_eq_true rfl⟩)) rfl (by unfold mF1; simp) hb (of_decide_eq_true rfl) ha hg (of_decide_eq_true rfl)
  refine hc.mono ?_
  rintro e w' ⟨he, hs⟩
  rw [mG1_eq _ _ _ _ _ _ _ _ hv.n hv.k] at hs
  refine ⟨he, _, _, Whl.two hr0 ⟨?_, of_decide_eq_true rfl, of_decide_eq_true rfl⟩, hs⟩
  rw [← mG1_eq v.n v.k v.x v.y v.c1 v.l L1 z1 hv.n hv.k]
  exact (hr.opn (mF1 v.x)).ok.commit hb
theorem g6 (hI : ItoaSaid) (hgd : Gd w0) (h : Sx w0 w eb ef s (N5 v L0 L1 z0 z1) P) (hw : Whl (N5 v L0 L1 z0 z1)) (hv : v.Ok) :
    Calls Tryz.prog 24 #[.pointer (some ⟨s, 0, none⟩)] w fun e w' => e = .returned (.tuple #[]) ∧ ∃ L L', Whl (N6 v L L' z0 z1) ∧ Sy w0 w eb ef s (N6 v L L' z0 z1) P w' := by
  have hr0 : Rest (mX 0 2 1 2 v.c0 [] [(⟨0, 2, 1⟩, v.y)] v.l L0 z0) := hw.at (i := 0) rfl
  have hr1 : Rest (mX 1 1 2 2 v.c1 [(⟨0, 1, v.n + 2⟩, v.x), (⟨1, 2, 0⟩, v.x)] (mQ' v.n v.k v.x v.y) v.l L1 z1) := hw.at (i := 1) rfl
  have e1 := mH1_eq v.n v.k v.x v.y v.c1 v.l L1 z1 hv.n hv.k (dec3 hv)
  have e0 := mH0_eq v.x v.y v.c0 v.l L0 z0 (dec4 hv)
  have t1 : TFrame w0 eb ef (mX 1 1 2 2 v.c1 [(⟨0, 1, v.n + 2⟩, v.x), (⟨1, 2, 0⟩, v.x)] (mQ' v.n v.k v.x v.y) v.l L1 z1) (q3 v) (mX 1 2 2 2 v.c1 [(⟨1, 2, 0⟩, v.x)] [(⟨0, 2, 1⟩, v.y)] v.l (L1 ++ q3 v) z1) := by
    have := tframe_new (w0 := w0) (eb := eb) (ef := ef) hI hgd hr1.ok (dec3 hv) rfl (of_decide_eq_true rfl)
    rw [show frameR _ (q3 v) = _ from e1] at this
    exact this
  have t0 : TFrame w0 eb ef (mX 0 2 1 2 v.c0 [] [(⟨0, 2, 1⟩, v.y)] v.l L0 z0) (q4 v) (mX 0 2 2 2 v.c0 [(⟨1, 2, 0⟩, v.x)] [(⟨0, 2, 1⟩, v.y)] v.l (L0 ++ q4 v) z0) := by
    have := tframe_new (w0 := w0) (eb := eb) (ef := ef) hI hgd hr0.ok (dec4 hv) rfl (of_decide_eq_true rfl)
    rw [show frameR _ (q4 v) = _ from e0] at this
    exact this
  refine (delivered_any w0 w eb ef s _ (N6 v (L0 ++ q4 v) (L1 ++ q3 v) z0 z1) P h (.inr ⟨0, 1, _, false, _, _, rfl, rfl, of_decide_eq_true rfl, t1, .inr ⟨1, 0, _, false, _, _, rfl, rfl, of_decide_eq_true rfl, t0, ?_⟩⟩)).mono ?_
  · exact Dels.idle w0 eb ef (N6 v (L0 ++ q4 v) (L1 ++ q3 v) z0 z1) rfl 38
  · rintro e w' ⟨he, hs⟩
    refine ⟨he, _, _, Whl.two ⟨?_, of_decide_eq_true rfl, of_decide_eq_true rfl⟩ ⟨?_, of_decide_eq_true rfl, of_decide_eq_true rfl⟩, hs⟩
    · have := hr0.ok.frame (q4 v)
      rw [show frameR _ (q4 v) = _ from e0] at this
      exact this
    · have := hr1.ok.frame (q3 v)
      rw [show frameR _ (q3 v) = _ from e1] at this
      exact this
theorem g7 (hI : ItoaSaid) (h : Sx w0 w eb ef s (N6 v L0 L1 z0 z1) P) (hw : Whl (N6 v L0 L1 z0 z1)) (hv : v.Ok) (ga cp : Nat) (ha : AcsAt w ga [⟨3, 1, v.x, 0⟩]) (hg : P ga) :
    Calls Tryz.prog 23 #[.pointer (some ⟨s, 0, none⟩), I 1, .slice (some ⟨ga, 0, none⟩) 1 cp] w fun e w' => e = .returned (.bool true) ∧ ∃ L z, Whl (N7 v L0 L z0 z) ∧ Sy w0 w eb ef s (N7 v L0 L z0 z) P w' := by
  have hr0 : Rest (mX 0 2 2 2 v.c0 [(⟨1, 2, 0⟩, v.x)] [(⟨0, 2, 1⟩, v.y)] v.l L0 z0) := hw.at (i := 0) rfl
  have hr : Rest (mX 1 2 2 2 v.c1 [(⟨1, 2, 0⟩, v.x)] [(⟨0, 2, 1⟩, v.y)] v.l L1 z1) := hw.at (i := 1) rfl
  have hc := x_writesAll hI h 1 _ _ [⟨3, 1, v.x, 0⟩] ga cp rfl (hr.up0 rfl rfl) rfl (puts5 hr hv.x0 hv.x1) (hr.up mF2 (of_decide_eq_true rfl) (fun e he => by
    simp only [mF2, List.mem_cons, List.not_mem_nil, or_false] at he
    subst he
    exact ⟨of_decide_eq_true rfl, of_decide_eq_true rfl, of_decide_eq_true rfl, of_decide_eq_true rfl, of_decide_eq_true rfl⟩)) rfl (by unfold mF2; simp) isM5 (of_decide_eq_true rfl) ha hg (of_decide_eq_true rfl)
  refine hc.mono ?_
  rintro e w' ⟨he, hs⟩
  rw [mI1_eq] at hs
  refine ⟨he, _, _, Whl.two hr0 ⟨?_, of_decide_eq_true rfl, of_decide_eq_true rfl⟩, hs⟩
  rw [← mI1_eq v.x v.y v.c1 v.l L1 z1]
  exact (hr.opn mF2).ok.commit isM5
theorem g8 (hI : ItoaSaid) (hgd : Gd w0) (h : Sx w0 w eb ef s (N7 v L0 L1 z0 z1) P) (hw : Whl (N7 v L0 L1 z0 z1)) :
    Calls Tryz.prog 24 #[.pointer (some ⟨s, 0, none⟩)] w fun e w' => e = .returned (.tuple #[]) ∧ ∃ L, Whl (N8 v L L1 z0 z1) ∧ Sy w0 w eb ef s (N8 v L L1 z0 z1) P w' := by
  have hr0 : Rest (mX 0 2 2 2 v.c0 [(⟨1, 2, 0⟩, v.x)] [(⟨0, 2, 1⟩, v.y)] v.l L0 z0) := hw.at (i := 0) rfl
  have hr1 : Rest (mX 1 2 3 3 v.c1 [] [(⟨0, 2, 1⟩, v.y)] v.l L1 z1) := hw.at (i := 1) rfl
  have e0 := mI0_eq v.x v.y v.c0 v.l L0 z0 dec5
  have t0 : TFrame w0 eb ef (mX 0 2 2 2 v.c0 [(⟨1, 2, 0⟩, v.x)] [(⟨0, 2, 1⟩, v.y)] v.l L0 z0) q5 (mX 0 2 3 3 v.c0 [] [(⟨0, 2, 1⟩, v.y)] v.l (L0 ++ q5) z0) := by
    have := tframe_new (w0 := w0) (eb := eb) (ef := ef) hI hgd hr0.ok dec5 rfl (of_decide_eq_true rfl)
    rw [show frameR _ q5 = _ from e0] at this
    exact this
  refine (delivered_any w0 w eb ef s _ (N8 v (L0 ++ q5) L1 z0 z1) P h (.inr ⟨1, 0, _, false, _, _, rfl, rfl, of_decide_eq_true rfl, t0, ?_⟩)).mono ?_
  · exact Dels.idle w0 eb ef (N8 v (L0 ++ q5) L1 z0 z1) rfl 39
  · rintro e w' ⟨he, hs⟩
    refine ⟨he, _, Whl.two ⟨?_, of_decide_eq_true rfl, of_decide_eq_true rfl⟩ hr1, hs⟩
    have := hr0.ok.frame q5
    rw [show frameR _ q5 = _ from e0] at this
    exact this
end

end Go.Proofs.YtfmcngncaffloaaGreatDoor
