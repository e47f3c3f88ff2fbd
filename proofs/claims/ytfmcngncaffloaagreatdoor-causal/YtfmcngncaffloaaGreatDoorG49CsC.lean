import Derived.Test.YtfmcngncaffloaaGreatDoorG47StH
import Derived.Test.YtfmcngncaffloaaGreatDoorBkF
import Derived.BigQuiet
import Derived.Deep.RegionHeldLaw
namespace Go.Proofs.YtfmcngncaffloaaGreatDoor
open Go.RowKit
set_option maxRecDepth 100000

theorem at_ints {w : World} {a : Option Addr} {xs : List Int} (h : At w a (xs.map I)) {k : Nat} (hk : k < xs.length) : ∃ b o, a = some ⟨b, o, none⟩ ∧ w.cell? ⟨b, o + k, none⟩ = some (I xs[k]) :=
  h k (I xs[k]) (by simp [hk])
set_option maxHeartbeats 800000 in
theorem equal_any (xs ys : List Int) (a b : Option Addr) (ca cb : Nat) (w : World) (ha : At w a (xs.map I)) (hb : At w b (ys.map I)) (hl : xs.length ≤ 1048576) :
    Calls Tryz.prog 32 #[.slice a xs.length ca, .slice b ys.length cb] w fun e w' => e = .returned (.bool (decide (xs = ys))) ∧ Below w.heap.size w w' := by
  have HA : Hid (At w a (xs.map I)) := ha
  have HB : Hid (At w b (ys.map I)) := hb
  clear ha hb
  obtain ⟨bq, HQ⟩ : ∃ bq, Hid (decide (xs = ys) = bq) := ⟨_, rfl⟩
  rw [HQ.out]
  go_enter Tryz.func32, Tryz.ntmps32
  by_cases hne : xs.length = ys.length
  · have hni : (xs.length : Int) = (ys.length : Int) := by omega
    have HNE : Hid (xs.length = ys.length) := hne
    have hb1 : ((xs.length : Int) != (ys.length : Int)) = false := by simp [hne]
    have hb2 : ((xs.length : Int) == (ys.length : Int)) = true := by simp [hne]
    clear hne hni
    go_wp2_with fail
    go_loopw [5] (fun x wX => ∃ k : Nat, k ≤ xs.length ∧ x = I k ∧ Hid (Below w.heap.size w wX) ∧ Hid (xs.take k = ys.take k)) (fun x _ => xs.length - (intOf x).toNat)
    case atStart => exact ⟨0, Nat.zero_le _, rfl, Below.refl _ _, (rfl : xs.take 0 = ys.take 0)⟩
    case round =>
      obtain ⟨k, hk, rfl, HW, HT⟩ := hrel
      by_cases hlt : k < xs.length
      · have hltb : k < ys.length := by have := HNE.out; omega
        have HAr : Hid (At wr a (xs.map I)) := HA.out.kept HW.out
        have HBr : Hid (At wr b (ys.map I)) := HB.out.kept HW.out
        obtain ⟨ga, oa, rfl, ea⟩ := at_ints HAr.out hlt
        obtain ⟨gb, ob, rfl, eb⟩ := at_ints HBr.out hltb
        have hki : (k : Int) < xs.length := by omega
        have hkj : (k : Int) < ys.length := by omega
        have HE1 : Hid (xs[k] = ys[k] → xs.take (k + 1) = ys.take (k + 1)) := fun e => by rw [List.take_succ_eq_append_getElem hlt, List.take_succ_eq_append_getElem hltb, HT.out, e]
        have HE2 : Hid (¬ xs[k] = ys[k] → false = bq) := fun e => by
          rw [← HQ.out]
          refine (decide_eq_false (fun h => e ?_)).symm
          subst h
          rfl
        clear HT HAr HBr
        obtain ⟨xk, HXK⟩ : ∃ z, Hid (xs[k] = z) := by exact ⟨xs[k], rfl⟩
        obtain ⟨yk, HYK⟩ : ∃ z, Hid (ys[k] = z) := by exact ⟨ys[k], rfl⟩
        rw [HXK.out] at ea HE1 HE2
        rw [HYK.out] at eb HE1 HE2
        by_cases he : xk = yk
        · have HN := HE1.out he
          have HN : Hid (xs.take (k + 1) = ys.take (k + 1)) := HN
          have hq1 : (xk != yk) = false := by simp [he]
          have hq2 : (xk == yk) = true := by simp [he]
          clear he HE1 HE2
          go_wp2_with fail
          go_quiet (fail)
          have HW2 : Hid (Below w.heap.size w (wr.drewN nq)) := belowN HW.out nq
          go_wp2_with fail
          go_roundw
          case rel => exact ⟨k + 1, hlt, by go_num, HW2, HN⟩
          case measure => simp [intOf]; omega
        · have HN : Hid (false = bq) := HE2.out he
          have hq1 : (xk != yk) = true := by simp [he]
          have hq2 : (xk == yk) = false := by simp [he]
          clear HE1 HE2
          go_wp2_with fail
          go_quiet (fail)
          have HW2 : Hid (Below w.heap.size w (wr.drewN nq)) := belowN HW.out nq
          go_wp2
          go_ret
          exact ⟨by rw [← HN.out]; rfl, HW2.out⟩
      · have hki : ¬ (k : Int) < xs.length := by omega
        have HN : Hid (true = bq) := by
          rw [← HQ.out]
          refine (decide_eq_true ?_).symm
          have h1 := HT.out
          have h2 := HNE.out
          rw [List.take_of_length_le (by omega), List.take_of_length_le (by omega)] at h1
          exact h1
        go_wp2
        go_ret
        exact ⟨by rw [← HN.out]; rfl, HW.out⟩
  · have HN : Hid (false = bq) := by
      rw [← HQ.out]
      exact (decide_eq_false (fun h => hne (by rw [h]))).symm
    have hb1 : ((xs.length : Int) != (ys.length : Int)) = true := by simp; omega
    have hb2 : ((xs.length : Int) == (ys.length : Int)) = false := by simp; omega
    clear hne
    go_wp2
    go_ret
    exact ⟨by rw [← HN.out]; rfl, Below.refl _ _⟩

end Go.Proofs.YtfmcngncaffloaaGreatDoor

namespace Go.Proofs.YtfmcngncaffloaaGreatDoor
open Go.RowKit
set_option maxRecDepth 100000

/-- An operation that is asked for. -/
structure Ac where
  op : Int
  ob : Nat
  x : Int
  y : Int
def AcsAt (w : World) (ga : Nat) (acs : List Ac) : Prop := ∀ i (h : i < acs.length), w.cell? ⟨ga, i * 5, none⟩ = some (I acs[i].op) ∧ w.cell? ⟨ga, i * 5 + 1, none⟩ = some (I acs[i].ob) ∧ w.cell? ⟨ga, i * 5 + 2, none⟩ = some (I acs[i].x) ∧ w.cell? ⟨ga, i * 5 + 3, none⟩ = some (I acs[i].y)
theorem AcsAt.tch {F : Nat → Prop} {w w' : World} {ga : Nat} {acs : List Ac} (h : AcsAt w ga acs) (hT : Tch F w w') (hn : ¬ F ga) : AcsAt w' ga acs := fun i hi => ⟨hT.cell (h i hi).1 hn, hT.cell (h i hi).2.1 hn, hT.cell (h i hi).2.2.1 hn, hT.cell (h i hi).2.2.2 hn⟩
/-- It is let in. -/
structure DoCan (R : Rp) (a : Ac) (o : Ob) : Prop where
  up : Rup R
  st : R.st = 1
  op : 1 ≤ a.op ∧ a.op ≤ 6
  n5 : R.effs.length < 5
  ls : ¬ (0 : Int) < Wv.rLeastD a.op
  ms : ¬ (0 : Int) > Wv.rMostD a.op
  kd : (a.ob : Int) % 4 = Wv.rKind a.op
  pl : o.plain
  er : ((seeTo (pendB R) a.ob o R.effs.length).says a.op a.x a.y).2.2 = 0
  at_ : R.obs[a.ob]? = some o
/-- They are let in, one behind the other. -/
def Dos : Rp → List Ac → Rp → Prop
  | R, [], R' => R' = R
  | R, a :: acs, R' => ∃ o, DoCan R a o ∧ Dos (doR R a.op a.ob a.x a.y o) acs R'
theorem StOk.acs {w0 w w' : World} {own : Clr} {s ga : Nat} {S : Sto} {eb ef : Addr} {acs : List Ac} (h : StOk w0 w own s S eb ef w') (ha : AcsAt w ga acs) (h0 : own ga = 0) : AcsAt w' ga acs := by
  obtain ⟨_, _, _, _, _, _, _, _, _, _, hT⟩ := h
  exact ha.tch hT (by rw [h0]; omega)
set_option maxHeartbeats 3200000 in
theorem writes_yes (own : Clr) (s rg cc pp ch : Nat) (pv : Value) (prs : List Nat) (S : Sto) (r : Nat) (R R' : Rp) (acs : List Ac) (ga cp : Nat) (w w0 : World) (eb ef : Addr) (hI : ItoaSaid) (hen : Env w0 w own eb ef) (h : StIn w own s rg cc pp ch pv prs S) (hR : S.reps[r]? = some R) (hup : Rup R) (hbg : beginR R = ({ R with st := 1 }, 0)) (hds : Dos { R with st := 1 } acs R') (hup' : Rup R') (h1 : R'.st = 1) (he : R'.effs ≠ []) (hisb : Wv.isB (pendB R') = true) (hroom : S.msgs.length + S.reps.length ≤ 40) (ha : AcsAt w ga acs) (hg0 : own ga = 0) (hal : acs.length ≤ 1000) :
    Calls Tryz.prog 23 #[.pointer (some ⟨s, 0, none⟩), I r, .slice (some ⟨ga, 0, none⟩) acs.length cp] w fun e w' => e = .returned (.bool true) ∧ StOk w0 w own s ⟨S.reps.set r (commitS R'), S.msgs ++ sprd r (Wv.frameB (pendB R')) S.reps.length⟩ eb ef w' := by
  have HB : Hid (Calls Tryz.prog 16 #[.pointer (some ⟨s, 0, none⟩), I r] w fun e w' => e = .returned (I 0) ∧ StOk w0 w own s { S with reps := S.reps.set r { R with st := 1 } } eb ef w') := by
    have := wbegin_any own s rg cc pp ch pv prs S r R w w0 eb ef hen h hR hup
    rw [hbg] at this
    exact this
  have HRL : Hid (r < S.reps.length) := (List.getElem?_eq_some_iff.1 hR).1
  have HDS : Hid (Dos { R with st := 1 } acs R') := hds
  have HUP : Hid (Rup R') := hup'
  have HST : Hid (R'.st = 1) := h1
  have HEF : Hid (R'.effs ≠ []) := he
  have HIS : Hid (Wv.isB (pendB R') = true) := hisb
  have HRM : Hid (S.msgs.length + S.reps.length ≤ 40) := hroom
  have HAC : Hid (AcsAt w ga acs) := ha
  have HG0 : Hid (own ga = 0) := hg0
  clear h hen hR hup hbg hds hup' h1 he hisb hroom ha hg0
  go_enter Tryz.func23, Tryz.ntmps23
  go_wp2_with fail
  refine HB.out.mono ?_
  rintro e w1 ⟨rfl, hs1⟩
  have HS1 : Hid (StOk w0 w own s { S with reps := S.reps.set r { R with st := 1 } } eb ef w1) := hs1
  clear hs1 HB
  go_wp2_with fail
  go_loopw [8] (fun x wX => ∃ (k : Nat) (Rk : Rp), k ≤ acs.length ∧ x = I k ∧ Hid (Dos Rk (acs.drop k) R') ∧ Hid (StOk w0 w own s { S with reps := S.reps.set r Rk } eb ef wX)) (fun x _ => acs.length - (intOf x).toNat)
  case atStart => exact ⟨0, _, Nat.zero_le _, rfl, HDS, HS1⟩
  case round =>
    obtain ⟨k, Rk, hk, rfl, HD, HS⟩ := hrel
    clear HS1 HDS
    obtain ⟨own', rg', cc', pp', ch', pv', prs', hE, hS, hen', hT⟩ := HS.out
    have HS' : Hid (StIn wr own' s rg' cc' pp' ch' pv' prs' { S with reps := S.reps.set r Rk }) := hS
    have HEN' : Hid (Env w0 wr own' eb ef) := hen'
    have HE' : Hid (Ext own own' w.heap.size) := hE
    have HT' : Hid (Tch (fun k => 1 ≤ own k ∧ own k ≤ 100) w wr) := hT
    have HRk : Hid ((S.reps.set r Rk)[r]? = some Rk) := by show _ = _; rw [List.getElem?_set_self HRL.out]
    clear hE hS hen' hT HS
    by_cases hlt : k < acs.length
    · have hki : (k : Int) < acs.length := by omega
      have HD2 : Hid (∃ o, DoCan Rk acs[k] o ∧ Dos (doR Rk acs[k].op acs[k].ob acs[k].x acs[k].y o) (acs.drop (k + 1)) R') := by
        have := HD.out
        rw [List.drop_eq_getElem_cons hlt] at this
        exact this
      obtain ⟨e0, e1, e2, e3⟩ := (HAC.out.tch HT'.out (by rw [HG0.out]; omega)) k hlt
      have y0 : wr.drew.cell? ⟨ga, k * 5, none⟩ = some (I acs[k].op) := e0
      have y1 : wr.drew.cell? ⟨ga, k * 5 + 1, none⟩ = some (I acs[k].ob) := e1
      have y2 : wr.drew.cell? ⟨ga, k * 5 + 2, none⟩ = some (I acs[k].x) := e2
      have y3 : wr.drew.cell? ⟨ga, k * 5 + 3, none⟩ = some (I acs[k].y) := e3
      have HCL : Hid (∀ w', AcsAt w' ga acs → w'.cell? ⟨ga, k * 5, none⟩ = some (I acs[k].op) ∧ w'.cell? ⟨ga, k * 5 + 1, none⟩ = some (I acs[k].ob) ∧ w'.cell? ⟨ga, k * 5 + 2, none⟩ = some (I acs[k].x) ∧ w'.cell? ⟨ga, k * 5 + 3, none⟩ = some (I acs[k].y)) := fun w' h => h k hlt
      clear e0 e1 e2 e3 HD
      generalize acs[k] = a at *
      obtain ⟨o, hcan, hnext⟩ := HD2.out
      have HCAN : Hid (DoCan Rk a o) := hcan
      have HNX : Hid (Dos (doR Rk a.op a.ob a.x a.y o) (acs.drop (k + 1)) R') := hnext
      clear hcan hnext HD2
      have HSD : Hid (StIn wr.drew own' s rg' cc' pp' ch' pv' prs' { S with reps := S.reps.set r Rk }) := by
        have h := HS'.out
        exact ⟨h.blk, h.row, h.len, h.most, h.least, h.own1, h.own2, fun r h1 h2 => (h.reps r h1 h2).keep (fun _ _ _ => rfl) (fun _ _ _ _ _ _ => rfl) (Ext.refl _ _), h.post.keep (fun _ _ _ => rfl) (Ext.refl _ _)⟩
      have HED : Hid (Env w0 wr.drew own' eb ef) := HEN'.out.tch (F := fun _ => False) ((Tch.refl _ _).drew) (fun _ _ h => h) (Ext.refl _ _)
      have HTD : Hid (Tch (fun k => 1 ≤ own k ∧ own k ≤ 100) w wr.drew) := HT'.out.drew
      go_wp2_with fail
      go_region_held_law (fun w' => w'.cell? ⟨ga, k * 5, none⟩ = some (I a.op) ∧ w'.cell? ⟨ga, k * 5 + 1, none⟩ = some (I a.ob) ∧ w'.cell? ⟨ga, k * 5 + 2, none⟩ = some (I a.x) ∧ w'.cell? ⟨ga, k * 5 + 3, none⟩ = some (I a.y)) (exact ⟨by with_reducible assumption, by with_reducible assumption, by with_reducible assumption, by with_reducible assumption⟩)
        (first
        | (go_at_call 18; refine (wdo_add own' s rg' cc' pp' ch' pv' prs' { S with reps := S.reps.set r Rk } r Rk a.op a.x a.y a.ob o _ w0 eb ef HED.out HSD.out HRk.out HCAN.out.up HCAN.out.st HCAN.out.op HCAN.out.n5 HCAN.out.ls HCAN.out.ms HCAN.out.kd HCAN.out.pl HCAN.out.er HCAN.out.at_).mono ?_; rintro e w3 ⟨rfl, h3⟩; have HN : Hid (StOk w0 w own s { S with reps := S.reps.set r (doR Rk a.op a.ob a.x a.y o) } eb ef w3) := (by have h4 := StOk.from HE'.out HTD.out h3; rw [List.set_set] at h4; exact h4); clear h3; obtain ⟨q0, q1, q2, q3⟩ := HCL.out w3 (HN.out.acs HAC.out HG0.out)))
      clear y0 y1 y2 y3 q0 q1 q2 q3 HSD HED HTD HS' HEN' HT' HE' HCAN HCL HRk
      go_wp2_with fail
      go_roundw
      case rel => exact ⟨k + 1, _, hlt, by go_num, HNX, HN⟩
      case measure => simp [intOf]; omega
    · have hki : ¬ (k : Int) < acs.length := by omega
      have HRE : Hid (R' = Rk) := by
        have := HD.out
        rw [List.drop_of_length_le (by omega)] at this
        exact this
      have hRE : Rk = R' := HRE.out.symm
      subst hRE
      have HC : Hid (Calls Tryz.prog 21 #[.pointer (some ⟨s, 0, none⟩), I r] wr fun e w' => e = .returned (.tuple #[I (pendB Rk).s, I 0]) ∧ StOk w0 wr own' s ⟨(S.reps.set r Rk).set r (commitS Rk), S.msgs ++ sprd r (Wv.frameB (pendB Rk)) (S.reps.set r Rk).length⟩ eb ef w') := wcommit_some own' s rg' cc' pp' ch' pv' prs' { S with reps := S.reps.set r Rk } r Rk wr w0 eb ef hI HEN'.out HS'.out HRk.out HUP.out HST.out HEF.out HIS.out (by show S.msgs.length + (S.reps.set r Rk).length ≤ 40; rw [List.length_set]; exact HRM.out)
      rw [List.set_set, List.length_set] at HC
      clear HD HRE
      go_wp2_with fail
      refine HC.out.mono ?_
      rintro e w3 ⟨rfl, h3⟩
      have HE : Hid (StOk w0 w own s ⟨S.reps.set r (commitS Rk), S.msgs ++ sprd r (Wv.frameB (pendB Rk)) S.reps.length⟩ eb ef w3) := StOk.from HE'.out HT'.out h3
      clear h3
      go_wp2
      go_ret
      exact ⟨rfl, HE.out⟩

end Go.Proofs.YtfmcngncaffloaaGreatDoor

namespace Go.Proofs.YtfmcngncaffloaaGreatDoor
open Go.RowKit
set_option maxRecDepth 100000

/-! What stays so of a replica. -/
theorem Rok.same {R R' : Rp} (h : Rok R) (e1 : R'.obs = R.obs) (e2 : R'.clock = R.clock) (e3 : R'.log = R.log) (e4 : R'.held = R.held) (e5 : R'.time = R.time) : Rok R' :=
  ⟨by rw [e1]; exact h.obs8, by rw [e1, e2]; exact h.bd, by rw [e2, e3]; exact h.logl, by rw [e2]; exact h.len, by rw [e2]; exact h.clk, by rw [e4]; exact h.held, by rw [e4]; exact h.most, by rw [e5]; exact h.time0, by rw [e5]; exact h.time1⟩
theorem due_pend {R : Rp} : dueB R.clock (pendB R) = true := by
  rw [due_yes R.clock (pendB R) rfl (fun j _ => Int.le_refl _)]
  simp [pendB]
theorem Rok.commit {R : Rp} (h : Rok R) (hb : Wv.isB (pendB R) = true) : Rok (commitS R) := by
  have hE : Rok (endR R) := h.same rfl rfl rfl rfl rfl
  have hl := takeP_len earlierB (likeB (pendB R)) R.held
  have hm := fun m => mem_takeP earlierB (likeB (pendB R)) R.held m
  have hD : Rok (deliverR (endR R) (pendB R) (Wv.frameB (pendB R)) (takeP earlierB (likeB (pendB R)) R.held).2) := hE.deliver hb (frameB_short hb) due_pend (fun x hx => h.held x (hm x (Or.inr hx))) (by have := h.most; omega)
  exact hD.same rfl rfl rfl rfl rfl
theorem Rok.frame {R : Rp} (h : Rok R) (l : List UInt8) : Rok (frameR R l) := by
  unfold frameR
  split
  · exact h
  · rename_i b hd
    obtain ⟨hb, hlen⟩ := dec_isB hd
    split
    · exact h
    · split
      · rename_i hdue
        have hl := takeP_len earlierB (likeB b) R.held
        have hm := fun m => mem_takeP earlierB (likeB b) R.held m
        exact Rok.heldR _ _ (h.deliver hb (by omega) hdue (fun x hx => h.held x (hm x (Or.inr hx))) (by have := h.most; omega))
      · split
        · rename_i hq
          refine h.heldTo (fun x hx => ?_) ?_
          · rcases mem_pushP _ _ _ x hx with hx | hx
            · exact h.held x hx
            · rw [hx]; exact hb
          · have : (pushP earlierB R.held b).length = R.held.length + 1 := by
              unfold pushP
              rw [riseP_len]
              simp
            rw [this]
            omega
        · exact h
theorem Rok.new (i n : Nat) (hn : n ≤ 4) : Rok (newR i n) := by
  refine ⟨rfl, fun o ho => ?_, by simp [newR], by simp [newR]; exact hn, fun z hz => ?_, fun b hb => (by simp [newR] at hb), by simp [newR], by simp [newR], by simp [newR]⟩
  · simp only [newR, List.mem_cons, List.not_mem_nil, or_false] at ho
    rcases ho with rfl | rfl | rfl | rfl | rfl | rfl | rfl | rfl
    · exact ⟨by omega, by omega⟩
    · trivial
    · trivial
    · exact Nat.zero_le _
    · exact ⟨by omega, by omega⟩
    · trivial
    · trivial
    · exact Nat.zero_le _
  · simp only [newR] at hz
    have := List.eq_of_mem_replicate hz
    omega

/-! The states that the law comes through. -/
def ce0 (x : Int) : Wv.Ef := ⟨5, 3, x, ⟨0, 0, 0⟩, []⟩
def ce1 (y : Int) : Wv.Ef := ⟨5, 3, y, ⟨0, 1, 0⟩, []⟩
def ce2 : Wv.Ef := ⟨1, 0, 3, ⟨0, 0, 0⟩, []⟩
def cb0 (x : Int) : Wv.Bt := ⟨0, 1, 1, [0, 0, 0], [ce0 x]⟩
def cb1 (y : Int) : Wv.Bt := ⟨1, 1, 2, [1, 0, 0], [ce1 y, ce2]⟩
def cl0 (x : Int) : List El := [⟨⟨⟨0, 1, 0⟩, 1⟩, x, false⟩]
def cl1 (x y : Int) : List El := [⟨⟨⟨0, 1, 0⟩, 1⟩, x, false⟩, ⟨⟨⟨1, 1, 0⟩, 2⟩, y, false⟩]
def cob (n : Int) (ls : List El) : List Ob := [.counter n, .set [], .reg [], .list ls, .counter 0, .set [], .reg [], .list []]
/-- Replica 0 with its operation. -/
def cA0 (x : Int) : Rp := ⟨0, 1, [0, 0, 0], 0, cob 0 [], [], 0, [], [ce0 x]⟩
def cA1 (x : Int) : Rp := ⟨0, 0, [1, 0, 0], 1, cob 0 (cl0 x), Wv.frameB (cb0 x), (Wv.frameB (cb0 x)).length, [], []⟩
/-- Replica 1 behind the first batch. -/
def cB1 (x : Int) : Rp := ⟨1, 0, [1, 0, 0], 1, cob 0 (cl0 x), Wv.frameB (cb0 x), 0, [], []⟩
def cB2 (x y : Int) : Rp := ⟨1, 1, [1, 0, 0], 1, cob 0 (cl0 x), Wv.frameB (cb0 x), 0, [], [ce1 y, ce2]⟩
/-- Replica 2 with what it holds back; then with both. -/
def cC1 (y : Int) : Rp := ⟨2, 0, [0, 0, 0], 0, cob 0 [], [], 0, [cb1 y], []⟩
def cC2 (x y : Int) : Rp := ⟨2, 0, [1, 1, 0], 2, cob 3 (cl1 x y), Wv.frameB (cb0 x) ++ Wv.frameB (cb1 y), 0, [], []⟩
theorem isB0 (x : Int) (h0 : 0 ≤ x) (h1 : x ≤ 255) : Wv.isB (cb0 x) = true := by
  have e : Wv.isB (cb0 x) = (true && (true && (((((true && true) && (decide (0 ≤ x) && decide (x ≤ 255))) && true) && true) && true))) := rfl
  rw [e, decide_eq_true h0, decide_eq_true h1]
  rfl
theorem isB1 (y : Int) (h0 : 0 ≤ y) (h1 : y ≤ 255) : Wv.isB (cb1 y) = true := by
  have e : Wv.isB (cb1 y) = (true && ((true && (((((true && true) && (decide (0 ≤ y) && decide (y ≤ 255))) && true) && true) && true)) && true)) := rfl
  rw [e, decide_eq_true h0, decide_eq_true h1]
  rfl
theorem cA1_eq (x : Int) : commitS (cA0 x) = cA1 x := by
  rfl
theorem sinkP_nil {α : Type} (less : α → α → Bool) (i : Nat) : sinkP less ([] : List α) i = [] := by
  rw [sinkP]
  simp
theorem riseP_zero {α : Type} (less : α → α → Bool) (l : List α) : riseP less l 0 = l := by
  rw [riseP]
  simp
theorem cB1_eq (x : Int) (hd : Wv.dec (Wv.frameB (cb0 x)) = some (cb0 x)) : frameR (newR 1 3) (Wv.frameB (cb0 x)) = cB1 x := by
  unfold frameR
  rw [hd]
  rfl
theorem cC1_eq (y : Int) (hd : Wv.dec (Wv.frameB (cb1 y)) = some (cb1 y)) : frameR (newR 2 3) (Wv.frameB (cb1 y)) = cC1 y := by
  unfold frameR
  rw [hd]
  show { newR 2 3 with held := pushP earlierB [] (cb1 y) } = cC1 y
  unfold pushP
  simp only [List.nil_append, List.length_nil]
  rw [riseP_zero]
  rfl
theorem cC1_same (y : Int) (hd : Wv.dec (Wv.frameB (cb1 y)) = some (cb1 y)) : frameR (cC1 y) (Wv.frameB (cb1 y)) = cC1 y := by
  unfold frameR
  rw [hd]
  rfl
theorem takeP_nil {α : Type} (less : α → α → Bool) (f : α → Bool) : takeP less f ([] : List α) = (none, []) := rfl
theorem takeP_no {α : Type} (less : α → α → Bool) (f : α → Bool) (b : α) (h : f b = false) : takeP less f [b] = (none, [b]) := by
  have e : popP less [b] = some (b, sinkP less [] 0) := rfl
  unfold takeP
  simp only [List.length_singleton, popAll, e, sinkP_nil, h, Bool.false_eq_true, if_false, List.nil_append]
  show (none, (popAll less f 1 [] [b]).2.2.foldl (pushP less) (popAll less f 1 [] [b]).2.1) = _
  have e2 : popAll less f 1 [] [b] = (none, [], [b]) := rfl
  rw [e2]
  show (none, pushP less [] b) = _
  unfold pushP
  simp only [List.nil_append, List.length_nil]
  rw [riseP_zero]
theorem takeP_yes {α : Type} (less : α → α → Bool) (f : α → Bool) (b : α) (h : f b = true) : takeP less f [b] = (some b, []) := by
  have e : popP less [b] = some (b, sinkP less [] 0) := rfl
  unfold takeP
  simp only [List.length_singleton, popAll, e, sinkP_nil, h, if_true]
  rfl
theorem cC2_eq (x y : Int) (hd : Wv.dec (Wv.frameB (cb0 x)) = some (cb0 x)) : frameR (cC1 y) (Wv.frameB (cb0 x)) = cC2 x y := by
  unfold frameR
  rw [hd]
  show heldR ((takeP earlierB (likeB (cb0 x)) [cb1 y]).2.length + 1) (deliverR (cC1 y) (cb0 x) (Wv.frameB (cb0 x)) (takeP earlierB (likeB (cb0 x)) [cb1 y]).2) = cC2 x y
  rw [takeP_no _ _ _ rfl]
  show heldR 2 (deliverR (cC1 y) (cb0 x) (Wv.frameB (cb0 x)) [cb1 y]) = cC2 x y
  rw [heldR]
  have e : takeP earlierB (dueB (deliverR (cC1 y) (cb0 x) (Wv.frameB (cb0 x)) [cb1 y]).clock) (deliverR (cC1 y) (cb0 x) (Wv.frameB (cb0 x)) [cb1 y]).held = (some (cb1 y), []) := takeP_yes _ _ _ rfl
  rw [e]
  rfl
/-- What the first writes. -/
theorem cDos0 (x : Int) (h0 : 0 ≤ x) (h1 : x ≤ 255) : Dos { newR 0 3 with st := 1 } [⟨5, 3, 0, x⟩] (cA0 x) := by
  have hv : valE x = 0 := by unfold valE; rw [if_neg (by omega)]
  have e : Ob.says (.list []) 5 0 x = (x, ⟨0, 0, 0⟩, 0) := by
    show listE [] 5 0 x = _
    unfold listE
    rw [if_neg (by decide), hv, if_neg (by decide)]
    rfl
  refine ⟨.list [], ⟨⟨(Rok.new 0 3 (by omega)).same rfl rfl rfl rfl rfl, of_decide_eq_true rfl, of_decide_eq_true rfl, of_decide_eq_true rfl, of_decide_eq_true rfl, fun e he => (by cases he)⟩, rfl, of_decide_eq_true rfl, of_decide_eq_true rfl, of_decide_eq_true rfl, of_decide_eq_true rfl, of_decide_eq_true rfl, trivial, ?_, rfl⟩, ?_⟩
  · show (Ob.says (.list []) 5 0 x).2.2 = 0
    rw [e]
  · show cA0 x = doR { newR 0 3 with st := 1 } 5 3 0 x (.list [])
    unfold doR
    show cA0 x = { ({ newR 0 3 with st := 1 } : Rp) with effs := [] ++ [(doM 5 3 (Ob.says (.list []) 5 0 x)).e] }
    rw [e]
    rfl
theorem cDos1 (x y : Int) (h0 : 0 ≤ y) (h1 : y ≤ 255) (hk : Rok (cB1 x)) : Dos { cB1 x with st := 1 } [⟨5, 3, 1, y⟩, ⟨1, 0, 3, 0⟩] (cB2 x y) := by
  have hv : valE y = 0 := by unfold valE; rw [if_neg (by omega)]
  have e : Ob.says (.list (cl0 x)) 5 1 y = (y, ⟨0, 1, 0⟩, 0) := by
    show listE (cl0 x) 5 1 y = _
    unfold listE
    rw [if_neg (by decide), hv, if_neg (by decide)]
    rfl
  have e1 : doR { cB1 x with st := 1 } 5 3 1 y (.list (cl0 x)) = { cB1 x with st := 1, effs := [ce1 y] } := by
    unfold doR
    show { ({ cB1 x with st := 1 } : Rp) with effs := [] ++ [(doM 5 3 (Ob.says (.list (cl0 x)) 5 1 y)).e] } = _
    rw [e]
    rfl
  refine ⟨.list (cl0 x), ⟨⟨hk.same rfl rfl rfl rfl rfl, of_decide_eq_true rfl, of_decide_eq_true rfl, of_decide_eq_true rfl, of_decide_eq_true rfl, fun e he => (by cases he)⟩, rfl, of_decide_eq_true rfl, of_decide_eq_true rfl, of_decide_eq_true rfl, of_decide_eq_true rfl, of_decide_eq_true rfl, trivial, ?_, rfl⟩, ?_⟩
  · show (Ob.says (.list (cl0 x)) 5 1 y).2.2 = 0
    rw [e]
  · show Dos (doR { cB1 x with st := 1 } 5 3 1 y (.list (cl0 x))) [⟨1, 0, 3, 0⟩] (cB2 x y)
    rw [e1]
    refine ⟨.counter 0, ⟨⟨hk.same rfl rfl rfl rfl rfl, of_decide_eq_true rfl, of_decide_eq_true rfl, of_decide_eq_true rfl, of_decide_eq_true rfl, fun e he => ?_⟩, rfl, of_decide_eq_true rfl, of_decide_eq_true rfl, of_decide_eq_true rfl, of_decide_eq_true rfl, of_decide_eq_true rfl, trivial, rfl, rfl⟩, rfl⟩
    have he : e ∈ [ce1 y] := he
    simp only [List.mem_singleton] at he
    subst he
    exact ⟨of_decide_eq_true rfl, of_decide_eq_true rfl, by show -1000 ≤ y; omega, by show y ≤ 1000; omega, of_decide_eq_true rfl⟩

end Go.Proofs.YtfmcngncaffloaaGreatDoor

namespace Go.Proofs.YtfmcngncaffloaaGreatDoor
open Go.RowKit
set_option maxRecDepth 100000

/-- A store in memory, with blocks of the law's own that it doesn't touch. -/
def Sx (w0 w : World) (eb ef : Addr) (s : Nat) (S : Sto) (P : Nat → Prop) : Prop := ∃ own rg cc pp ch pv prs, StIn w own s rg cc pp ch pv prs S ∧ Env w0 w own eb ef ∧ ∀ g, P g → own g = 0 ∧ g < w.heap.size
/-- What a call leaves. -/
def Sy (w0 w : World) (eb ef : Addr) (s : Nat) (S : Sto) (P : Nat → Prop) (w' : World) : Prop := Sx w0 w' eb ef s S P ∧ ∀ g, P g → w'.heap[g]? = w.heap[g]?
theorem StOk.sy {w0 w w' : World} {own : Clr} {s : Nat} {S : Sto} {eb ef : Addr} {P : Nat → Prop} (h : StOk w0 w own s S eb ef w') (hp : ∀ g, P g → own g = 0 ∧ g < w.heap.size) : Sy w0 w eb ef s S P w' := by
  obtain ⟨own', rg, cc, pp, ch, pv, prs, hE, hS, hen, hT⟩ := h
  refine ⟨⟨own', rg, cc, pp, ch, pv, prs, hS, hen, fun g hg => ?_⟩, fun g hg => ?_⟩
  · obtain ⟨h1, h2⟩ := hp g hg
    exact ⟨(hE g h2).trans h1, Nat.lt_of_lt_of_le h2 hT.size⟩
  · obtain ⟨h1, h2⟩ := hp g hg
    exact hT.block g h2 (by rw [h1]; omega)
theorem Sx.below {w0 w w' : World} {s : Nat} {S : Sto} {eb ef : Addr} {P : Nat → Prop} (h : Sx w0 w eb ef s S P) (hb : Below w.heap.size w w') : Sx w0 w' eb ef s S (fun g => P g ∨ (w.heap.size ≤ g ∧ g < w'.heap.size)) := by
  obtain ⟨own, rg, cc, pp, ch, pv, prs, hS, hen, hp⟩ := h
  refine ⟨newTo own w.heap.size 0, rg, cc, pp, ch, pv, prs, hS.below hb, hen.tch (F := fun _ => False) (Tch.below hb) (fun _ _ h => h) (newTo_ext _ _ _), fun g hg => ?_⟩
  rcases hg with hg | hg
  · obtain ⟨h1, h2⟩ := hp g hg
    exact ⟨(newTo_same _ _ _ _ h2).trans h1, Nat.lt_of_lt_of_le h2 hb.size⟩
  · exact ⟨newTo_new _ _ _ _ hg.1, hg.2⟩
theorem Sx.mono {w0 w : World} {s : Nat} {S : Sto} {eb ef : Addr} {P Q : Nat → Prop} (h : Sx w0 w eb ef s S P) (hq : ∀ g, Q g → P g) : Sx w0 w eb ef s S Q := by
  obtain ⟨own, rg, cc, pp, ch, pv, prs, hS, hen, hp⟩ := h
  exact ⟨own, rg, cc, pp, ch, pv, prs, hS, hen, fun g hg => hp g (hq g hg)⟩
theorem Sx.bel {w0 w : World} {s : Nat} {S : Sto} {eb ef : Addr} {P : Nat → Prop} (h : Sx w0 w eb ef s S P) : Below w0.heap.size w0 w := by
  obtain ⟨_, _, _, _, _, _, _, _, hen, _⟩ := h
  exact hen.bel
theorem x_writes {w0 w : World} {eb ef : Addr} {s : Nat} {S : Sto} {P : Nat → Prop} (hI : ItoaSaid) (h : Sx w0 w eb ef s S P) (r : Nat) (R R' : Rp) (acs : List Ac) (ga cp : Nat) (hR : S.reps[r]? = some R) (hup : Rup R) (hbg : beginR R = ({ R with st := 1 }, 0)) (hds : Dos { R with st := 1 } acs R') (hup' : Rup R') (h1 : R'.st = 1) (he : R'.effs ≠ []) (hisb : Wv.isB (pendB R') = true) (hroom : S.msgs.length + S.reps.length ≤ 40) (ha : AcsAt w ga acs) (hg0 : P ga) (hal : acs.length ≤ 1000) :
    Calls Tryz.prog 23 #[.pointer (some ⟨s, 0, none⟩), I r, .slice (some ⟨ga, 0, none⟩) acs.length cp] w fun e w' => e = .returned (.bool true) ∧ Sy w0 w eb ef s ⟨S.reps.set r (commitS R'), S.msgs ++ sprd r (Wv.frameB (pendB R')) S.reps.length⟩ P w' := by
  obtain ⟨own, rg, cc, pp, ch, pv, prs, hS, hen, hp⟩ := h
  exact (writes_yes own s rg cc pp ch pv prs S r R R' acs ga cp w w0 eb ef hI hen hS hR hup hbg hds hup' h1 he hisb hroom ha (hp ga hg0).1 hal).mono (fun e w' hh => ⟨hh.1, hh.2.sy hp⟩)
theorem x_deliver {w0 w : World} {eb ef : Addr} {s : Nat} {S : Sto} {P : Nat → Prop} (h : Sx w0 w eb ef s S P) (i : Nat) (f : Int) (t : Nat) (l : List UInt8) (sp : Bool) (R R' : Rp) (hi : S.msgs[i]? = some ⟨1, f, t, l, sp⟩) (hR : S.reps[t]? = some R) (hst : R.st ≠ 2) (hTF : TFrame w0 eb ef R l R') :
    Calls Tryz.prog 26 #[.pointer (some ⟨s, 0, none⟩), I i] w fun e w' => e = .returned (I 0) ∧ Sy w0 w eb ef s ⟨S.reps.set t R', S.msgs.eraseIdx i⟩ P w' := by
  obtain ⟨own, rg, cc, pp, ch, pv, prs, hS, hen, hp⟩ := h
  exact (wdeliver_frame own s rg cc pp ch pv prs S i f t l sp R R' w w0 eb ef hen hS hi hR hst hTF).mono (fun e w' hh => ⟨hh.1, hh.2.sy hp⟩)
theorem x_twice {w0 w : World} {eb ef : Addr} {s : Nat} {S : Sto} {P : Nat → Prop} (h : Sx w0 w eb ef s S P) (i : Nat) (m : Ms) (hl : S.msgs.length < 40) (hi : S.msgs[i]? = some m) :
    Calls Tryz.prog 28 #[.pointer (some ⟨s, 0, none⟩), I i] w fun e w' => e = .returned (I 0) ∧ Sy w0 w eb ef s { S with msgs := S.msgs ++ [m] } P w' := by
  obtain ⟨own, rg, cc, pp, ch, pv, prs, hS, hen, hp⟩ := h
  exact (wtwice_room own s rg cc pp ch pv prs S i m w w0 eb ef hen hS hl hi).mono (fun e w' hh => ⟨hh.1, hh.2.sy hp⟩)
theorem x_spoil {w0 w : World} {eb ef : Addr} {s : Nat} {S : Sto} {P : Nat → Prop} (h : Sx w0 w eb ef s S P) (i j k : Nat) (m : Ms) (hi : S.msgs[i]? = some m) (hsp : m.sp = false) (hk0 : 1 ≤ k) (hk1 : k ≤ 255) (hj : j < m.bs.length) (hl : m.bs.length ≤ 100000) :
    Calls Tryz.prog 29 #[.pointer (some ⟨s, 0, none⟩), I i, I j, I k] w fun e w' => e = .returned (I 0) ∧ Sy w0 w eb ef s { S with msgs := S.msgs.set i (spoilM m j k) } P w' := by
  obtain ⟨own, rg, cc, pp, ch, pv, prs, hS, hen, hp⟩ := h
  exact (wspoil_yes own s rg cc pp ch pv prs S i j k m w w0 eb ef hen hS hi hsp hk0 hk1 hj hl).mono (fun e w' hh => ⟨hh.1, hh.2.sy hp⟩)
theorem x_msgs {w0 w : World} {eb ef : Addr} {s : Nat} {S : Sto} {P : Nat → Prop} (h : Sx w0 w eb ef s S P) :
    Calls Tryz.prog 27 #[.pointer (some ⟨s, 0, none⟩)] w fun e w' => ∃ v, e = .returned (.tuple #[v, I 0]) ∧ w'.ownsRow w.heap.size 59 4 v S.msgs.length (flat mgCells S.msgs) ∧ Below w.heap.size w w' := by
  obtain ⟨own, rg, cc, pp, ch, pv, prs, hS, hen, hp⟩ := h
  exact wmsgs_any own s rg cc pp ch pv prs S w hS
theorem x_read {w0 w : World} {eb ef : Addr} {s : Nat} {S : Sto} {P : Nat → Prop} (h : Sx w0 w eb ef s S P) (r k : Nat) (R : Rp) (o : Ob) (hR : S.reps[r]? = some R) (hup : Rup R) (hpl : o.plain) (hk : R.obs[k]? = some o) :
    Calls Tryz.prog 31 #[.pointer (some ⟨s, 0, none⟩), I r, I k] w fun e w' => ReadOk w (seeTo (pendB R) k o R.effs.length).vals e w' := by
  obtain ⟨own, rg, cc, pp, ch, pv, prs, hS, hen, hp⟩ := h
  exact wread_yes own s rg cc pp ch pv prs S r R k o w hS hR hup hpl hk
theorem x_held {w0 w : World} {eb ef : Addr} {s : Nat} {S : Sto} {P : Nat → Prop} (h : Sx w0 w eb ef s S P) (r : Nat) (R : Rp) (hR : S.reps[r]? = some R) :
    Calls Tryz.prog 30 #[.pointer (some ⟨s, 0, none⟩), I r] w fun e w' => e = .returned (.tuple #[I R.held.length, I 0]) ∧ w' = w := by
  obtain ⟨own, rg, cc, pp, ch, pv, prs, hS, hen, hp⟩ := h
  exact wheld_any own s rg cc pp ch pv prs S r R w hS hR
theorem x_clock {w0 w : World} {eb ef : Addr} {s : Nat} {S : Sto} {P : Nat → Prop} (h : Sx w0 w eb ef s S P) (r : Nat) (R : Rp) (hR : S.reps[r]? = some R) (hl : R.clock.length ≤ 1000) :
    Calls Tryz.prog 22 #[.pointer (some ⟨s, 0, none⟩), I r] w fun e w' => ReadOk w R.clock e w' := by
  obtain ⟨own, rg, cc, pp, ch, pv, prs, hS, hen, hp⟩ := h
  exact wclock_any own s rg cc pp ch pv prs S r R w hS hR hl
theorem x_new (w : World) (eb ef : Addr) (n : Nat) (hg : Gl w eb ef) (hp : Pw w) (hn2 : 2 ≤ n) (hn4 : n ≤ 4) :
    Calls Tryz.prog 14 #[I n] w fun e w' => ∃ s, e = .returned (.tuple #[.pointer (some ⟨s, 0, none⟩), I 0]) ∧ Sx w w' eb ef s (newS n) (fun _ => False) :=
  (wnew_any (fun _ => 0) n w w eb ef ⟨hg, hp, Below.refl _ _, fun _ _ => rfl⟩ hn2 hn4).mono (fun e w' hh => by
    obtain ⟨s, he, hs, _⟩ := hh
    exact ⟨s, he, (hs.sy (P := fun _ => False) (fun _ h => h.elim)).1⟩)

end Go.Proofs.YtfmcngncaffloaaGreatDoor

namespace Go.Proofs.YtfmcngncaffloaaGreatDoor
open Go.RowKit
set_option maxRecDepth 100000

abbrev cf0 (x : Int) : List UInt8 := Wv.frameB (cb0 x)
abbrev cf1 (y : Int) : List UInt8 := Wv.frameB (cb1 y)
def m01 (x : Int) : Ms := ⟨1, 0, 1, cf0 x, false⟩
def m02 (x : Int) : Ms := ⟨1, 0, 2, cf0 x, false⟩
def m10 (y : Int) : Ms := ⟨1, 1, 0, cf1 y, false⟩
def m12 (y : Int) : Ms := ⟨1, 1, 2, cf1 y, false⟩
def cs1 (x : Int) : Sto := ⟨[cA1 x, newR 1 3, newR 2 3], [m01 x, m02 x]⟩
def cs2 (x : Int) : Sto := ⟨[cA1 x, cB1 x, newR 2 3], [m02 x]⟩
def cs3 (x y : Int) : Sto := ⟨[cA1 x, commitS (cB2 x y), newR 2 3], [m02 x, m10 y, m12 y]⟩
def cs4 (x y : Int) : Sto := ⟨[cA1 x, commitS (cB2 x y), newR 2 3], [m02 x, m10 y, m12 y, m12 y]⟩
def cs5 (x y : Int) (j k : Nat) : Sto := ⟨[cA1 x, commitS (cB2 x y), newR 2 3], [m02 x, m10 y, m12 y, spoilM (m12 y) j k]⟩
def cs7 (x y : Int) : Sto := ⟨[cA1 x, commitS (cB2 x y), cC1 y], [m02 x, m10 y, m12 y]⟩
def cs8 (x y : Int) : Sto := ⟨[cA1 x, commitS (cB2 x y), cC1 y], [m02 x, m10 y]⟩
def cs9 (x y : Int) : Sto := ⟨[cA1 x, commitS (cB2 x y), cC2 x y], [m10 y]⟩
section
variable {x y : Int}
theorem dec0 (hx0 : 0 ≤ x) (hx1 : x ≤ 255) : Wv.dec (cf0 x) = some (cb0 x) := Wv.dec_frame _ (isB0 x hx0 hx1)
theorem dec1 (hy0 : 0 ≤ y) (hy1 : y ≤ 255) : Wv.dec (cf1 y) = some (cb1 y) := Wv.dec_frame _ (isB1 y hy0 hy1)
theorem upN (i : Nat) (hi : i < 3) : Rup (newR i 3) := ⟨Rok.new i 3 (by omega), by show (0 : Int) ≤ (i : Int); omega, by show (i : Int) < 3; omega, by show (0 : Int) ≠ 2; omega, by show 0 ≤ 5; omega, fun e he => (by cases he)⟩
theorem upA0 (hx0 : 0 ≤ x) (hx1 : x ≤ 255) : Rup (cA0 x) := ⟨(Rok.new 0 3 (by omega)).same rfl rfl rfl rfl rfl, of_decide_eq_true rfl, of_decide_eq_true rfl, of_decide_eq_true rfl, of_decide_eq_true rfl, fun e he => by
  have he : e ∈ [ce0 x] := he
  simp only [List.mem_singleton] at he
  subst he
  exact ⟨of_decide_eq_true rfl, of_decide_eq_true rfl, by show -1000 ≤ x; omega, by show x ≤ 1000; omega, of_decide_eq_true rfl⟩⟩
theorem okB1 (hx0 : 0 ≤ x) (hx1 : x ≤ 255) : Rok (cB1 x) := by rw [← cB1_eq x (dec0 hx0 hx1)]; exact (Rok.new 1 3 (by omega)).frame _
theorem upB1 (hx0 : 0 ≤ x) (hx1 : x ≤ 255) : Rup (cB1 x) := ⟨okB1 hx0 hx1, of_decide_eq_true rfl, of_decide_eq_true rfl, of_decide_eq_true rfl, of_decide_eq_true rfl, fun e he => (by cases he)⟩
theorem upB2 (hx0 : 0 ≤ x) (hx1 : x ≤ 255) (hy0 : 0 ≤ y) (hy1 : y ≤ 255) : Rup (cB2 x y) := ⟨(okB1 hx0 hx1).same rfl rfl rfl rfl rfl, of_decide_eq_true rfl, of_decide_eq_true rfl, of_decide_eq_true rfl, of_decide_eq_true rfl, fun e he => by
  have he : e ∈ [ce1 y, ce2] := he
  simp only [List.mem_cons, List.not_mem_nil, or_false] at he
  rcases he with rfl | rfl
  · exact ⟨of_decide_eq_true rfl, of_decide_eq_true rfl, by show -1000 ≤ y; omega, by show y ≤ 1000; omega, of_decide_eq_true rfl⟩
  · exact ⟨by decide, by decide, by decide, by decide, by decide⟩⟩
theorem okC1 (hy0 : 0 ≤ y) (hy1 : y ≤ 255) : Rok (cC1 y) := by rw [← cC1_eq y (dec1 hy0 hy1)]; exact (Rok.new 2 3 (by omega)).frame _
theorem upC1 (hy0 : 0 ≤ y) (hy1 : y ≤ 255) : Rup (cC1 y) := ⟨okC1 hy0 hy1, of_decide_eq_true rfl, of_decide_eq_true rfl, of_decide_eq_true rfl, of_decide_eq_true rfl, fun e he => (by cases he)⟩
theorem upC2 (hx0 : 0 ≤ x) (hx1 : x ≤ 255) (hy0 : 0 ≤ y) (hy1 : y ≤ 255) : Rup (cC2 x y) := ⟨by rw [← cC2_eq x y (dec0 hx0 hx1)]; exact (okC1 hy0 hy1).frame _, of_decide_eq_true rfl, of_decide_eq_true rfl, of_decide_eq_true rfl, of_decide_eq_true rfl, fun e he => (by cases he)⟩
variable {w0 w : World} {eb ef : Addr} {s : Nat} {P : Nat → Prop}
theorem acs_lit1 (w : World) (a b c d e : Int) (ob : Nat) (hb : b = ob) : AcsAt (w.alloc (.cells #[I a, I b, I c, I d, I e] 41)) w.heap.size [⟨a, ob, c, d⟩] := by
  have hB : Blk (w.alloc (.cells #[I a, I b, I c, I d, I e] 41)) w.heap.size #[I a, I b, I c, I d, I e] 41 := heap_alloc_new w _
  intro i hi
  have : i = 0 := by simpa using hi
  subst this
  subst hb
  exact ⟨hB.cell 0, hB.cell 1, hB.cell 2, hB.cell 3⟩
theorem acs_lit2 (w : World) (a b c d e a' b' c' d' e' : Int) (ob ob' : Nat) (hb : b = ob) (hb' : b' = ob') : AcsAt (w.alloc (.cells #[I a, I b, I c, I d, I e, I a', I b', I c', I d', I e'] 41)) w.heap.size [⟨a, ob, c, d⟩, ⟨a', ob', c', d'⟩] := by
  have hB : Blk (w.alloc (.cells #[I a, I b, I c, I d, I e, I a', I b', I c', I d', I e'] 41)) w.heap.size #[I a, I b, I c, I d, I e, I a', I b', I c', I d', I e'] 41 := heap_alloc_new w _
  intro i hi
  subst hb hb'
  rcases i with _ | _ | i
  · exact ⟨hB.cell 0, hB.cell 1, hB.cell 2, hB.cell 3⟩
  · exact ⟨hB.cell 5, hB.cell 6, hB.cell 7, hB.cell 8⟩
  · exact absurd hi (by simp)
theorem k_w0 (hx0 : 0 ≤ x) (hx1 : x ≤ 255) (hI : ItoaSaid) (h : Sx w0 w eb ef s (newS 3) (fun _ => False)) : Calls Tryz.prog 23 #[.pointer (some ⟨s, 0, none⟩), I 0, .slice (some ⟨w.heap.size, 0, none⟩) 1 1] (w.alloc (.cells #[I 5, I 3, I 0, I x, I 0] 41)) fun e w' => e = .returned (.bool true) ∧ Sx w0 w' eb ef s (cs1 x) (fun _ => False) := by
  have hb : Below w.heap.size w (w.alloc (.cells #[I 5, I 3, I 0, I x, I 0] 41)) := (Below.refl _ _).alloc (Nat.le_refl _) _
  refine (x_writes hI (h.below hb) 0 (newR 0 3) (cA0 x) [⟨5, 3, 0, x⟩] w.heap.size 1 rfl (upN 0 (by omega)) rfl (cDos0 x hx0 hx1) (upA0 hx0 hx1) rfl (by simp [cA0]) (isB0 x hx0 hx1) (of_decide_eq_true rfl) (acs_lit1 w 5 3 0 x 0 3 rfl) (Or.inr ⟨Nat.le_refl _, by simp⟩) (of_decide_eq_true rfl)).mono (fun e w' hh => ⟨hh.1, ?_⟩)
  have e : (⟨(newS 3).reps.set 0 (commitS (cA0 x)), (newS 3).msgs ++ sprd 0 (Wv.frameB (pendB (cA0 x))) (newS 3).reps.length⟩ : Sto) = cs1 x := rfl
  rw [e] at hh
  exact hh.2.1.mono (fun _ h => h.elim)
theorem k_d0 (hx0 : 0 ≤ x) (hx1 : x ≤ 255) (hI : ItoaSaid) (hg : Gd w0) (h : Sx w0 w eb ef s (cs1 x) (fun _ => False)) : Calls Tryz.prog 26 #[.pointer (some ⟨s, 0, none⟩), I 0] w fun e w' => e = .returned (I 0) ∧ Sx w0 w' eb ef s (cs2 x) (fun _ => False) := by
  have ht : TFrame w0 eb ef (newR 1 3) (cf0 x) (cB1 x) := by
    rw [← cB1_eq x (dec0 hx0 hx1)]
    exact tframe_new hI hg (Rok.new 1 3 (by omega)) (dec0 hx0 hx1) rfl (of_decide_eq_true rfl)
  exact (x_deliver h 0 0 1 (cf0 x) false (newR 1 3) (cB1 x) rfl rfl (of_decide_eq_true rfl) ht).mono (fun e w' hh => ⟨hh.1, hh.2.1⟩)
theorem k_w1 (hx0 : 0 ≤ x) (hx1 : x ≤ 255) (hy0 : 0 ≤ y) (hy1 : y ≤ 255) (hI : ItoaSaid) (h : Sx w0 w eb ef s (cs2 x) (fun _ => False)) : Calls Tryz.prog 23 #[.pointer (some ⟨s, 0, none⟩), I 1, .slice (some ⟨w.heap.size, 0, none⟩) 2 2] (w.alloc (.cells #[I 5, I 3, I 1, I y, I 0, I 1, I 0, I 3, I 0, I 0] 41)) fun e w' => e = .returned (.bool true) ∧ Sx w0 w' eb ef s (cs3 x y) (fun _ => False) := by
  have hb : Below w.heap.size w (w.alloc (.cells #[I 5, I 3, I 1, I y, I 0, I 1, I 0, I 3, I 0, I 0] 41)) := (Below.refl _ _).alloc (Nat.le_refl _) _
  refine (x_writes hI (h.below hb) 1 (cB1 x) (cB2 x y) [⟨5, 3, 1, y⟩, ⟨1, 0, 3, 0⟩] w.heap.size 2 rfl (upB1 hx0 hx1) rfl (cDos1 x y hy0 hy1 (okB1 hx0 hx1)) (upB2 hx0 hx1 hy0 hy1) rfl (by simp [cB2]) (isB1 y hy0 hy1) (of_decide_eq_true rfl) (acs_lit2 w 5 3 1 y 0 1 0 3 0 0 3 0 rfl rfl) (Or.inr ⟨Nat.le_refl _, by simp⟩) (of_decide_eq_true rfl)).mono (fun e w' hh => ⟨hh.1, ?_⟩)
  have e : (⟨(cs2 x).reps.set 1 (commitS (cB2 x y)), (cs2 x).msgs ++ sprd 1 (Wv.frameB (pendB (cB2 x y))) (cs2 x).reps.length⟩ : Sto) = cs3 x y := rfl
  rw [e] at hh
  exact hh.2.1.mono (fun _ h => h.elim)
theorem k_t2 (h : Sx w0 w eb ef s (cs3 x y) P) : Calls Tryz.prog 28 #[.pointer (some ⟨s, 0, none⟩), I 2] w fun e w' => e = .returned (I 0) ∧ Sy w0 w eb ef s (cs4 x y) P w' :=
  x_twice h 2 (m12 y) (of_decide_eq_true rfl) rfl
theorem short1 (hy0 : 0 ≤ y) (hy1 : y ≤ 255) : (cf1 y).length ≤ 100000 := Nat.le_trans (frameB_short (isB1 y hy0 hy1)) (by omega)
theorem k_sp (hy0 : 0 ≤ y) (hy1 : y ≤ 255) (j k : Nat) (hj : j < (cf1 y).length) (hk0 : 1 ≤ k) (hk1 : k ≤ 255) (h : Sx w0 w eb ef s (cs4 x y) P) : Calls Tryz.prog 29 #[.pointer (some ⟨s, 0, none⟩), I 3, I j, I k] w fun e w' => e = .returned (I 0) ∧ Sy w0 w eb ef s (cs5 x y j k) P w' :=
  x_spoil h 3 j k (m12 y) rfl rfl hk0 hk1 hj (short1 hy0 hy1)
theorem dec_spoilt (hy0 : 0 ≤ y) (hy1 : y ≤ 255) (j k : Nat) (hj : j < (cf1 y).length) (hk0 : 1 ≤ k) (hk1 : k ≤ 255) : Wv.dec (spoilM (m12 y) j k).bs = none := by
  show Wv.dec (Wv.chg (Wv.frameB (cb1 y)) j (fun _ => UInt8.ofNat k) 1) = none
  have hj : j < (Wv.frameB (cb1 y)).length := hj
  rw [Wv.dec_chg (cb1 y) (isB1 y hy0 hy1) j (fun _ => UInt8.ofNat k) 1 (by omega) (by unfold Wv.stopAt; split <;> omega)]
  have : Wv.chd (fun _ => UInt8.ofNat k) 1 = true := by
    show (false || UInt8.ofNat k != 0) = true
    rw [Bool.false_or, bne_iff_ne]
    intro e
    have := congrArg UInt8.toNat e
    rw [UInt8.toNat_ofNat_of_lt' (by show k < 256; omega)] at this
    simp at this
    omega
  rw [this]
  rfl
theorem k_d3 (hy0 : 0 ≤ y) (hy1 : y ≤ 255) (hI : ItoaSaid) (hg : Gd w0) (j k : Nat) (hj : j < (cf1 y).length) (hk0 : 1 ≤ k) (hk1 : k ≤ 255) (h : Sx w0 w eb ef s (cs5 x y j k) P) : Calls Tryz.prog 26 #[.pointer (some ⟨s, 0, none⟩), I 3] w fun e w' => e = .returned (I 0) ∧ Sy w0 w eb ef s (cs3 x y) P w' := by
  have hl : (spoilM (m12 y) j k).bs.length ≤ 9223372036854775807 := by
    show (Wv.chg (cf1 y) j (fun _ => UInt8.ofNat k) 1).length ≤ _
    rw [Wv.chg_len]
    have := short1 hy0 hy1
    omega
  exact x_deliver h 3 1 2 (spoilM (m12 y) j k).bs true (newR 2 3) (newR 2 3) rfl rfl (of_decide_eq_true rfl) (tframe_none hI hg hl (dec_spoilt hy0 hy1 j k hj hk0 hk1))
theorem k_d2 (hy0 : 0 ≤ y) (hy1 : y ≤ 255) (hI : ItoaSaid) (hg : Gd w0) (h : Sx w0 w eb ef s (cs4 x y) P) : Calls Tryz.prog 26 #[.pointer (some ⟨s, 0, none⟩), I 2] w fun e w' => e = .returned (I 0) ∧ Sy w0 w eb ef s (cs7 x y) P w' := by
  have ht : TFrame w0 eb ef (newR 2 3) (cf1 y) (cC1 y) := by
    rw [← cC1_eq y (dec1 hy0 hy1)]
    exact tframe_new hI hg (Rok.new 2 3 (by omega)) (dec1 hy0 hy1) rfl (of_decide_eq_true rfl)
  exact x_deliver h 2 1 2 (cf1 y) false (newR 2 3) (cC1 y) rfl rfl (of_decide_eq_true rfl) ht
theorem k_d2b (hy0 : 0 ≤ y) (hy1 : y ≤ 255) (hI : ItoaSaid) (hg : Gd w0) (h : Sx w0 w eb ef s (cs7 x y) P) : Calls Tryz.prog 26 #[.pointer (some ⟨s, 0, none⟩), I 2] w fun e w' => e = .returned (I 0) ∧ Sy w0 w eb ef s (cs8 x y) P w' := by
  have ht : TFrame w0 eb ef (cC1 y) (cf1 y) (cC1 y) := by
    have := tframe_new (eb := eb) (ef := ef) hI hg (okC1 hy0 hy1) (dec1 hy0 hy1) rfl (of_decide_eq_true rfl)
    rw [cC1_same y (dec1 hy0 hy1)] at this
    exact this
  exact x_deliver h 2 1 2 (cf1 y) false (cC1 y) (cC1 y) rfl rfl (of_decide_eq_true rfl) ht
theorem k_d0b (hx0 : 0 ≤ x) (hx1 : x ≤ 255) (hy0 : 0 ≤ y) (hy1 : y ≤ 255) (hI : ItoaSaid) (hg : Gd w0) (h : Sx w0 w eb ef s (cs8 x y) P) : Calls Tryz.prog 26 #[.pointer (some ⟨s, 0, none⟩), I 0] w fun e w' => e = .returned (I 0) ∧ Sy w0 w eb ef s (cs9 x y) P w' := by
  have ht : TFrame w0 eb ef (cC1 y) (cf0 x) (cC2 x y) := by
    rw [← cC2_eq x y (dec0 hx0 hx1)]
    exact tframe_new hI hg (okC1 hy0 hy1) (dec0 hx0 hx1) rfl (of_decide_eq_true rfl)
  exact x_deliver h 0 0 2 (cf0 x) false (cC1 y) (cC2 x y) rfl rfl (of_decide_eq_true rfl) ht
theorem k_r3 (hy0 : 0 ≤ y) (hy1 : y ≤ 255) (h : Sx w0 w eb ef s (cs8 x y) P) : Calls Tryz.prog 31 #[.pointer (some ⟨s, 0, none⟩), I 2, I 3] w fun e w' => ReadOk w [] e w' :=
  x_read h 2 3 (cC1 y) (.list []) rfl (upC1 hy0 hy1) trivial rfl
theorem k_r0 (hy0 : 0 ≤ y) (hy1 : y ≤ 255) (h : Sx w0 w eb ef s (cs8 x y) P) : Calls Tryz.prog 31 #[.pointer (some ⟨s, 0, none⟩), I 2, I 0] w fun e w' => ReadOk w [0] e w' :=
  x_read h 2 0 (cC1 y) (.counter 0) rfl (upC1 hy0 hy1) trivial rfl
theorem k_r3b (hx0 : 0 ≤ x) (hx1 : x ≤ 255) (hy0 : 0 ≤ y) (hy1 : y ≤ 255) (h : Sx w0 w eb ef s (cs9 x y) P) : Calls Tryz.prog 31 #[.pointer (some ⟨s, 0, none⟩), I 2, I 3] w fun e w' => ReadOk w [x, y] e w' :=
  x_read h 2 3 (cC2 x y) (.list (cl1 x y)) rfl (upC2 hx0 hx1 hy0 hy1) trivial rfl
theorem k_r0b (hx0 : 0 ≤ x) (hx1 : x ≤ 255) (hy0 : 0 ≤ y) (hy1 : y ≤ 255) (h : Sx w0 w eb ef s (cs9 x y) P) : Calls Tryz.prog 31 #[.pointer (some ⟨s, 0, none⟩), I 2, I 0] w fun e w' => ReadOk w [3] e w' :=
  x_read h 2 0 (cC2 x y) (.counter 3) rfl (upC2 hx0 hx1 hy0 hy1) trivial rfl
theorem k_h (h : Sx w0 w eb ef s (cs8 x y) P) : Calls Tryz.prog 30 #[.pointer (some ⟨s, 0, none⟩), I 2] w fun e w' => e = .returned (.tuple #[I 1, I 0]) ∧ w' = w := x_held h 2 (cC1 y) rfl
theorem k_hb (h : Sx w0 w eb ef s (cs9 x y) P) : Calls Tryz.prog 30 #[.pointer (some ⟨s, 0, none⟩), I 2] w fun e w' => e = .returned (.tuple #[I 0, I 0]) ∧ w' = w := x_held h 2 (cC2 x y) rfl
theorem k_c (h : Sx w0 w eb ef s (cs9 x y) P) : Calls Tryz.prog 22 #[.pointer (some ⟨s, 0, none⟩), I 2] w fun e w' => ReadOk w [1, 1, 0] e w' := x_clock h 2 (cC2 x y) rfl (of_decide_eq_true rfl)
end

end Go.Proofs.YtfmcngncaffloaaGreatDoor

namespace Go.Proofs.YtfmcngncaffloaaGreatDoor
open Go.RowKit
set_option maxRecDepth 100000

theorem row_at {w' : World} {base : Nat} {e : TypeId} {z n m c : Nat} {a : Option Addr} {xs : List Value} (h : w'.ownsRow base e z (.slice a m c) n xs) : At w' a xs := (own_at0 (own := fun _ => 0) h).at
theorem lit_At (w : World) (cs : List Value) (t : TypeId) : At (w.alloc (.cells cs.toArray t)) (some ⟨w.heap.size, 0, none⟩) cs := fun j u hj => ⟨w.heap.size, 0, rfl, by have := lit_any w cs t j u hj; rw [Addr.add_lit] at this; exact this⟩
def CsOk (w : World) (e : Ending) (w' : World) : Prop := e = .returned (.bool true) ∧ Below w.heap.size w w'
set_option maxHeartbeats 6400000 in
theorem causal_any (v z at_ mask : Int) (w : World) (eb ef : Addr) (hI : ItoaSaid) (hgl : Gl w eb ef) (hpw : Pw w) (hgd : Gd w)
    (hv : -9223372036854775808 ≤ v ∧ v ≤ 9223372036854775807) (hz : -9223372036854775808 ≤ z ∧ z ≤ 9223372036854775807) (ha : -9223372036854775808 ≤ at_ ∧ at_ ≤ 9223372036854775807) (hm : -9223372036854775808 ≤ mask ∧ mask ≤ 9223372036854775807) :
    Calls Tryz.prog 7 #[I v, I z, I at_, I mask] w fun e w' => CsOk w e w' := by
  have HN : Hid (Calls Tryz.prog 14 #[I 3] w fun e w' => ∃ s, e = .returned (.tuple #[.pointer (some ⟨s, 0, none⟩), I 0]) ∧ Sx w w' eb ef s (newS 3) (fun _ => False)) := x_new w eb ef 3 hgl hpw (by omega) (by omega)
  have HGD : Hid (Gd w) := hgd
  clear hgl hpw hgd
  go_enter Tryz.func7, Tryz.ntmps7
  go_wp2_with fail
  refine HN.out.mono ?_
  rintro e w1 ⟨s, rfl, h1⟩
  have HS1 : Hid (Sx w w1 eb ef s (newS 3) (fun _ => False)) := h1
  clear h1 HN
  go_wp2_with fail
  refine (pick_any v 256 w1 hv ⟨by decide, by decide⟩).mono ?_
  rintro e w1' ⟨rfl, hw1⟩
  subst hw1
  go_wp2_with fail
  refine (pick_any z 256 w1' hz ⟨by decide, by decide⟩).mono ?_
  rintro e w1 ⟨rfl, hw1⟩
  subst hw1
  obtain ⟨hx0, hx1⟩ := Wv.pk_lt v 256 (by decide)
  obtain ⟨hy0, hy1⟩ := Wv.pk_lt z 256 (by decide)
  generalize Wv.pk v 256 = x at *
  generalize Wv.pk z 256 = y at *
  have HX : Hid (0 ≤ x ∧ x ≤ 255) := ⟨hx0, by omega⟩
  have HY : Hid (0 ≤ y ∧ y ≤ 255) := ⟨hy0, by omega⟩
  clear hx0 hx1 hy0 hy1 hv hz
  go_wp2_with fail
  refine (k_w0 HX.out.1 HX.out.2 hI HS1.out).mono ?_
  rintro e w2 ⟨rfl, h2⟩
  have HS2 : Hid (Sx w w2 eb ef s (cs1 x) (fun _ => False)) := h2
  clear h2 HS1
  go_wp2_with fail
  refine (k_d0 HX.out.1 HX.out.2 hI HGD.out HS2.out).mono ?_
  rintro e w3 ⟨rfl, h3⟩
  have HS3 : Hid (Sx w w3 eb ef s (cs2 x) (fun _ => False)) := h3
  clear h3 HS2
  go_wp2_with fail
  refine (k_w1 HX.out.1 HX.out.2 HY.out.1 HY.out.2 hI HS3.out).mono ?_
  rintro e w4 ⟨rfl, h4⟩
  have HS4 : Hid (Sx w w4 eb ef s (cs3 x y) (fun _ => False)) := h4
  clear h4 HS3
  go_wp2_with fail
  refine (x_msgs HS4.out).mono ?_
  rintro e w5 ⟨lv, rfl, ho5, hb5⟩
  have ho5' : w5.ownsRow w4.heap.size 59 4 lv 3 (flat mgCells [m02 x, m10 y, m12 y]) := ho5
  obtain ⟨lg, lc, rfl⟩ := row_some ho5' (by omega)
  have HLG : Hid (w4.heap.size ≤ lg ∧ lg < w5.heap.size) := ⟨(ho5'.lt lg rfl).1, (ho5'.lt lg rfl).2⟩
  have HS5 : Hid (Sx w w5 eb ef s (cs3 x y) (fun g => g = lg)) := (HS4.out.below hb5).mono (fun g e => Or.inr (by rw [e]; exact HLG.out))
  have hcl := fun j u hj => (ho5'.cells (g := lg) rfl j u hj)
  have l01 : w5.cell? ⟨lg, 1, none⟩ = some (I 0) := by have := hcl 1 (I 0) rfl; rw [Addr.add_lit] at this; exact this
  have l02 : w5.cell? ⟨lg, 2, none⟩ = some (I 2) := by have := hcl 2 (I 2) rfl; rw [Addr.add_lit] at this; exact this
  have l21 : w5.cell? ⟨lg, 9, none⟩ = some (I 1) := by have := hcl 9 (I 1) rfl; rw [Addr.add_lit] at this; exact this
  have l22 : w5.cell? ⟨lg, 10, none⟩ = some (I 2) := by have := hcl 10 (I 2) rfl; rw [Addr.add_lit] at this; exact this
  have l23 : w5.cell? ⟨lg, 11, none⟩ = some (.string ⟨(cf1 y).toArray⟩) := by have := hcl 11 (.string ⟨(cf1 y).toArray⟩) rfl; rw [Addr.add_lit] at this; exact this
  have HFL : Hid (9 ≤ (cf1 y).length ∧ (cf1 y).length ≤ 100000) := by
    have h1 := Wv.frame_len (cb1 y) (isB1 y HY.out.1 HY.out.2)
    have h2 := short1 HY.out.1 HY.out.2
    exact ⟨by show 9 ≤ (Wv.frameB (cb1 y)).length; omega, h2⟩
  have HDS : Hid (∀ j k : Nat, j < (cf1 y).length → 1 ≤ k → k ≤ 255 → True) := fun _ _ _ _ _ => trivial
  clear ho5 ho5' hb5 hcl HS4 HDS
  go_wp2_with fail
  refine (k_t2 HS5.out).mono ?_
  rintro e w6 ⟨rfl, h6⟩
  have HS6 : Hid (Sx w w6 eb ef s (cs4 x y) (fun g => g = lg)) := h6.1
  have l23' : w6.cell? ⟨lg, 11, none⟩ = some (.string ⟨(cf1 y).toArray⟩) := cell_same l23 (h6.2 lg rfl)
  clear h6 HS5 l01 l02 l21 l22 l23 HLG
  go_wp2_with fail
  refine (pick_any at_ (cf1 y).length w6 ha ⟨by have := HFL.out; omega, by have := HFL.out; omega⟩).mono ?_
  rintro e w6' ⟨rfl, hw6⟩
  subst hw6
  obtain ⟨hj0, hj1⟩ := Wv.pk_lt at_ (cf1 y).length (by have := HFL.out; omega)
  generalize Wv.pk at_ (cf1 y).length = ji at *
  obtain ⟨j, rfl⟩ := Int.eq_ofNat_of_zero_le hj0
  have HJ : Hid (j < (cf1 y).length) := by show j < _; omega
  clear hj0 hj1 ha
  go_wp2_with fail
  refine (pick_any mask 255 w6' hm ⟨by decide, by decide⟩).mono ?_
  rintro e w6 ⟨rfl, hw6⟩
  subst hw6
  obtain ⟨hk0, hk1⟩ := Wv.pk_lt mask 255 (by decide)
  generalize Wv.pk mask 255 = ki at *
  obtain ⟨k, rfl⟩ := Int.eq_ofNat_of_zero_le hk0
  have hwk : IntKind.i64.wrap (1 + (k : Int)) = 1 + (k : Int) := by rw [IntKind.wrap_i64]; omega
  have HK : Hid (1 ≤ 1 + k ∧ 1 + k ≤ 255) := ⟨by omega, by omega⟩
  have HCS : Hid (Calls Tryz.prog 29 #[.pointer (some ⟨s, 0, none⟩), I 3, I j, I (1 + (k : Int))] w6 fun e w' => e = .returned (I 0) ∧ Sy w w6 eb ef s (cs5 x y j (1 + k)) (fun g => g = lg) w') := by
    have := k_sp HY.out.1 HY.out.2 j (1 + k) HJ.out HK.out.1 HK.out.2 HS6.out
    rw [Int.natCast_add] at this
    exact this
  clear hk0 hk1 hm
  go_wp2_with fail
  refine HCS.out.mono ?_
  rintro e w7 ⟨rfl, h7⟩
  have HS7 : Hid (Sx w w7 eb ef s (cs5 x y j (1 + k)) (fun _ => False)) := h7.1.mono (fun _ h => h.elim)
  clear h7 HS6 HCS l23'
  go_wp2_with fail
  refine (k_d3 HY.out.1 HY.out.2 hI HGD.out j (1 + k) HJ.out HK.out.1 HK.out.2 HS7.out).mono ?_
  rintro e w8 ⟨rfl, h8⟩
  have HS8 : Hid (Sx w w8 eb ef s (cs3 x y) (fun _ => False)) := h8.1
  clear h8 HS7
  go_wp2_with fail
  refine (k_t2 HS8.out).mono ?_
  rintro e w9 ⟨rfl, h9⟩
  have HS9 : Hid (Sx w w9 eb ef s (cs4 x y) (fun _ => False)) := h9.1
  clear h9 HS8
  go_wp2_with fail
  refine (k_d2 HY.out.1 HY.out.2 hI HGD.out HS9.out).mono ?_
  rintro e w10 ⟨rfl, h10⟩
  have HS10 : Hid (Sx w w10 eb ef s (cs7 x y) (fun _ => False)) := h10.1
  clear h10 HS9
  go_wp2_with fail
  refine (k_d2b HY.out.1 HY.out.2 hI HGD.out HS10.out).mono ?_
  rintro e w11 ⟨rfl, h11⟩
  have HS11 : Hid (Sx w w11 eb ef s (cs8 x y) (fun _ => False)) := h11.1
  clear h11 HS10
  go_wp2_with fail
  refine (k_h HS11.out).mono ?_
  rintro e w12 ⟨rfl, hw12⟩
  subst hw12
  go_wp2_with fail
  refine (k_r3 HY.out.1 HY.out.2 HS11.out).mono ?_
  rintro e w13 ⟨v13, rfl, ho13, hb13⟩
  obtain ⟨a13, c13, rfl⟩ := own_sl ho13
  have HS13 : Hid (Sx w w13 eb ef s (cs8 x y) (fun _ => False)) := (HS11.out.below hb13).mono (fun _ h => h.elim)
  clear ho13 hb13 HS11
  go_wp2_with fail
  refine (k_r0 HY.out.1 HY.out.2 HS13.out).mono ?_
  rintro e w14 ⟨v14, rfl, ho14, hb14⟩
  have ho14' : w14.ownsRow w13.heap.size 3 1 v14 1 [I 0] := ho14
  obtain ⟨g14, c14, rfl⟩ := row_some ho14' (by omega)
  have HS14 : Hid (Sx w w14 eb ef s (cs8 x y) (fun _ => False)) := (HS13.out.below hb14).mono (fun _ h => h.elim)
  have q14 : w14.cell? ⟨g14, 0, none⟩ = some (I 0) := by have := ho14'.cells (g := g14) rfl 0 (I 0) rfl; rw [Addr.add_lit] at this; exact this
  clear ho14 ho14' hb14 HS13
  go_wp2_with fail
  refine (k_d0b HX.out.1 HX.out.2 HY.out.1 HY.out.2 hI HGD.out HS14.out).mono ?_
  rintro e w15 ⟨rfl, h15⟩
  have HS15 : Hid (Sx w w15 eb ef s (cs9 x y) (fun _ => False)) := h15.1
  clear h15 HS14 q14
  go_wp2_with fail
  refine (k_r3b HX.out.1 HX.out.2 HY.out.1 HY.out.2 HS15.out).mono ?_
  rintro e w16 ⟨v16, rfl, ho16, hb16⟩
  obtain ⟨a16, c16, rfl⟩ := own_sl ho16
  have HA16 : Hid (At w16 a16 ([x, y].map I)) := row_at ho16
  have HS16 : Hid (Sx w w16 eb ef s (cs9 x y) (fun _ => False)) := (HS15.out.below hb16).mono (fun _ h => h.elim)
  clear ho16 hb16 HS15
  go_wp2_with fail
  refine (k_r0b HX.out.1 HX.out.2 HY.out.1 HY.out.2 HS16.out).mono ?_
  rintro e w17 ⟨v17, rfl, ho17, hb17⟩
  obtain ⟨a17, c17, rfl⟩ := own_sl ho17
  have HA17 : Hid (At w17 a17 ([3].map I)) := row_at ho17
  have HB17 : Hid (At w17 a16 ([x, y].map I)) := HA16.out.kept hb17
  have HS17 : Hid (Sx w w17 eb ef s (cs9 x y) (fun _ => False)) := (HS16.out.below hb17).mono (fun _ h => h.elim)
  clear ho17 hb17 HS16 HA16
  go_wp2_with fail
  refine (k_hb HS17.out).mono ?_
  rintro e w18 ⟨rfl, hw18⟩
  subst hw18
  go_wp2_with fail
  refine (k_c HS17.out).mono ?_
  rintro e w19 ⟨v19, rfl, ho19, hb19⟩
  obtain ⟨a19, c19, rfl⟩ := own_sl ho19
  have HA19 : Hid (At w19 a19 ([1, 1, 0].map I)) := row_at ho19
  have HC19 : Hid (At w19 a16 ([x, y].map I)) := HB17.out.kept hb19
  have HD19 : Hid (At w19 a17 ([3].map I)) := HA17.out.kept hb19
  have HB19 : Hid (Below w.heap.size w w19) := (HS17.out.below hb19).bel
  clear ho19 hb19 HS17 HA17 HB17 HX HY HFL HJ HK HGD
  go_wp2_with fail
  have hbA : Below w19.heap.size w19 (w19.alloc (.cells #[I 3] 3)) := (Below.refl _ _).alloc (Nat.le_refl _) _
  have HBA : Hid (Below w19.heap.size w19 (w19.alloc (.cells #[I 3] 3))) := hbA
  refine (equal_any [3] [3] a17 (some ⟨w19.heap.size, 0, none⟩) c17 1 (w19.alloc (.cells #[I 3] 3)) (HD19.out.kept hbA) (lit_At w19 [I 3] _) (by decide)).mono ?_
  rintro e w20 ⟨rfl, hb20⟩
  have HB20 : Hid (Below w19.heap.size w19 w20) := HBA.out.trans (hb20.mono HBA.out.size)
  clear hbA HBA hb20
  have hd1 : decide (([3] : List Int) = [3]) = true := decide_eq_true rfl
  rw [hd1]
  clear hd1
  go_wp2_with fail
  have hbA : Below w20.heap.size w20 (w20.alloc (.cells #[I x, I y] 3)) := (Below.refl _ _).alloc (Nat.le_refl _) _
  have HBA : Hid (Below w19.heap.size w19 (w20.alloc (.cells #[I x, I y] 3))) := HB20.out.trans (hbA.mono HB20.out.size)
  refine (equal_any [x, y] [x, y] a16 (some ⟨w20.heap.size, 0, none⟩) c16 2 (w20.alloc (.cells #[I x, I y] 3)) (HC19.out.kept HBA.out) (lit_At w20 [I x, I y] _) (of_decide_eq_true rfl)).mono ?_
  rintro e w21 ⟨rfl, hb21⟩
  have HB21 : Hid (Below w19.heap.size w19 w21) := HBA.out.trans (hb21.mono HBA.out.size)
  clear hbA HBA hb21
  have hd1 : decide ([x, y] = [x, y]) = true := decide_eq_true rfl
  rw [hd1]
  clear hd1
  go_wp2_with fail
  have hbA : Below w21.heap.size w21 (w21.alloc (.cells #[I 1, I 1, I 0] 3)) := (Below.refl _ _).alloc (Nat.le_refl _) _
  have HBA : Hid (Below w19.heap.size w19 (w21.alloc (.cells #[I 1, I 1, I 0] 3))) := HB21.out.trans (hbA.mono HB21.out.size)
  refine (equal_any [1, 1, 0] [1, 1, 0] a19 (some ⟨w21.heap.size, 0, none⟩) c19 3 (w21.alloc (.cells #[I 1, I 1, I 0] 3)) (HA19.out.kept HBA.out) (lit_At w21 [I 1, I 1, I 0] _) (by decide)).mono ?_
  rintro e w22 ⟨rfl, hb22⟩
  have HB22 : Hid (Below w.heap.size w w22) := HB19.out.trans ((HBA.out.trans (hb22.mono HBA.out.size)).mono HB19.out.size)
  clear hbA HBA hb22
  have hd1 : decide (([1, 1, 0] : List Int) = [1, 1, 0]) = true := decide_eq_true rfl
  rw [hd1]
  clear hd1
  go_wp2
  go_ret
  exact ⟨rfl, HB22.out⟩

end Go.Proofs.YtfmcngncaffloaaGreatDoor
