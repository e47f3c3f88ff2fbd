import Derived.Test.YtfmcngncaffloaaGreatDoorG45OwP
import Derived.Test.YtfmcngncaffloaaGreatDoorG40QsE
import Derived.Test.YtfmcngncaffloaaGreatDoorG41CsB
import Derived.Test.YtfmcngncaffloaaGreatDoorG44OwN
import Derived.Deep.WholeRow
namespace Go.Proofs.YtfmcngncaffloaaGreatDoor
open Go.RowKit
set_option maxRecDepth 100000

set_option maxHeartbeats 800000 in
/-- Do, whatever the object's kind: there is nothing to be added. -/
theorem do_small (own : Clr) (c p : Nat) (R : Rp) (cg cc hp : Nat) (mv hv ev : Value) (hs : List Bm) (es : List Em) (op x y : Int) (k : Nat) (o : Ob) (w w0 : World) (eb ef : Addr) (hen : Env w0 w own eb ef) (h : RpIn w own c p R cg cc hp mv hv ev hs es) (h1 : R.st = 1) (hop : 1 ≤ op ∧ op ≤ 6) (sy : Sya) (hsy : (seeTo (pendB R) k o R.effs.length).answer op x y = sy) (hls : (sy.ds.length : Int) < Wv.rLeastD op) (hkd : (k : Int) % 4 = Wv.rKind op) (her : sy.err = 0)
    (hk : R.obs[k]? = some o) (hobs : R.obs.length = 8)
    (hl : R.clock.length ≤ 1000) (hn0 : 0 ≤ R.n) (hn1 : R.n < R.clock.length) (hs0 : ∀ z ∈ R.clock, 0 ≤ z ∧ z ≤ 1000000) (ht0 : 0 ≤ R.time) (ht1 : R.time ≤ 1000000000)
    (N : Nat) (hN : N + R.effs.length ≤ 100000) (hbd : o.bound N) (hval : ∀ e ∈ R.effs, -1000 ≤ e.va ∧ e.va ≤ 1000 ∧ e.dots.length ≤ 1048576) :
    Calls Tryz.prog 43 #[.pointer (some ⟨p, 0, none⟩), I op, I k, I x, I y] w fun e w' => e = .returned (I 0) ∧ Below w.heap.size w w' := by
  have HLS : Hid ((sy.ds.length : Int) < Wv.rLeastD op) := hls
  clear hls
  have HRW : Hid (RpIn w own c p R cg cc hp mv hv ev hs es) := h
  have c1 : w.cell? ⟨p, 1, none⟩ = some (I R.st) := h.blk.cell 1
  have hb : (R.st == 1) = true := by simp [h1]
  have HC : Hid (Calls Tryz.prog 66 #[.pointer (some ⟨p, 0, none⟩), I k] w fun e w' => SeeOk own (seeTo (pendB R) k o R.effs.length) w e w') := see_yes own c p R cg cc hp mv hv ev hs es k o w h hk hobs hl hn0 hn1 hs0 ht0 ht1 N hN hbd hval
  have HEN : Hid (Env w0 w own eb ef) := hen
  have HOP : Hid (1 ≤ op ∧ op ≤ 6) := hop
  have hA1 : (0 : Int) ≤ k := by omega
  have hA2 : (k : Int) ≤ 7 := by
    obtain ⟨h, _⟩ := List.getElem?_eq_some_iff.1 hk
    omega
  have hB : (Wv.rKind op != (k : Int) % 4) = false := by simpa using hkd.symm
  have HSM : Hid ((seeTo (pendB R) k o R.effs.length).bound 100000) := Ob.bound_mono (see_bound (b := pendB R) hbd hval R.effs.length (Nat.le_refl _)) hN
  have HSY : Hid ((seeTo (pendB R) k o R.effs.length).answer op x y = sy) := hsy
  have HER : Hid (sy.err = 0) := her
  clear h h1 hen hk hobs hl hn0 hn1 hs0 ht0 ht1 hN hbd hval hop hkd her hsy
  generalize seeTo (pendB R) k o R.effs.length = o2 at *
  go_enter Tryz.func43, Tryz.ntmps43
  go_wp2_with fail
  refine HC.out.mono ?_
  rintro e w1 ⟨v, d, own', rfl, hE, hO, hB⟩
  have HB : Hid (Below w.heap.size w w1) := hB
  obtain ⟨tw, pw, hvf⟩ := ObAt.face hO
  subst hvf
  have HO : Hid (ObAt w1 own' d (.iface tw pw) o2) := hO
  clear hE hO hB HC
  go_wp2_with fail
  refine (ruleof_yes op w1 eb ef (HEN.out.below HB.out) HOP.out).mono ?_
  rintro e w2 ⟨rfl, hB2⟩
  unfold ruleV
  have HBX : Hid (Below w1.heap.size w1 w2) := hB2
  have HB2 : Hid (Below w.heap.size w w2) := HB.out.trans (hB2.mono HB.out.size)
  clear hB2
  go_wp2_with fail
  go_quiet (first | (go_at_call 64; exact Calls.quiet_of_same (kindOf_any _ hA1 hA2 _)))
  obtain ⟨w3, hw3⟩ : ∃ w3, w3 = (w2.alloc (.cells #[I (Wv.rKind op), I (Wv.rLeast op), I (Wv.rGreat op), I (Wv.rRef op), I (Wv.rLeastD op), I (Wv.rMostD op)] 140)).drewN nq := ⟨_, rfl⟩
  have HB13 : Hid (Below w1.heap.size w1 w3) := by rw [hw3]; exact belowN (HBX.out.alloc HBX.out.size _) nq
  have HRU3 : Hid (Blk w3 w2.heap.size #[I (Wv.rKind op), I (Wv.rLeast op), I (Wv.rGreat op), I (Wv.rRef op), I (Wv.rLeastD op), I (Wv.rMostD op)] 140) := by rw [hw3]; exact heap_alloc_new w2 _
  change Exit.then _ _ Exit.normal _ ((w2.alloc (.cells #[I (Wv.rKind op), I (Wv.rLeast op), I (Wv.rGreat op), I (Wv.rRef op), I (Wv.rLeastD op), I (Wv.rMostD op)] 140)).drewN nq)
  rw [← hw3]
  clear hw3
  have HO3 : Hid (ObAt w3 own' d (.iface tw pw) o2) := HO.out.keep (fun b hl _ => HB13.out.block b hl) (Ext.refl _ _)
  go_wp2_with (first
    | (refine wpList_invoke_answer rfl _ _ _ _ _ rfl (.iface tw pw) o2 op x y own' d (by simp [Act.eval]) (by simp [Act.eval]) (by simp [Act.eval]) (by simp [Act.eval]) HO3.out HSM.out ?_; rw [HSY.out]; intro a1 c1 w4 hA4 hq4 hB4; have HA4 : Hid (At w4 a1 (flat dotCells sy.ds)) := hA4; have HQ4 : Hid (∀ p, a1 = some p → w3.heap.size ≤ p.block) := hq4; have HB4 : Hid (Below w3.heap.size w3 w4) := hB4; clear hB4 hA4 hq4; rw [HER.out]; have HRU4 : Hid (Blk w4 w2.heap.size #[I (Wv.rKind op), I (Wv.rLeast op), I (Wv.rGreat op), I (Wv.rRef op), I (Wv.rLeastD op), I (Wv.rMostD op)] 140) := HRU3.out.kept HB4.out HRU3.out.lt; have hlt4 : w2.heap.size < w4.heap.size := HRU4.out.lt; have r0 : w4.cell? ⟨w2.heap.size, 0, none⟩ = some (I (Wv.rKind op)) := HRU4.out.cell 0; have r1 : w4.cell? ⟨w2.heap.size, 1, none⟩ = some (I (Wv.rLeast op)) := HRU4.out.cell 1; have r2 : w4.cell? ⟨w2.heap.size, 2, none⟩ = some (I (Wv.rGreat op)) := HRU4.out.cell 2; have r3 : w4.cell? ⟨w2.heap.size, 3, none⟩ = some (I (Wv.rRef op)) := HRU4.out.cell 3; have r4 : w4.cell? ⟨w2.heap.size, 4, none⟩ = some (I (Wv.rLeastD op)) := HRU4.out.cell 4; have r5 : w4.cell? ⟨w2.heap.size, 5, none⟩ = some (I (Wv.rMostD op)) := HRU4.out.cell 5)
    | fail)
  have hB3 : Below w.heap.size w w3 := HB.out.trans (HB13.out.mono HB.out.size)
  have hB4 : Below w.heap.size w w4 := hB3.trans (HB4.out.mono hB3.size)
  have HB5 : Hid (Below w.heap.size w (w4.alloc (.cells (efC ⟨syE op k sy, a1, c1⟩) 149))) := hB4.alloc hB4.size _
  clear hB3 hB4
  refine (add_small p ⟨syE op k sy, a1, c1⟩ (Wv.rKind op) (Wv.rLeast op) (Wv.rGreat op) (Wv.rRef op) (Wv.rLeastD op) (Wv.rMostD op) (w4.alloc (.cells (efC ⟨syE op k sy, a1, c1⟩) 149)) HLS.out).mono ?_
  rintro e w6 ⟨rfl, hA⟩
  have HA : Hid (Below w.heap.size w w6) := HB5.out.trans (hA.mono HB5.out.size)
  clear hA HB5
  go_wp2
  go_ret
  exact ⟨rfl, HA.out⟩
set_option maxHeartbeats 800000 in
theorem wdo_small (own : Clr) (s rg cc pp ch : Nat) (pv : Value) (prs : List Nat) (S : Sto) (r : Nat) (R : Rp) (op x y : Int) (k : Nat) (o : Ob) (w w0 : World) (eb ef : Addr) (hen : Env w0 w own eb ef) (h : StIn w own s rg cc pp ch pv prs S) (hR : S.reps[r]? = some R) (hup : Rup R) (h1 : R.st = 1) (hop : 1 ≤ op ∧ op ≤ 6) (hls : (((seeTo (pendB R) k o R.effs.length).answer op x y).ds.length : Int) < Wv.rLeastD op) (hkd : (k : Int) % 4 = Wv.rKind op) (her : ((seeTo (pendB R) k o R.effs.length).answer op x y).err = 0) (hk : R.obs[k]? = some o) :
    Calls Tryz.prog 18 #[.pointer (some ⟨s, 0, none⟩), I r, I op, I k, I x, I y] w fun e w' => e = .returned (I 0) ∧ StOk w0 w own s S eb ef w' := by
  obtain ⟨hr, cg, cc', hp, mv, hv, ev, hs, es, hrp⟩ := h.prl hR
  have HU : Hid (Calls Tryz.prog 39 #[.pointer (some ⟨s, 0, none⟩), I r] w fun e w' => e = .returned (.tuple #[.pointer (some ⟨prs[r], 0, none⟩), I 0]) ∧ w' = w) := sup_yes own s rg cc pp ch pv prs S r hr R hR hup.up w h
  have HC : Hid (Calls Tryz.prog 43 #[.pointer (some ⟨prs[r], 0, none⟩), I op, I k, I x, I y] w fun e w' => e = .returned (I 0) ∧ StOk w0 w own s S eb ef w') := (do_small own (1 + 11 * r) prs[r] R cg cc' hp mv hv ev hs es op x y k o w w0 eb ef hen hrp h1 hop _ rfl hls hkd her hk hup.ok.obs8 hup.hl hup.n0 hup.n1 hup.hs0 hup.ok.time0 hup.ht1 (5 * sumN R.clock) hup.hN (hup.ok.bd o (List.mem_of_getElem? hk)) hup.hv).mono (fun e w' hh => ⟨hh.1, StOk.below h hen hh.2⟩)
  clear h hrp hup hen hR her hk hls hkd hop h1
  generalize prs[r] = p at *
  go_enter Tryz.func18, Tryz.ntmps18
  go_wp2_with fail
  refine HU.out.mono ?_
  rintro e w1 ⟨rfl, hw1⟩
  subst hw1
  go_wp2_with fail
  refine HC.out.mono ?_
  rintro e w2 ⟨rfl, h2⟩
  have HE : Hid (StOk w0 w1 own s S eb ef w2) := h2
  clear h2
  go_wp2
  go_ret
  exact ⟨rfl, HE.out⟩
set_option maxHeartbeats 1600000 in
theorem wcommit_any (own : Clr) (s rg cc pp ch : Nat) (pv : Value) (prs : List Nat) (S : Sto) (r : Nat) (R : Rp) (w w0 : World) (eb ef : Addr) (hI : ItoaSaid) (hen : Env w0 w own eb ef) (h : StIn w own s rg cc pp ch pv prs S) (hR : S.reps[r]? = some R) (hup : Rup R) (h1 : R.st = 1) (he : R.effs ≠ []) (hisb : Wv.isB (pendB R) = true) :
    Calls Tryz.prog 21 #[.pointer (some ⟨s, 0, none⟩), I r] w fun e w' => e = .returned (.tuple #[I (pendB R).s, I 0]) ∧ StOk w0 w own s ⟨S.reps.set r (commitS R), sprA S.msgs r (Wv.frameB (pendB R)) S.reps.length⟩ eb ef w' := by
  obtain ⟨hr, cg, cc', hp, mv, hv, ev, hs, es, hrp⟩ := h.prl hR
  have HU : Hid (Calls Tryz.prog 39 #[.pointer (some ⟨s, 0, none⟩), I r] w fun e w' => e = .returned (.tuple #[.pointer (some ⟨prs[r], 0, none⟩), I 0]) ∧ w' = w) := sup_yes own s rg cc pp ch pv prs S r hr R hR hup.up w h
  have hhs : hs.length ≤ 1000 := by have := hup.ok.most; rw [hrp.heldB, List.length_map] at this; omega
  have hlg : R.log.length + (Wv.frameB (pendB R)).length ≤ 100000000 := by have := hup.ok.logl; have := hup.ok.sum; have := frameB_short hisb; omega
  have hcm : commitR R ((takeP lessM (fun m => likeB (pendB R) m.b) hs).2.map (·.b)) = commitS R := by
    unfold commitS
    rw [hrp.heldB, takeM_map (likeB (pendB R)) hs]
  have HC : Hid (Calls Tryz.prog 46 #[.pointer (some ⟨prs[r], 0, none⟩)] w fun e w' => e = .returned (.tuple #[I (pendB R).s, .string ⟨(Wv.frameB (pendB R)).toArray⟩, I 0]) ∧ StOk w0 w own s { S with reps := S.reps.set r (commitS R) } eb ef w') := (commit_some own (1 + 11 * r) prs[r] R cg cc' hp mv hv ev hs es w w0 eb ef hI hen (by omega) hrp h1 he hup.hl hup.n0 hup.n1 hup.hs0 hup.ok.time0 hup.ht1 hisb hhs hlg hup.ok.obs8 (5 * sumN R.clock) hup.hN hup.ok.bd hup.ev).mono (fun e w' hh => ⟨hh.1, StOk.rep h hen r hr (by rw [← hcm]; exact ROk.cm hh.2)⟩)
  have hpos : (0 : Int) < (pendB R).s := by have := (isB_parts hisb).2.2.2.1; omega
  clear h hrp hup hen hR hcm hhs hlg h1 he hisb
  generalize prs[r] = p at *
  generalize hSQ : (pendB R).s = sq at *
  generalize commitS R = R' at *
  obtain ⟨fr, HF⟩ : ∃ fr, Hid (Wv.frameB (pendB R) = fr) := ⟨_, rfl⟩
  rw [HF.out] at HC ⊢
  clear hSQ
  go_enter Tryz.func21, Tryz.ntmps21
  go_wp2_with fail
  refine HU.out.mono ?_
  rintro e w1 ⟨rfl, hw1⟩
  subst hw1
  go_wp2_with fail
  refine HC.out.mono ?_
  rintro e w2 ⟨rfl, h2⟩
  obtain ⟨own2, rg2, cc2, pp2, ch2, pv2, prs2, hE2, hS2, hen2, hT2⟩ := h2
  have HS2 : Hid (StIn w2 own2 s rg2 cc2 pp2 ch2 pv2 prs2 { S with reps := S.reps.set r R' }) := hS2
  have HEN2 : Hid (Env w0 w2 own2 eb ef) := hen2
  have HE2 : Hid (Ext own own2 w1.heap.size) := hE2
  have HT2 : Hid (Tch (fun k => 1 ≤ own k ∧ own k ≤ 100) w1 w2) := hT2
  clear hE2 hS2 hen2 hT2 HC HU
  go_wp2_with fail
  refine (wspread_any own2 s rg2 cc2 pp2 ch2 pv2 prs2 { S with reps := S.reps.set r R' } r fr w2 w0 eb ef HEN2.out HS2.out).mono ?_
  rintro e w3 ⟨rfl, h3⟩
  have HE : Hid (StOk w0 w1 own s ⟨S.reps.set r R', sprA S.msgs r fr S.reps.length⟩ eb ef w3) := by
    have h4 := StOk.from HE2.out HT2.out h3
    have e : (S.reps.set r R').length = S.reps.length := List.length_set
    rw [show sprA S.msgs r fr ({ S with reps := S.reps.set r R' } : Sto).reps.length = sprA S.msgs r fr S.reps.length from by rw [← e]] at h4
    exact h4
  clear h3
  go_wp2
  go_ret2
  exact ⟨rfl, HE.out⟩
set_option maxHeartbeats 800000 in
theorem wabort_any (own : Clr) (s rg cc pp ch : Nat) (pv : Value) (prs : List Nat) (S : Sto) (r : Nat) (R : Rp) (w w0 : World) (eb ef : Addr) (hen : Env w0 w own eb ef) (h : StIn w own s rg cc pp ch pv prs S) (hR : S.reps[r]? = some R) (hup : Rup R) :
    Calls Tryz.prog 20 #[.pointer (some ⟨s, 0, none⟩), I r] w fun e w' => e = .returned (I (abortR R).2) ∧ StOk w0 w own s { S with reps := S.reps.set r (abortR R).1 } eb ef w' := by
  obtain ⟨hr, cg, cc', hp, mv, hv, ev, hs, es, hrp⟩ := h.prl hR
  have HU : Hid (Calls Tryz.prog 39 #[.pointer (some ⟨s, 0, none⟩), I r] w fun e w' => e = .returned (.tuple #[.pointer (some ⟨prs[r], 0, none⟩), I 0]) ∧ w' = w) := sup_yes own s rg cc pp ch pv prs S r hr R hR hup.up w h
  have HC : Hid (Calls Tryz.prog 45 #[.pointer (some ⟨prs[r], 0, none⟩)] w fun e w' => e = .returned (I (abortR R).2) ∧ StOk w0 w own s { S with reps := S.reps.set r (abortR R).1 } eb ef w') := (rabort_any own (1 + 11 * r) prs[r] R cg cc' hp mv hv ev hs es w (by omega) hrp).mono (fun e w' hh => by
    obtain ⟨he, ev', es', hS⟩ := hh
    exact ⟨he, StOk.rep h hen r hr (ROk.self hrp.own1 hS)⟩)
  clear h hrp hup hen hR
  generalize prs[r] = p at *
  generalize (abortR R).2 = z at *
  generalize (abortR R).1 = R' at *
  go_enter Tryz.func20, Tryz.ntmps20
  go_wp2_with fail
  refine HU.out.mono ?_
  rintro e w1 ⟨rfl, hw1⟩
  subst hw1
  go_wp2_with fail
  refine HC.out.mono ?_
  rintro e w2 ⟨rfl, h2⟩
  have HE : Hid (StOk w0 w1 own s { S with reps := S.reps.set r R' } eb ef w2) := h2
  clear h2
  go_wp2
  go_ret
  exact ⟨rfl, HE.out⟩
set_option maxHeartbeats 800000 in
theorem wcommit_none (own : Clr) (s rg cc pp ch : Nat) (pv : Value) (prs : List Nat) (S : Sto) (r : Nat) (R : Rp) (w w0 : World) (eb ef : Addr) (hen : Env w0 w own eb ef) (h : StIn w own s rg cc pp ch pv prs S) (hR : S.reps[r]? = some R) (hup : Rup R) (h1 : R.st = 1) (he : R.effs = []) :
    Calls Tryz.prog 21 #[.pointer (some ⟨s, 0, none⟩), I r] w fun e w' => e = .returned (.tuple #[I 0, I 0]) ∧ StOk w0 w own s { S with reps := S.reps.set r (endR R) } eb ef w' := by
  obtain ⟨hr, cg, cc', hp, mv, hv, ev, hs, es, hrp⟩ := h.prl hR
  have HU : Hid (Calls Tryz.prog 39 #[.pointer (some ⟨s, 0, none⟩), I r] w fun e w' => e = .returned (.tuple #[.pointer (some ⟨prs[r], 0, none⟩), I 0]) ∧ w' = w) := sup_yes own s rg cc pp ch pv prs S r hr R hR hup.up w h
  have HC : Hid (Calls Tryz.prog 46 #[.pointer (some ⟨prs[r], 0, none⟩)] w fun e w' => e = .returned (.tuple #[I 0, .string ⟨#[]⟩, I 0]) ∧ StOk w0 w own s { S with reps := S.reps.set r (endR R) } eb ef w') := (commit_none own (1 + 11 * r) prs[r] R cg cc' hp mv hv ev hs es w (by omega) hrp h1 he hup.hl hup.n0 hup.n1 hup.hs0 hup.ok.time0 hup.ht1).mono (fun e w' hh => ⟨hh.1, StOk.rep h hen r hr (ROk.cm hh.2)⟩)
  clear h hrp hup hen hR h1 he
  generalize prs[r] = p at *
  generalize endR R = R' at *
  go_enter Tryz.func21, Tryz.ntmps21
  go_wp2_with fail
  refine HU.out.mono ?_
  rintro e w1 ⟨rfl, hw1⟩
  subst hw1
  go_wp2_with fail
  refine HC.out.mono ?_
  rintro e w2 ⟨rfl, h2⟩
  have HE : Hid (StOk w0 w1 own s { S with reps := S.reps.set r R' } eb ef w2) := h2
  clear h2
  go_wp2
  go_ret2
  exact ⟨rfl, HE.out⟩
section
variable {w0 w : World} {eb ef : Addr} {s : Nat} {S : Sto} {P : Nat → Prop}
end

end Go.Proofs.YtfmcngncaffloaaGreatDoor

namespace Go.Proofs.YtfmcngncaffloaaGreatDoor
open Go.RowKit
set_option maxRecDepth 100000

/-- A store in memory; blocks of the law's own that nobody writes (P), and that the law writes (Q). -/
def Sz (w0 w : World) (eb ef : Addr) (s : Nat) (S : Sto) (P Q : Nat → Prop) : Prop := ∃ own rg cc pp ch pv prs, StIn w own s rg cc pp ch pv prs S ∧ Env w0 w own eb ef ∧ (∀ g, P g → own g = 0 ∧ g < w.heap.size) ∧ (∀ g, Q g → own g = 700 ∧ g < w.heap.size)
def Szy (w0 w : World) (eb ef : Addr) (s : Nat) (S : Sto) (P Q : Nat → Prop) (w' : World) : Prop := Sz w0 w' eb ef s S P Q ∧ ∀ g, P g ∨ Q g → w'.heap[g]? = w.heap[g]?
section
variable {w0 w w' : World} {eb ef : Addr} {s : Nat} {S : Sto} {P Q : Nat → Prop}
theorem StOk.sz {own : Clr} (h : StOk w0 w own s S eb ef w') (hp : ∀ g, P g → own g = 0 ∧ g < w.heap.size) (hq : ∀ g, Q g → own g = 700 ∧ g < w.heap.size) : Szy w0 w eb ef s S P Q w' := by
  obtain ⟨own', rg, cc, pp, ch, pv, prs, hE, hS, hen, hT⟩ := h
  refine ⟨⟨own', rg, cc, pp, ch, pv, prs, hS, hen, fun g hg => ?_, fun g hg => ?_⟩, fun g hg => ?_⟩
  · obtain ⟨h1, h2⟩ := hp g hg
    exact ⟨(hE g h2).trans h1, Nat.lt_of_lt_of_le h2 hT.size⟩
  · obtain ⟨h1, h2⟩ := hq g hg
    exact ⟨(hE g h2).trans h1, Nat.lt_of_lt_of_le h2 hT.size⟩
  · rcases hg with hg | hg
    · obtain ⟨h1, h2⟩ := hp g hg
      exact hT.block g h2 (by rw [h1]; omega)
    · obtain ⟨h1, h2⟩ := hq g hg
      exact hT.block g h2 (by rw [h1]; omega)
theorem Sz.lt (h : Sz w0 w eb ef s S P Q) {g : Nat} (hg : P g ∨ Q g) : g < w.heap.size := by
  obtain ⟨own, rg, cc, pp, ch, pv, prs, hS, hen, hp, hq⟩ := h
  rcases hg with hg | hg
  · exact (hp g hg).2
  · exact (hq g hg).2
theorem Sz.ne (h : Sz w0 w eb ef s S P Q) {g p : Nat} (hg : P g) (hp : Q p) : g ≠ p := by
  obtain ⟨own, rg, cc, pp, ch, pv, prs, hS, hen, h1, h2⟩ := h
  rintro rfl
  have e1 := (h1 g hg).1
  have e2 := (h2 g hp).1
  omega
theorem Sz.bel (h : Sz w0 w eb ef s S P Q) : Below w0.heap.size w0 w := by
  obtain ⟨own, rg, cc, pp, ch, pv, prs, hS, hen, hp, hq⟩ := h
  exact hen.bel
theorem Sz.sx (h : Sz w0 w eb ef s S P Q) : Sx w0 w eb ef s S P := by
  obtain ⟨own, rg, cc, pp, ch, pv, prs, hS, hen, hp, hq⟩ := h
  exact ⟨own, rg, cc, pp, ch, pv, prs, hS, hen, hp⟩
/-- The law writes blocks of its own, and makes new ones. -/
theorem Sz.own (h : Sz w0 w eb ef s S P Q) (hT : Tch Q w w') : Sz w0 w' eb ef s S (fun g => P g ∨ (w.heap.size ≤ g ∧ g < w'.heap.size)) Q := by
  obtain ⟨own, rg, cc, pp, ch, pv, prs, hS, hen, hp, hq⟩ := h
  have he := newTo_ext own w.heap.size 0
  have hsame : ∀ b, b < w.heap.size → own b ≠ 700 → w'.heap[b]? = w.heap[b]? := fun b hb hne => hT.block b hb (fun hQ => hne (hq b hQ).1)
  have hSm : ∀ d, d ≠ 700 → Same own d w w' := fun d hd b hl hb => hsame b hl (by rw [hb]; exact hd)
  have hr := hS.rlt
  refine ⟨newTo own w.heap.size 0, rg, cc, pp, ch, pv, prs, ⟨(hsame s hS.blk.lt (by rw [hS.own1]; omega)).trans hS.blk, fun r h1 => cell_same (hS.row r h1) (hsame rg hr (by rw [hS.own2]; omega)), hS.len, hS.most, hS.least, (he s hS.blk.lt).trans hS.own1, (he rg hr).trans hS.own2, fun r h1 h2 => (hS.reps r h1 h2).keep (hSm 0 (by omega)) (fun d hd1 hd2 => hSm d (by have := hS.most; have := hS.len; omega)) he, hS.post.keep (hSm 100 (by omega)) he⟩, hen.tch (F := Q) hT (fun k hk hQ => by have := (hq k hQ).1; omega) he, fun g hg => ?_, fun g hg => ?_⟩
  · rcases hg with hg | hg
    · obtain ⟨h1, h2⟩ := hp g hg
      exact ⟨(newTo_same _ _ _ _ h2).trans h1, Nat.lt_of_lt_of_le h2 hT.size⟩
    · exact ⟨newTo_new _ _ _ _ hg.1, hg.2⟩
  · obtain ⟨h1, h2⟩ := hq g hg
    exact ⟨(newTo_same _ _ _ _ h2).trans h1, Nat.lt_of_lt_of_le h2 hT.size⟩
theorem Sz.news (h : Sz w0 w eb ef s S P Q) (hb : Below w.heap.size w w') : Sz w0 w' eb ef s S (fun g => P g ∨ (w.heap.size ≤ g ∧ g < w'.heap.size)) Q := h.own (Tch.below hb)
/-- A new block of the second kind. -/
theorem Sz.alloc (h : Sz w0 w eb ef s S P Q) (o : Obj) : Sz w0 (w.alloc o) eb ef s S P (fun g => Q g ∨ g = w.heap.size) := by
  obtain ⟨own, rg, cc, pp, ch, pv, prs, hS, hen, hp, hq⟩ := h
  have hb : Below w.heap.size w (w.alloc o) := (Below.refl _ _).alloc (Nat.le_refl _) _
  have he := newTo_ext own w.heap.size 700
  have hsm : ∀ d, Same own d w (w.alloc o) := fun d b hl _ => hb.block b hl
  have hr := hS.rlt
  refine ⟨newTo own w.heap.size 700, rg, cc, pp, ch, pv, prs, ⟨hS.blk.kept hb hS.blk.lt, fun r hr => cell_kept hb (hS.row r hr), hS.len, hS.most, hS.least, (he s hS.blk.lt).trans hS.own1, (he rg hr).trans hS.own2, fun r h1 h2 => (hS.reps r h1 h2).keep (hsm 0) (fun d _ _ => hsm d) he, hS.post.keep (hsm 100) he⟩, hen.tch (F := fun _ => False) (Tch.below hb) (fun _ _ h => h) he, fun g hg => ?_, fun g hg => ?_⟩
  · obtain ⟨h1, h2⟩ := hp g hg
    exact ⟨(newTo_same _ _ _ _ h2).trans h1, by simp; omega⟩
  · rcases hg with hg | rfl
    · obtain ⟨h1, h2⟩ := hq g hg
      exact ⟨(newTo_same _ _ _ _ h2).trans h1, by simp; omega⟩
    · exact ⟨newTo_new _ _ _ _ (Nat.le_refl _), by simp⟩
theorem Sx.toSz (h : Sx w0 w eb ef s S P) : Sz w0 w eb ef s S P (fun _ => False) := by
  obtain ⟨own, rg, cc, pp, ch, pv, prs, hS, hen, hp⟩ := h
  exact ⟨own, rg, cc, pp, ch, pv, prs, hS, hen, hp, fun _ h => h.elim⟩
theorem z_begin (h : Sz w0 w eb ef s S P Q) (r : Nat) (R : Rp) (hR : S.reps[r]? = some R) (hup : Rup R) :
    Calls Tryz.prog 16 #[.pointer (some ⟨s, 0, none⟩), I r] w fun e w' => e = .returned (I (beginR R).2) ∧ Szy w0 w eb ef s { S with reps := S.reps.set r (beginR R).1 } P Q w' := by
  obtain ⟨own, rg, cc, pp, ch, pv, prs, hS, hen, hp, hq⟩ := h
  exact (wbegin_any own s rg cc pp ch pv prs S r R w w0 eb ef hen hS hR hup).mono (fun e w' hh => ⟨hh.1, hh.2.sz hp hq⟩)
theorem z_abort (h : Sz w0 w eb ef s S P Q) (r : Nat) (R : Rp) (hR : S.reps[r]? = some R) (hup : Rup R) :
    Calls Tryz.prog 20 #[.pointer (some ⟨s, 0, none⟩), I r] w fun e w' => e = .returned (I (abortR R).2) ∧ Szy w0 w eb ef s { S with reps := S.reps.set r (abortR R).1 } P Q w' := by
  obtain ⟨own, rg, cc, pp, ch, pv, prs, hS, hen, hp, hq⟩ := h
  exact (wabort_any own s rg cc pp ch pv prs S r R w w0 eb ef hen hS hR hup).mono (fun e w' hh => ⟨hh.1, hh.2.sz hp hq⟩)
theorem z_do_put (h : Sz w0 w eb ef s S P Q) (r : Nat) (R : Rp) (op x y : Int) (k : Nat) (o : Ob) (hR : S.reps[r]? = some R) (hup : Rup R) (h1 : R.st = 1) (hop : 1 ≤ op ∧ op ≤ 6) (hn5 : R.effs.length < 5) (hls : ¬ (((seeTo (pendB R) k o R.effs.length).answer op x y).ds.length : Int) < Wv.rLeastD op) (hms : ¬ (((seeTo (pendB R) k o R.effs.length).answer op x y).ds.length : Int) > Wv.rMostD op) (hkd : (k : Int) % 4 = Wv.rKind op) (her : ((seeTo (pendB R) k o R.effs.length).answer op x y).err = 0) (hk : R.obs[k]? = some o) :
    Calls Tryz.prog 18 #[.pointer (some ⟨s, 0, none⟩), I r, I op, I k, I x, I y] w fun e w' => e = .returned (I 0) ∧ Szy w0 w eb ef s { S with reps := S.reps.set r (putR R op k x y o) } P Q w' := by
  obtain ⟨own, rg, cc, pp, ch, pv, prs, hS, hen, hp, hq⟩ := h
  exact (wdo_put own s rg cc pp ch pv prs S r R op x y k o w w0 eb ef hen hS hR hup h1 hop hn5 hls hms hkd her hk).mono (fun e w' hh => ⟨hh.1, hh.2.sz hp hq⟩)
theorem z_do_small (h : Sz w0 w eb ef s S P Q) (r : Nat) (R : Rp) (op x y : Int) (k : Nat) (o : Ob) (hR : S.reps[r]? = some R) (hup : Rup R) (h1 : R.st = 1) (hop : 1 ≤ op ∧ op ≤ 6) (hls : (((seeTo (pendB R) k o R.effs.length).answer op x y).ds.length : Int) < Wv.rLeastD op) (hkd : (k : Int) % 4 = Wv.rKind op) (her : ((seeTo (pendB R) k o R.effs.length).answer op x y).err = 0) (hk : R.obs[k]? = some o) :
    Calls Tryz.prog 18 #[.pointer (some ⟨s, 0, none⟩), I r, I op, I k, I x, I y] w fun e w' => e = .returned (I 0) ∧ Szy w0 w eb ef s S P Q w' := by
  obtain ⟨own, rg, cc, pp, ch, pv, prs, hS, hen, hp, hq⟩ := h
  exact (wdo_small own s rg cc pp ch pv prs S r R op x y k o w w0 eb ef hen hS hR hup h1 hop hls hkd her hk).mono (fun e w' hh => ⟨hh.1, hh.2.sz hp hq⟩)
theorem z_commit (hI : ItoaSaid) (h : Sz w0 w eb ef s S P Q) (r : Nat) (R : Rp) (hR : S.reps[r]? = some R) (hup : Rup R) (h1 : R.st = 1) (he : R.effs ≠ []) (hisb : Wv.isB (pendB R) = true) :
    Calls Tryz.prog 21 #[.pointer (some ⟨s, 0, none⟩), I r] w fun e w' => e = .returned (.tuple #[I (pendB R).s, I 0]) ∧ Szy w0 w eb ef s ⟨S.reps.set r (commitS R), sprA S.msgs r (Wv.frameB (pendB R)) S.reps.length⟩ P Q w' := by
  obtain ⟨own, rg, cc, pp, ch, pv, prs, hS, hen, hp, hq⟩ := h
  exact (wcommit_any own s rg cc pp ch pv prs S r R w w0 eb ef hI hen hS hR hup h1 he hisb).mono (fun e w' hh => ⟨hh.1, hh.2.sz hp hq⟩)
theorem z_commit_none (h : Sz w0 w eb ef s S P Q) (r : Nat) (R : Rp) (hR : S.reps[r]? = some R) (hup : Rup R) (h1 : R.st = 1) (he : R.effs = []) :
    Calls Tryz.prog 21 #[.pointer (some ⟨s, 0, none⟩), I r] w fun e w' => e = .returned (.tuple #[I 0, I 0]) ∧ Szy w0 w eb ef s { S with reps := S.reps.set r (endR R) } P Q w' := by
  obtain ⟨own, rg, cc, pp, ch, pv, prs, hS, hen, hp, hq⟩ := h
  exact (wcommit_none own s rg cc pp ch pv prs S r R w w0 eb ef hen hS hR hup h1 he).mono (fun e w' hh => ⟨hh.1, hh.2.sz hp hq⟩)
end
/-- The law's state: the store, the replica's models (nR, dR), the models in memory (nM, dM). -/
structure OwW (w0 w : World) (eb ef : Addr) (s pN pD n r seq size : Nat) (st : Int) (cN cD : Array Value) (nR dR nM dM : Md) : Prop where
  ex : ∃ P Q S R, Sz w0 w eb ef s S P Q ∧ S.reps.length = n ∧ S.reps[r]? = some R ∧ OwR n r seq R nR dR ∧ R.st = st ∧ R.effs.length ≤ size ∧ Q pN ∧ Q pD ∧ MdIn P cN ∧ MdIn P cD
  bN : Blk w pN cN 37
  bD : Blk w pD cD 37
  mN : MdCs w cN nM
  mD : MdCs w cD dM
  ne : pN ≠ pD
  okN : MdOk nM
  okD : MdOk dM
section
variable {w0 w : World} {eb ef : Addr} {s pN pD n r seq size : Nat} {st : Int} {cN cD : Array Value} {nR dR nM dM : Md}
theorem set_len {S : Sto} {r n : Nat} {R' : Rp} (hn : S.reps.length = n) : (S.reps.set r R').length = n := by rw [List.length_set]; exact hn
theorem set_at {S : Sto} {r : Nat} {R R' : Rp} (hR : S.reps[r]? = some R) : (S.reps.set r R')[r]? = some R' := List.getElem?_set_self (List.getElem?_eq_some_iff.1 hR).1
/-- Behind a call of the store. -/
theorem OwW.after {w' : World} {S : Sto} {P Q : Nat → Prop} {R' : Rp} {seq' size' : Nat} {st' : Int} {nR' dR' : Md} (h : OwW w0 w eb ef s pN pD n r seq size st cN cD nR dR nM dM) (hz : Szy w0 w eb ef s S P Q w') (hn : S.reps.length = n) (hR : S.reps[r]? = some R') (hw : OwR n r seq' R' nR' dR') (hst : R'.st = st') (hl : R'.effs.length ≤ size') (q1 : Q pN) (q2 : Q pD) (i1 : MdIn P cN) (i2 : MdIn P cD) : OwW w0 w' eb ef s pN pD n r seq' size' st' cN cD nR' dR' nM dM :=
  ⟨⟨P, Q, S, R', hz.1, hn, hR, hw, hst, hl, q1, q2, i1, i2⟩, (hz.2 pN (.inr q1)).trans h.bN, (hz.2 pD (.inr q2)).trans h.bD, h.mN.same i1 (fun g hg => hz.2 g (.inl hg)), h.mD.same i2 (fun g hg => hz.2 g (.inl hg)), h.ne, h.okN, h.okD⟩
theorem OwW.bel (h : OwW w0 w eb ef s pN pD n r seq size st cN cD nR dR nM dM) : Below w0.heap.size w0 w := by
  obtain ⟨P, Q, S, R, hz, _⟩ := h.ex
  exact hz.bel
theorem OwW.news {w' : World} (h : OwW w0 w eb ef s pN pD n r seq size st cN cD nR dR nM dM) (hb : Below w.heap.size w w') : OwW w0 w' eb ef s pN pD n r seq size st cN cD nR dR nM dM := by
  obtain ⟨P, Q, S, R, hz, hn, hR, hw, hst, hl, q1, q2, i1, i2⟩ := h.ex
  exact ⟨⟨_, Q, S, R, hz.news hb, hn, hR, hw, hst, hl, q1, q2, fun i hi p q n c e => .inl (i1 i hi p q n c e), fun i hi p q n c e => .inl (i2 i hi p q n c e)⟩, h.bN.kept hb h.bN.lt, h.bD.kept hb h.bD.lt, h.mN.kept hb, h.mD.kept hb, h.ne, h.okN, h.okD⟩
theorem o_begin (h : OwW w0 w eb ef s pN pD n r seq 0 0 cN cD nR dR nM dM) (hs : seq < 30) :
    Calls Tryz.prog 16 #[.pointer (some ⟨s, 0, none⟩), I r] w fun e w' => e = .returned (I 0) ∧ OwW w0 w' eb ef s pN pD n r seq 0 1 cN cD nR dR nM dM := by
  obtain ⟨P, Q, S, R, hz, hn, hR, hw, hst, hl, q1, q2, i1, i2⟩ := h.ex
  have hb : beginR R = ({ R with st := 1 }, 0) := by
    unfold beginR
    rw [hst, if_neg (by omega), hw.clk, hw.num, Int.toNat_natCast, owClk_at n r seq hw.rlt, if_neg (by omega)]
  have hc := z_begin hz r R hR (hw.up (by omega))
  rw [hb] at hc
  exact hc.mono (fun e w' hh => ⟨hh.1, h.after hh.2 (set_len hn) (set_at hR) (hw.same rfl rfl rfl rfl rfl rfl rfl) rfl hl q1 q2 i1 i2⟩)
theorem o_abort (h : OwW w0 w eb ef s pN pD n r seq size 1 cN cD nR dR nM dM) :
    Calls Tryz.prog 20 #[.pointer (some ⟨s, 0, none⟩), I r] w fun e w' => e = .returned (I 0) ∧ OwW w0 w' eb ef s pN pD n r seq 0 0 cN cD dR dR nM dM := by
  obtain ⟨P, Q, S, R, hz, hn, hR, hw, hst, hl, q1, q2, i1, i2⟩ := h.ex
  have hb : abortR R = (endR R, 0) := by unfold abortR; rw [if_pos hst]
  have hc := z_abort hz r R hR (hw.up (by omega))
  rw [hb] at hc
  exact hc.mono (fun e w' hh => ⟨hh.1, h.after hh.2 (set_len hn) (set_at hR) hw.abort rfl (by simp [endR]) q1 q2 i1 i2⟩)
theorem o_do (h : OwW w0 w eb ef s pN pD n r seq size 1 cN cD nR dR nM dM) (hs : seq < 30) (hz4 : size < 4) (op : Int) (ix : Nat) (x y : Int) (hc : Can nR op ix x y) :
    Calls Tryz.prog 18 #[.pointer (some ⟨s, 0, none⟩), I r, I op, I ((4 * ix + kOf op : Nat) : Int), I x, I y] w fun e w' => e = .returned (I 0) ∧ OwW w0 w' eb ef s pN pD n r seq (size + 1) 1 cN cD (nR.step op ix x y) dR nM dM := by
  obtain ⟨P, Q, S, R, hz, hn, hR, hw, hst, hl, q1, q2, i1, i2⟩ := h.ex
  obtain ⟨o, hk, her, hcase⟩ := hw.step hs (by omega) op ix x y hc
  have hop : op = 1 ∨ op = 2 ∨ op = 3 ∨ op = 4 ∨ op = 5 ∨ op = 6 := by have := hc.op1; have := hc.op6; omega
  have hkd : ((4 * ix + kOf op : Nat) : Int) % 4 = Wv.rKind op := by
    have : (kOf op : Int) = Wv.rKind op ∧ kOf op < 4 := by rcases hop with rfl | rfl | rfl | rfl | rfl | rfl <;> exact ⟨rfl, of_decide_eq_true rfl⟩
    omega
  rcases hcase with ⟨g1, g2⟩ | ⟨g1, g2, g3⟩
  · refine (z_do_small hz r R op x y (4 * ix + kOf op) o hR (hw.up (by omega)) hst ⟨hc.op1, hc.op6⟩ g1 hkd her hk).mono ?_
    rintro e w' ⟨rfl, hh⟩
    exact ⟨rfl, h.after hh hn hR g2 hst (by omega) q1 q2 i1 i2⟩
  · refine (z_do_put hz r R op x y (4 * ix + kOf op) o hR (hw.up (by omega)) hst ⟨hc.op1, hc.op6⟩ (by omega) g1 g2 hkd her hk).mono ?_
    rintro e w' ⟨rfl, hh⟩
    exact ⟨rfl, h.after hh (set_len hn) (set_at hR) g3 hst (by show (R.effs ++ [_]).length ≤ size + 1; rw [List.length_append]; show R.effs.length + 1 ≤ size + 1; omega) q1 q2 i1 i2⟩
theorem o_commit (hI : ItoaSaid) (h : OwW w0 w eb ef s pN pD n r seq size 1 cN cD nR dR nM dM) (hs : seq < 30) :
    Calls Tryz.prog 21 #[.pointer (some ⟨s, 0, none⟩), I r] w fun e w' => ∃ k : Nat, e = .returned (.tuple #[I k, I 0]) ∧ ((k = 0 ∧ OwW w0 w' eb ef s pN pD n r seq 0 0 cN cD nR nR nM dM) ∨ (k = seq + 1 ∧ OwW w0 w' eb ef s pN pD n r (seq + 1) 0 0 cN cD nR nR nM dM)) := by
  obtain ⟨P, Q, S, R, hz, hn, hR, hw, hst, hl, q1, q2, i1, i2⟩ := h.ex
  by_cases he : R.effs = []
  · refine (z_commit_none hz r R hR (hw.up (by omega)) hst he).mono ?_
    rintro e w' ⟨rfl, hh⟩
    exact ⟨0, rfl, .inl ⟨rfl, h.after hh (set_len hn) (set_at hR) (hw.none he) rfl (by simp [endR]) q1 q2 i1 i2⟩⟩
  · obtain ⟨g1, g2⟩ := hw.commit hs he
    refine (z_commit hI hz r R hR (hw.up (by omega)) hst he (hw.head hs he)).mono ?_
    rintro e w' ⟨rfl, hh⟩
    refine ⟨seq + 1, ?_, .inr ⟨rfl, h.after hh (set_len hn) (set_at hR) g1 g2 (by show 0 ≤ 0; omega) q1 q2 i1 i2⟩⟩
    rw [hw.bq.sq]
    rfl
theorem MdOk.step {m : Md} (hn : MdOk m) {op : Int} {ix : Nat} {x y : Int} (hc : Can m op ix x y) : MdOk (m.step op ix x y) := by
  have hop : op = 1 ∨ op = 2 ∨ op = 3 ∨ op = 4 ∨ op = 5 ∨ op = 6 := by have := hc.op1; have := hc.op6; omega
  have hix := hc.lt2
  rcases hop with rfl | rfl | rfl | rfl | rfl | rfl
  · exact ⟨by show (m.sums.set _ _).length = 2; rw [List.length_set]; exact hn.sums, hn.sets, hn.sets0, hn.regs, hn.lists⟩
  · refine ⟨hn.sums, by show (m.sets.set _ _).length = 2; rw [List.length_set]; exact hn.sets, fun l hq => ?_, hn.regs, hn.lists⟩
    rcases List.mem_or_eq_of_mem_set hq with hq | rfl
    · exact hn.sets0 l hq
    · rw [List.length_set]; exact marks_len hn ix hix
  · refine ⟨hn.sums, by show (m.sets.set _ _).length = 2; rw [List.length_set]; exact hn.sets, fun l hq => ?_, hn.regs, hn.lists⟩
    rcases List.mem_or_eq_of_mem_set hq with hq | rfl
    · exact hn.sets0 l hq
    · rw [List.length_set]; exact marks_len hn ix hix
  · exact ⟨hn.sums, hn.sets, hn.sets0, by show (m.regs.set _ _).length = 2; rw [List.length_set]; exact hn.regs, hn.lists⟩
  · exact ⟨hn.sums, hn.sets, hn.sets0, hn.regs, by show (m.lists.set _ _).length = 2; rw [List.length_set]; exact hn.lists⟩
  · exact ⟨hn.sums, hn.sets, hn.sets0, hn.regs, by show (m.lists.set _ _).length = 2; rw [List.length_set]; exact hn.lists⟩
theorem see_len {k : Nat} (hk : k < 8) {R : Rp} (hw : OwR n r seq R nR dR) (hs : seq ≤ 30) : (nR.listed k).length ≤ 1000 ∧ (k % 4 = 0 → -1000000 ≤ nR.sums.getD (k / 4) 0 ∧ nR.sums.getD (k / 4) 0 ≤ 1000000) ∧ (k % 4 = 3 → (nR.lists.getD (k / 4) []).length ≤ 1000) := by
  obtain ⟨o, h1, _, h2⟩ := hw.obs k hk
  have hb := see_bound (b := pendB R) (k := (k : Int)) (hw.ok.bd o (List.mem_of_getElem? h1)) (fun e he => by have := hw.ev e he; omega) R.effs.length (Nat.le_refl _)
  rw [hw.clk, owClk_sum n r seq hw.rlt] at hb
  have hel := hw.el
  have ht := h2.tells
  have hok := hw.now
  revert ht h2 hb
  generalize seeTo (pendB R) k o R.effs.length = v
  intro h2 hb ht
  rw [← ht]
  cases v with
  | counter z =>
    obtain ⟨q1, q2⟩ := h2
    obtain ⟨b1, b2⟩ := hb
    rw [q2] at b1 b2
    exact ⟨by show 1 ≤ 1000; omega, fun _ => ⟨by omega, by omega⟩, fun q => by omega⟩
  | set l =>
    obtain ⟨q1, _⟩ := h2
    have hb : l.length ≤ 5 * seq + R.effs.length := hb
    refine ⟨?_, fun q => by omega, fun q => by omega⟩
    show (compI (sortI (l.map (·.2)))).length ≤ 1000
    have h3 := compI_len (sortI (l.map (·.2)))
    have h4 := (sortI_perm (l.map (·.2))).length_eq
    rw [List.length_map] at h4
    omega
  | reg l =>
    obtain ⟨q1, _⟩ := h2
    have hb : l.length ≤ 5 * seq + R.effs.length := hb
    refine ⟨?_, fun q => by omega, fun q => by omega⟩
    show (rvals l).length ≤ 1000
    unfold rvals
    rw [List.length_map, sortD_len, List.length_map]
    omega
  | list l =>
    obtain ⟨q1, _, q3⟩ := h2
    have hb : l.length ≤ 5 * seq + R.effs.length := hb
    have h3 : (stands l).length ≤ l.length := List.length_filter_le _ _
    have h4 : ((stands l).map El.v).length ≤ 1000 := by rw [List.length_map]; omega
    exact ⟨h4, fun q => by omega, fun _ => by rw [← q3]; exact h4⟩
theorem OwR.small {R : Rp} (hw : OwR n r seq R nR dR) (hs : seq ≤ 30) : (∀ l ∈ nR.lists, l.length ≤ 1000) ∧ (∀ k, k < 8 → (nR.listed k).length ≤ 1000) ∧ (∀ i, i < 2 → -1000000 ≤ nR.sums.getD i 0 ∧ nR.sums.getD i 0 ≤ 1000000) ∧ (∀ i, i < 2 → (nR.lists.getD i []).length ≤ 1000) := by
  have h3 : ∀ i, i < 2 → (nR.lists.getD i []).length ≤ 1000 := fun i hi => by
    have := (see_len (k := 4 * i + 3) (by omega) hw hs).2.2 (by omega)
    rw [show (4 * i + 3) / 4 = i by omega] at this
    exact this
  refine ⟨fun l hl => ?_, fun k hk => (see_len hk hw hs).1, fun i hi => ?_, h3⟩
  · obtain ⟨i, hi, rfl⟩ := List.mem_iff_getElem.1 hl
    have h2 := hw.now.lists
    have e : nR.lists.getD i [] = nR.lists[i] := by simp [hi]
    rw [← e]
    exact h3 i (by omega)
  · have := (see_len (k := 4 * i) (by omega) hw hs).2.1 (by omega)
    rw [show (4 * i) / 4 = i by omega] at this
    exact this
theorem o_tells (h : OwW w0 w eb ef s pN pD n r seq size st cN cD nM dR nM dM) (hs : seq ≤ 30) (hst : st = 0 ∨ st = 1) :
    Calls Tryz.prog 19 #[.agg cN, .pointer (some ⟨s, 0, none⟩), I r] w fun e w' => e = .returned (.bool true) ∧ OwW w0 w' eb ef s pN pD n r seq size st cN cD nM dR nM dM := by
  obtain ⟨P, Q, S, R, hz, hn, hR, hw, hst', hl, q1, q2, i1, i2⟩ := h.ex
  obtain ⟨g1, g2, _, _⟩ := hw.small hs
  refine (tells_any cN nM s r w h.mN h.okN (fun l hl => Nat.le_trans (g1 l hl) (by omega)) (fun k hk => Nat.le_trans (g2 k hk) (by omega)) (fun w' k hb hk => ?_)).mono (fun e w' hh => ⟨hh.1, h.news hh.2⟩)
  obtain ⟨o, h1, h2⟩ := hw.see k hk
  exact x_readAll (hz.sx.below hb) r k R o _ hR (hw.up (by omega)) h1 h2
theorem o_act (h : OwW w0 w eb ef s pN pD n r seq size st cN cD nM dR nM dM) (hs : seq ≤ 30) (op ob x y z : Int)
    (b1 : -9223372036854775808 ≤ op ∧ op ≤ 9223372036854775807) (b2 : -9223372036854775808 ≤ ob ∧ ob ≤ 9223372036854775807) (b3 : -9223372036854775808 ≤ x ∧ x ≤ 9223372036854775807) (b4 : -9223372036854775808 ≤ y ∧ y ≤ 9223372036854775807) :
    Calls Tryz.prog 17 #[.pointer (some ⟨pN, 0, none⟩), .agg #[I op, I ob, I x, I y, I z]] w fun e w' => ∃ (opn : Int) (ix : Nat) (a b : Int) (so : Bool) (cN' : Array Value), e = .returned (.tuple #[.agg #[I opn, I ((4 * ix + kOf opn : Nat) : Int), I a, I b, I 0], .bool so]) ∧ (so = true → Can nM opn ix a b) ∧ OwW w0 w' eb ef s pN pD n r seq size st cN' cD nM dR (if so then nM.step opn ix a b else nM) dM := by
  obtain ⟨P, Q, S, R, hz, hn, hR, hw, hst, hl, q1, q2, i1, i2⟩ := h.ex
  obtain ⟨_, _, g3, g4⟩ := hw.small hs
  refine (act_any op ob x y z h.bN h.mN (fun i hi p q n c e => ⟨hz.ne (i1 i hi p q n c e) q1, hz.lt (.inl (i1 i hi p q n c e))⟩) h.okN (fun i hi => by have := g3 i hi; omega) (fun i hi => Nat.le_trans (g4 i hi) (by omega)) b1 b2 b3 b4).mono ?_
  rintro e w' ⟨opn, ix, a, b, so, cs', rfl, hcan, hT, hB, hM, hnew⟩
  have hTQ : Tch Q w w' := ⟨hT.os, hT.tape, hT.output, hT.size, fun k hk hn => hT.block k hk (fun e => hn (by rw [e]; exact q1))⟩
  refine ⟨opn, ix, a, b, so, cs', rfl, hcan, ⟨_, Q, S, R, hz.own hTQ, hn, hR, hw, hst, hl, q1, q2, fun i hi g q n c e => ?_, fun i hi p q n c e => .inl (i2 i hi p q n c e)⟩, hB, (hT.block pD h.bD.lt (fun e => h.ne e.symm)).trans h.bD, hM, ?_, h.ne, ?_, h.okD⟩
  · rcases hnew i hi g q n c e with e2 | e2
    · exact .inr e2
    · exact .inl (i1 i hi g q n c e2)
  · exact h.mD.same i2 (fun g hg => hT.block g (hz.lt (.inl hg)) (hz.ne hg q1))
  · cases so with
    | false => exact h.okN
    | true => exact h.okN.step (hcan rfl)
/-- A model in memory gets another one's cells. -/
theorem o_copyD (h : OwW w0 w eb ef s pN pD n r seq size st cN cD nR dM nM dM) (hl : ∀ l ∈ dM.lists, l.length ≤ 1000) :
    Calls Tryz.prog 15 #[.agg cD] w fun e w' => ∃ cs', e = .returned (.agg cs') ∧ OwW w0 w' eb ef s pN pD n r seq size st cN cD nR dM nM dM ∧ MdCs w' cs' dM ∧ MdIn (fun g => w.heap.size ≤ g ∧ g < w'.heap.size) cs' ∧ Below w.heap.size w w' :=
  (copied_any cD dM w h.mD h.okD (fun l hq => Nat.le_trans (hl l hq) (by omega))).mono (by
    rintro e w' ⟨cs', rfl, g1, g2, g3⟩
    exact ⟨cs', rfl, h.news g3, g1, g2, g3⟩)
theorem o_copyN (h : OwW w0 w eb ef s pN pD n r seq size st cN cD nM dR nM dM) (hs : seq ≤ 30) :
    Calls Tryz.prog 15 #[.agg cN] w fun e w' => ∃ cs', e = .returned (.agg cs') ∧ OwW w0 w' eb ef s pN pD n r seq size st cN cD nM dR nM dM ∧ MdCs w' cs' nM ∧ MdIn (fun g => w.heap.size ≤ g ∧ g < w'.heap.size) cs' ∧ Below w.heap.size w w' := by
  obtain ⟨P, Q, S, R, hz, hn, hR, hw, hst, hl, q1, q2, i1, i2⟩ := h.ex
  obtain ⟨g1, _, _, _⟩ := hw.small hs
  refine (copied_any cN nM w h.mN h.okN (fun l hq => Nat.le_trans (g1 l hq) (by omega))).mono ?_
  rintro e w' ⟨cs', rfl, g1, g2, g3⟩
  exact ⟨cs', rfl, h.news g3, g1, g2, g3⟩
end

end Go.Proofs.YtfmcngncaffloaaGreatDoor

namespace Go.Proofs.YtfmcngncaffloaaGreatDoor
open Go.RowKit
set_option maxRecDepth 100000

theorem tch_setRow {w : World} (p : Nat) (cs : Array Value) : Tch (fun k => k = p) w (w.setRow p cs) := ⟨rfl, rfl, rfl, by simp, fun k _ hn => setRow_other w p k cs hn⟩
section
variable {w0 w w' : World} {eb ef : Addr} {s pN pD n r seq size : Nat} {st : Int} {cN cD cs' : Array Value} {nR dR nM dM m' : Md}
theorem OwW.setN (h : OwW w0 w eb ef s pN pD n r seq size st cN cD nR dR nM dM) (hb : Below w.heap.size w w') (hm : MdCs w' cs' m') (hi : MdIn (fun g => w.heap.size ≤ g ∧ g < w'.heap.size) cs') (hok : MdOk m') : OwW w0 (w'.setRow pN cs') eb ef s pN pD n r seq size st cs' cD nR dR m' dM := by
  obtain ⟨P, Q, S, R, hz, hn, hR, hw, hst, hl, q1, q2, i1, i2⟩ := h.ex
  have hz' := hz.news hb
  have hT := tch_setRow (w := w') pN cs'
  have hTQ : Tch Q w' (w'.setRow pN cs') := ⟨hT.os, hT.tape, hT.output, hT.size, fun k hk hn => hT.block k hk (fun e => hn (by rw [e]; exact q1))⟩
  have hoth : ∀ g, (P g ∨ (w.heap.size ≤ g ∧ g < w'.heap.size)) → (w'.setRow pN cs').heap[g]? = w'.heap[g]? := fun g hg => setRow_other w' pN g cs' (hz'.ne hg q1)
  refine ⟨⟨_, Q, S, R, hz'.own hTQ, hn, hR, hw, hst, hl, q1, q2, fun i hq p q n c e => .inl (.inr (hi i hq p q n c e)), fun i hq p q n c e => .inl (.inl (i2 i hq p q n c e))⟩, setRow_heap w' pN _ cs' _ _ (h.bN.kept hb h.bN.lt), (setRow_other w' pN pD cs' (fun e => h.ne e.symm)).trans (h.bD.kept hb h.bD.lt), hm.same hi (fun g hg => hoth g (.inr hg)), (h.mD.kept hb).same (P := P) i2 (fun g hg => hoth g (.inl hg)), h.ne, hok, h.okD⟩
theorem OwW.setD (h : OwW w0 w eb ef s pN pD n r seq size st cN cD nR dR nM dM) (hb : Below w.heap.size w w') (hm : MdCs w' cs' m') (hi : MdIn (fun g => w.heap.size ≤ g ∧ g < w'.heap.size) cs') (hok : MdOk m') : OwW w0 (w'.setRow pD cs') eb ef s pN pD n r seq size st cN cs' nR dR nM m' := by
  obtain ⟨P, Q, S, R, hz, hn, hR, hw, hst, hl, q1, q2, i1, i2⟩ := h.ex
  have hz' := hz.news hb
  have hT := tch_setRow (w := w') pD cs'
  have hTQ : Tch Q w' (w'.setRow pD cs') := ⟨hT.os, hT.tape, hT.output, hT.size, fun k hk hn => hT.block k hk (fun e => hn (by rw [e]; exact q2))⟩
  have hoth : ∀ g, (P g ∨ (w.heap.size ≤ g ∧ g < w'.heap.size)) → (w'.setRow pD cs').heap[g]? = w'.heap[g]? := fun g hg => setRow_other w' pD g cs' (hz'.ne hg q2)
  refine ⟨⟨_, Q, S, R, hz'.own hTQ, hn, hR, hw, hst, hl, q1, q2, fun i hq p q n c e => .inl (.inl (i1 i hq p q n c e)), fun i hq p q n c e => .inl (.inr (hi i hq p q n c e))⟩, (setRow_other w' pD pN cs' h.ne).trans (h.bN.kept hb h.bN.lt), setRow_heap w' pD _ cs' _ _ (h.bD.kept hb h.bD.lt), (h.mN.kept hb).same (P := P) i1 (fun g hg => hoth g (.inl hg)), hm.same hi (fun g hg => hoth g (.inr hg)), h.ne, h.okN, hok⟩
theorem OwW.more (h : OwW w0 w eb ef s pN pD n r seq size st cN cD nR dR nM dM) : OwW w0 w eb ef s pN pD n r seq (size + 1) st cN cD nR dR nM dM := by
  obtain ⟨P, Q, S, R, hz, hn, hR, hw, hst, hl, q⟩ := h.ex
  exact ⟨⟨P, Q, S, R, hz, hn, hR, hw, hst, Nat.le_succ_of_le hl, q⟩, h.bN, h.bD, h.mN, h.mD, h.ne, h.okN, h.okD⟩
theorem OwW.small (h : OwW w0 w eb ef s pN pD n r seq size st cN cD nR dR nM dM) (hs : seq ≤ 30) : (∀ l ∈ nR.lists, l.length ≤ 1000) := by
  obtain ⟨P, Q, S, R, hz, hn, hR, hw, hst, hl, q⟩ := h.ex
  exact (hw.small hs).1
theorem OwW.infoN (h : OwW w0 w eb ef s pN pD n r seq size st cN cD nR dR nM dM) : (Tryz.prog.info? 37).map (·.size) = some cN.size := by rw [infoMd, h.mN.size]
theorem OwW.infoD (h : OwW w0 w eb ef s pN pD n r seq size st cN cD nR dR nM dM) : (Tryz.prog.info? 37).map (·.size) = some cD.size := by rw [infoMd, h.mD.size]
/-- now = done, at the end. -/
theorem OwW.setE (h : OwW w0 w eb ef s pN pD n r seq size st cN cD nR dR nM dM) : OwW w0 (w.setRow pN cD) eb ef s pN pD n r seq size st cD cD nR dR dM dM := by
  obtain ⟨P, Q, S, R, hz, hn, hR, hw, hst, hl, q1, q2, i1, i2⟩ := h.ex
  have hT := tch_setRow (w := w) pN cD
  have hTQ : Tch Q w (w.setRow pN cD) := ⟨hT.os, hT.tape, hT.output, hT.size, fun k hk hn => hT.block k hk (fun e => hn (by rw [e]; exact q1))⟩
  have hoth : ∀ g, P g → (w.setRow pN cD).heap[g]? = w.heap[g]? := fun g hg => setRow_other w pN g cD (hz.ne hg q1)
  refine ⟨⟨_, Q, S, R, hz.own hTQ, hn, hR, hw, hst, hl, q1, q2, fun i hq p q n c e => .inl (i2 i hq p q n c e), fun i hq p q n c e => .inl (i2 i hq p q n c e)⟩, setRow_heap w pN _ cD _ _ h.bN, (setRow_other w pN pD cD (fun e => h.ne e.symm)).trans h.bD, h.mD.same i2 hoth, h.mD.same i2 hoth, h.ne, h.okD, h.okD⟩
theorem o_clock (h : OwW w0 w eb ef s pN pD n r seq size st cN cD nR dR nM dM) :
    Calls Tryz.prog 22 #[.pointer (some ⟨s, 0, none⟩), I r] w fun e w' => ReadOk w (owClk n r seq) e w' := by
  obtain ⟨P, Q, S, R, hz, hn, hR, hw, hst, hl, q1, q2, i1, i2⟩ := h.ex
  rw [← hw.clk]
  exact x_clock hz.sx r R hR (by rw [hw.clk, owClk_len]; have := hw.n4; omega)
end
/-! The first model. -/
def md0C : Array Value := ([I 0, I 0] ++ List.replicate 512 (Value.bool false) ++ [I (-1), I (-1)] ++ [Value.slice none 0 0, Value.slice none 0 0]).toArray
theorem md0_at (w : World) : MdCs w md0C md0 := by
  have hsz : md0C.size = 518 := by kernel_rfl
  refine ⟨hsz, by kernel_rfl, fun i hi => ?_, fun i v hi hv => ?_, fun i hi => ?_, fun i hi => ?_⟩
  · have : i = 0 ∨ i = 1 := by omega
    rcases this with rfl | rfl
    · show _ = _; kernel_rfl
    · show _ = _; kernel_rfl
  · have e1 : (md0.sets.getD i []).getD v false = false := by
      have : i = 0 ∨ i = 1 := by omega
      rcases this with rfl | rfl
      · show (List.replicate 256 false).getD v false = false
        rw [List.getD_eq_getElem?_getD, List.getElem?_replicate]
        split <;> rfl
      · show (List.replicate 256 false).getD v false = false
        rw [List.getD_eq_getElem?_getD, List.getElem?_replicate]
        split <;> rfl
    rw [e1]
    show (([I 0, I 0] ++ List.replicate 512 (Value.bool false) ++ [I (-1), I (-1)] ++ [Value.slice none 0 0, Value.slice none 0 0]).toArray)[2 + i * 256 + v]? = _
    rw [List.getElem?_toArray, List.append_assoc, List.getElem?_append_left (by simp; omega), List.getElem?_append_right (by simp; omega), List.getElem?_replicate, if_pos (by simp; omega)]
  · have : i = 0 ∨ i = 1 := by omega
    rcases this with rfl | rfl
    · show _ = _; kernel_rfl
    · show _ = _; kernel_rfl
  · refine ⟨.slice none 0 0, ?_, ?_⟩
    · have h1 : i = 0 ∨ i = 1 := by omega
      rcases h1 with rfl | rfl
      · show _ = _; kernel_rfl
      · show _ = _; kernel_rfl
    · have h1 : i = 0 ∨ i = 1 := by omega
      rcases h1 with rfl | rfl <;> exact Lst.nil w
theorem md0_in (P : Nat → Prop) : MdIn P md0C := fun i hi p q n c e => by
  have h1 : i = 0 ∨ i = 1 := by omega
  rcases h1 with rfl | rfl
  · have h2 : md0C[516 + 0]? = some (.slice none 0 0) := by kernel_rfl
    rw [h2] at e
    cases e
  · have h2 : md0C[516 + 1]? = some (.slice none 0 0) := by kernel_rfl
    rw [h2] at e
    cases e
theorem zero0 : (Tryz.zeroCells37.setIfInBounds 514 (I (-1))).setIfInBounds 515 (I (-1)) = md0C := by kernel_rfl
theorem zeroSz : (Tryz.zeroCells37 : Array Value).size = 518 := by kernel_rfl
theorem store0 (w : World) : (storeCells ⟨w.heap.size, 0, none⟩ ((Tryz.zeroCells37.toList.set 514 (I (-1))).set 515 (I (-1))) 0).run Tryz.prog (w.alloc (.cells Tryz.zeroCells37 37)) = .ok () (w.alloc (.cells md0C 37)) := by
  have e : (Tryz.zeroCells37.toList.set 514 (I (-1))).set 515 (I (-1)) = md0C.toList := by rw [← zero0, Array.toList_setIfInBounds, Array.toList_setIfInBounds]
  rw [e]
  exact run_storeCells_new w 37 _ md0C (by rw [infoMd, (md0_at w).size]) (by rw [zeroSz, (md0_at w).size]) (md0_at w).one
/-- The first state: a store that is new, the model and its copy. -/
theorem ow_start {w0 w1 w3 : World} {eb ef : Addr} {s n r : Nat} {cs' : Array Value} (h : Sx w0 w1 eb ef s (newS n) (fun _ => False)) (h2 : 2 ≤ n) (h4 : n ≤ 4) (hr : r < n) (hb : Below (w1.heap.size + 1) (w1.alloc (.cells md0C 37)) w3) (hm : MdCs w3 cs' md0) (hi : MdIn (fun g => w1.heap.size + 1 ≤ g ∧ g < w3.heap.size) cs') :
    OwW w0 (w3.alloc (.cells cs' 37)) eb ef s w1.heap.size w3.heap.size n r 0 0 0 md0C cs' md0 md0 md0 md0 := by
  have z1 := h.toSz.alloc (.cells md0C 37)
  have hsz : (w1.alloc (.cells md0C 37)).heap.size = w1.heap.size + 1 := by simp
  have z2 := z1.news (w' := w3) (by rw [hsz]; exact hb)
  have z3 := z2.alloc (.cells cs' 37)
  have hB3 : Below w3.heap.size w3 (w3.alloc (.cells cs' 37)) := (Below.refl _ _).alloc (Nat.le_refl _) _
  have hblk : Blk w3 w1.heap.size md0C 37 := Blk.kept (heap_alloc_new w1 _) hb (by omega)
  have hlt := hblk.lt
  have hrep : (newS n).reps[r]? = some (newR r n) := by
    show ((List.range n).map (fun i => newR i n))[r]? = _
    simp [hr]
  refine ⟨⟨_, _, newS n, newR r n, z3, by show ((List.range n).map (fun i => newR i n)).length = n; simp, hrep, OwR.new h2 h4 hr, rfl, by show 0 ≤ 0; omega, .inl (.inr rfl), .inr rfl, md0_in _, fun i hq p q n c e => .inr (by rw [hsz]; exact hi i hq p q n c e)⟩, hblk.alloc _, heap_alloc_new w3 _, (md0_at w3).kept hB3, hm.kept hB3, by omega, md0_ok, md0_ok⟩

end Go.Proofs.YtfmcngncaffloaaGreatDoor
