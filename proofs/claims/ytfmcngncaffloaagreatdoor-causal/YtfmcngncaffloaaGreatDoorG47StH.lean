import Derived.Test.YtfmcngncaffloaaGreatDoorPoH
import Derived.Test.YtfmcngncaffloaaGreatDoorRkE
import Derived.BigRegion
namespace Go.Proofs.YtfmcngncaffloaaGreatDoor
open Go.RowKit
set_option maxRecDepth 100000

/-- A store: its replicas, and what is under way. -/
structure Sto where
  reps : List Rp
  msgs : List Ms
/-- A store in memory: replica r in blocks of 1 + 11 r to 11 + 11 r, what is under way in those of 100. -/
structure StIn (w : World) (own : Clr) (s rg cc pp ch : Nat) (pv : Value) (prs : List Nat) (S : Sto) : Prop where
  blk : Blk w s #[.slice (some ⟨rg, 0, none⟩) S.reps.length cc, .pointer (some ⟨pp, 0, none⟩)] 83
  row : ∀ r (h : r < prs.length), w.cell? ⟨rg, r, none⟩ = some (.pointer (some ⟨prs[r], 0, none⟩))
  len : prs.length = S.reps.length
  most : S.reps.length ≤ 4
  least : 2 ≤ S.reps.length
  own1 : own s = 900
  own2 : own rg = 900
  reps : ∀ r (h1 : r < prs.length) (h2 : r < S.reps.length), RpAt w own (1 + 11 * r) prs[r] S.reps[r]
  post : PoIn w own 100 pp ch pv S.msgs
theorem StIn.rlt {w : World} {own : Clr} {s rg cc pp ch : Nat} {pv : Value} {prs : List Nat} {S : Sto} (h : StIn w own s rg cc pp ch pv prs S) : rg < w.heap.size := lt_of_cell (h.row 0 (by have := h.least; have := h.len; omega))
theorem RpAt.keep {w w' : World} {own own' : Clr} {c p : Nat} {R : Rp} (h : RpAt w own c p R) (h0 : Same own 0 w w') (hS : ∀ d, c ≤ d → d ≤ c + 10 → Same own d w w') (he : Ext own own' w.heap.size) : RpAt w' own' c p R := by
  obtain ⟨cg, cc, hp, mv, hv, ev, hs, es, h⟩ := h
  exact ⟨_, _, _, _, _, _, _, _, h.keep h0 hS he⟩
/-- What a call leaves of a store. -/
def StOk (w0 w : World) (own : Clr) (s : Nat) (S : Sto) (eb ef : Addr) (w' : World) : Prop := ∃ own' rg cc pp ch pv prs, Ext own own' w.heap.size ∧ StIn w' own' s rg cc pp ch pv prs S ∧ Env w0 w' own' eb ef ∧ Tch (fun k => 1 ≤ own k ∧ own k ≤ 100) w w'
theorem StIn.below {w w' : World} {own : Clr} {s rg cc pp ch : Nat} {pv : Value} {prs : List Nat} {S : Sto} (h : StIn w own s rg cc pp ch pv prs S) (hb : Below w.heap.size w w') : StIn w' (newTo own w.heap.size 0) s rg cc pp ch pv prs S := by
  have he := newTo_ext own w.heap.size 0
  have hS : ∀ d, Same own d w w' := fun d b hl _ => hb.block b hl
  have hr := h.rlt
  exact ⟨h.blk.kept hb h.blk.lt, fun r hr => cell_kept hb (h.row r hr), h.len, h.most, h.least, (he s h.blk.lt).trans h.own1, (he rg hr).trans h.own2, fun r h1 h2 => (h.reps r h1 h2).keep (hS 0) (fun d _ _ => hS d) he, h.post.keep (hS 100) he⟩
theorem StOk.below {w0 w w' : World} {own : Clr} {s rg cc pp ch : Nat} {pv : Value} {prs : List Nat} {S : Sto} {eb ef : Addr} (h : StIn w own s rg cc pp ch pv prs S) (hen : Env w0 w own eb ef) (hb : Below w.heap.size w w') : StOk w0 w own s S eb ef w' :=
  ⟨_, _, _, _, _, _, _, newTo_ext _ _ _, h.below hb, hen.tch (F := fun _ => False) (Tch.below hb) (fun _ _ h => h) (newTo_ext _ _ _), Tch.below hb⟩
theorem StOk.rep {w0 w w' : World} {own : Clr} {s rg cc pp ch : Nat} {pv : Value} {prs : List Nat} {S : Sto} {eb ef : Addr} (h : StIn w own s rg cc pp ch pv prs S) (hen : Env w0 w own eb ef) (r : Nat) (hr : r < prs.length) {R : Rp} (ho : ROk w own (1 + 11 * r) prs[r] R w') : StOk w0 w own s { S with reps := S.reps.set r R } eb ef w' := by
  obtain ⟨own', hE, hR, hT⟩ := ho
  have hS : ∀ d, ¬ (1 + 11 * r ≤ d ∧ d ≤ 1 + 11 * r + 10) → Same own d w w' := fun d hd => hT.same (fun k e e2 => hd (by rw [← e]; exact e2))
  have hrg : ∀ k (hk : k < prs.length), rg < w.heap.size := fun k hk => lt_of_cell (h.row k hk)
  have hm := h.most
  have hl := h.len
  refine ⟨own', rg, cc, pp, ch, pv, prs, hE, ⟨?_, fun k hk => cell_same (h.row k hk) (hS 900 (by omega) rg (hrg k hk) h.own2), ?_, ?_, ?_, (hE s h.blk.lt).trans h.own1, (hE rg (hrg r hr)).trans h.own2, fun k h1 h2 => ?_, h.post.keep (hS 100 (by omega)) hE⟩, hen.tch hT (fun k e e2 => by rw [e] at e2; omega) hE, hT.mono (fun k _ e => by omega)⟩
  · show Blk w' s #[.slice (some ⟨rg, 0, none⟩) (S.reps.set r R).length cc, .pointer (some ⟨pp, 0, none⟩)] 83
    rw [List.length_set]
    exact (hS 900 (by omega) s h.blk.lt h.own1).trans h.blk
  · show prs.length = (S.reps.set r R).length
    rw [List.length_set]; exact h.len
  · show (S.reps.set r R).length ≤ 4
    rw [List.length_set]; exact h.most
  · show 2 ≤ (S.reps.set r R).length
    rw [List.length_set]; exact h.least
  · show RpAt w' own' (1 + 11 * k) prs[k] (S.reps.set r R)[k]
    by_cases hk : r = k
    · subst hk
      rw [List.getElem_set_self]
      exact hR
    · rw [List.getElem_set_ne hk]
      exact (h.reps k h1 (by omega)).keep (hS 0 (by omega)) (fun d a b => hS d (by omega)) hE
theorem StOk.po {w0 w w' : World} {own : Clr} {s rg cc pp ch : Nat} {pv : Value} {prs : List Nat} {S : Sto} {eb ef : Addr} (h : StIn w own s rg cc pp ch pv prs S) (hen : Env w0 w own eb ef) {ms : List Ms} (ho : PoOk w own 100 pp ch ms w') : StOk w0 w own s { S with msgs := ms } eb ef w' := by
  obtain ⟨own', pv', hE, hP, hT⟩ := ho
  have hS : ∀ d, d ≠ 100 → Same own d w w' := fun d hd => hT.same (fun k e e2 => hd (by have e2 : own k = 100 := e2; omega))
  have hm := h.most
  have hl := h.len
  refine ⟨own', rg, cc, pp, ch, pv', prs, hE, ⟨(hS 900 (by omega) s h.blk.lt h.own1).trans h.blk, fun k hk => cell_same (h.row k hk) (hS 900 (by omega) rg (lt_of_cell (h.row k hk)) h.own2), h.len, h.most, h.least, (hE s h.blk.lt).trans h.own1, (hE rg h.rlt).trans h.own2, fun k h1 h2 => (h.reps k h1 h2).keep (hS 0 (by omega)) (fun d a b => hS d (by omega)) hE, hP⟩, hen.tch hT (fun k e e2 => by have e2 : own k = 100 := e2; omega) hE, hT.mono (fun k _ e => by have e : own k = 100 := e; omega)⟩
theorem StOk.from {w0 w w5 w6 : World} {own own5 : Clr} {s : Nat} {S : Sto} {eb ef : Addr} (hE5 : Ext own own5 w.heap.size) (hT5 : Tch (fun k => 1 ≤ own k ∧ own k ≤ 100) w w5) (h : StOk w0 w5 own5 s S eb ef w6) : StOk w0 w own s S eb ef w6 := by
  obtain ⟨own', rg, cc, pp, ch, pv, prs, hE, hR, hen, hT⟩ := h
  exact ⟨own', rg, cc, pp, ch, pv, prs, hE5.trans hE hT5.size, hR, hen, hT5.trans hT (fun _ _ h => h) (fun k hk h => by rw [hE5 k hk] at h; exact h)⟩

end Go.Proofs.YtfmcngncaffloaaGreatDoor

namespace Go.Proofs.YtfmcngncaffloaaGreatDoor
open Go.RowKit
set_option maxRecDepth 100000

set_option maxHeartbeats 800000 in
theorem shas_any (own : Clr) (s rg cc pp ch : Nat) (pv : Value) (prs : List Nat) (S : Sto) (r : Int) (w : World) (h : StIn w own s rg cc pp ch pv prs S) :
    Calls Tryz.prog 75 #[.pointer (some ⟨s, 0, none⟩), I r] w fun e w' => e = .returned (.bool (decide (0 ≤ r ∧ r < S.reps.length))) ∧ w' = w := by
  have c1 : w.cell? ⟨s, 0, none⟩ = some (.slice (some ⟨rg, 0, none⟩) S.reps.length cc) := h.blk.cell 0
  clear h
  obtain ⟨bq, HQ⟩ : ∃ bq, Hid (decide (0 ≤ r ∧ r < (S.reps.length : Int)) = bq) := ⟨_, rfl⟩
  rw [HQ.out]
  go_enter Tryz.func75, Tryz.ntmps75
  by_cases h0 : 0 ≤ r
  · by_cases h1 : r < (S.reps.length : Int)
    · have HD : Hid (true = bq) := (decide_eq_true (p := 0 ≤ r ∧ r < (S.reps.length : Int)) ⟨h0, h1⟩).symm.trans HQ.out
      clear HQ
      go_wp2
      go_ret
      exact ⟨by rw [← HD.out]; rfl, rfl⟩
    · have HD : Hid (false = bq) := (decide_eq_false (p := 0 ≤ r ∧ r < (S.reps.length : Int)) (fun h => h1 h.2)).symm.trans HQ.out
      clear HQ
      go_wp2
      go_ret
      exact ⟨by rw [← HD.out]; rfl, rfl⟩
  · have HD : Hid (false = bq) := (decide_eq_false (p := 0 ≤ r ∧ r < (S.reps.length : Int)) (fun h => h0 h.1)).symm.trans HQ.out
    clear HQ
    go_wp2
    go_ret
    exact ⟨by rw [← HD.out]; rfl, rfl⟩
set_option maxHeartbeats 800000 in
theorem sreplica_yes (own : Clr) (s rg cc pp ch : Nat) (pv : Value) (prs : List Nat) (S : Sto) (r : Nat) (hr : r < prs.length) (w : World) (h : StIn w own s rg cc pp ch pv prs S) :
    Calls Tryz.prog 48 #[.pointer (some ⟨s, 0, none⟩), I r] w fun e w' => e = .returned (.tuple #[.pointer (some ⟨prs[r], 0, none⟩), I 0]) ∧ w' = w := by
  have HS : Hid (StIn w own s rg cc pp ch pv prs S) := h
  have c0 : w.cell? ⟨s, 0, none⟩ = some (.slice (some ⟨rg, 0, none⟩) S.reps.length cc) := h.blk.cell 0
  have c1 : w.cell? ⟨rg, r, none⟩ = some (.pointer (some ⟨prs[r], 0, none⟩)) := h.row r hr
  have hri : (r : Int) < (S.reps.length : Int) := by have := h.len; omega
  have hrn : r < S.reps.length := by omega
  have hd : decide (0 ≤ (r : Int) ∧ (r : Int) < (S.reps.length : Int)) = true := decide_eq_true ⟨by omega, hri⟩
  clear h
  generalize prs[r] = p at *
  go_enter Tryz.func48, Tryz.ntmps48
  go_wp2_with fail
  refine (shas_any own s rg cc pp ch pv prs S r w HS.out).mono ?_
  rintro e w1 ⟨rfl, hw1⟩
  subst hw1
  rw [hd]
  go_wp2
  go_ret2
  exact ⟨rfl, rfl⟩
set_option maxHeartbeats 800000 in
theorem sup_yes (own : Clr) (s rg cc pp ch : Nat) (pv : Value) (prs : List Nat) (S : Sto) (r : Nat) (hr : r < prs.length) (R : Rp) (hR : S.reps[r]? = some R) (hst : R.st ≠ 2) (w : World) (h : StIn w own s rg cc pp ch pv prs S) :
    Calls Tryz.prog 39 #[.pointer (some ⟨s, 0, none⟩), I r] w fun e w' => e = .returned (.tuple #[.pointer (some ⟨prs[r], 0, none⟩), I 0]) ∧ w' = w := by
  have HS : Hid (StIn w own s rg cc pp ch pv prs S) := h
  obtain ⟨hrn, rfl⟩ := List.getElem?_eq_some_iff.1 hR
  obtain ⟨cg, cc', hp, mv, hv, ev, hs, es, hrp⟩ := h.reps r hr hrn
  have HR : Hid (RpIn w own (1 + 11 * r) prs[r] S.reps[r] cg cc' hp mv hv ev hs es) := hrp
  have hb : (S.reps[r].st == 2) = false := by simp [hst]
  have HC : Hid (Calls Tryz.prog 48 #[.pointer (some ⟨s, 0, none⟩), I r] w fun e w' => e = .returned (.tuple #[.pointer (some ⟨prs[r], 0, none⟩), I 0]) ∧ w' = w) := sreplica_yes own s rg cc pp ch pv prs S r hr w h
  clear h hrp hR hst
  generalize prs[r] = p at *
  go_enter Tryz.func39, Tryz.ntmps39
  go_wp2_with fail
  refine HC.out.mono ?_
  rintro e w1 ⟨rfl, hw1⟩
  subst hw1
  go_wp2_with fail
  refine (risdown_any own (1 + 11 * r) p _ cg cc' hp mv hv ev hs es w1 HR.out).mono ?_
  rintro e w2 ⟨rfl, hw2⟩
  subst hw2
  rw [hb]
  go_wp2
  go_ret2
  exact ⟨rfl, rfl⟩

end Go.Proofs.YtfmcngncaffloaaGreatDoor

namespace Go.Proofs.YtfmcngncaffloaaGreatDoor
open Go.RowKit
set_option maxRecDepth 100000

/-- What is so of a replica that is up. -/
structure Rup (R : Rp) : Prop where
  ok : Rok R
  n0 : 0 ≤ R.n
  n1 : R.n < R.clock.length
  up : R.st ≠ 2
  el : R.effs.length ≤ 5
  ev : ∀ e ∈ R.effs, 0 ≤ e.ob ∧ e.ob < 8 ∧ -1000 ≤ e.va ∧ e.va ≤ 1000 ∧ e.dots.length ≤ 1048576
theorem Rup.hl {R : Rp} (h : Rup R) : R.clock.length ≤ 1000 := by have := h.ok.len; omega
theorem Rup.hs0 {R : Rp} (h : Rup R) : ∀ z ∈ R.clock, 0 ≤ z ∧ z ≤ 1000000 := fun z hz => ⟨(h.ok.clk z hz).1, by have := (h.ok.clk z hz).2; omega⟩
theorem Rup.ht1 {R : Rp} (h : Rup R) : R.time ≤ 1000000000 := by have := h.ok.time1; omega
theorem Rup.hN {R : Rp} (h : Rup R) : 5 * sumN R.clock + R.effs.length ≤ 100000 := by have := h.ok.sum; have := h.el; omega
theorem Rup.hv {R : Rp} (h : Rup R) : ∀ e ∈ R.effs, -1000 ≤ e.va ∧ e.va ≤ 1000 ∧ e.dots.length ≤ 1048576 := fun e he => (h.ev e he).2.2
theorem StIn.prl {w : World} {own : Clr} {s rg cc pp ch : Nat} {pv : Value} {prs : List Nat} {S : Sto} (h : StIn w own s rg cc pp ch pv prs S) {r : Nat} {R : Rp} (hR : S.reps[r]? = some R) : ∃ hr : r < prs.length, RpAt w own (1 + 11 * r) prs[r] R := by
  obtain ⟨hrn, rfl⟩ := List.getElem?_eq_some_iff.1 hR
  have hl := h.len
  exact ⟨by omega, h.reps r (by omega) hrn⟩
set_option maxHeartbeats 800000 in
theorem wbegin_any (own : Clr) (s rg cc pp ch : Nat) (pv : Value) (prs : List Nat) (S : Sto) (r : Nat) (R : Rp) (w w0 : World) (eb ef : Addr) (hen : Env w0 w own eb ef) (h : StIn w own s rg cc pp ch pv prs S) (hR : S.reps[r]? = some R) (hup : Rup R) :
    Calls Tryz.prog 16 #[.pointer (some ⟨s, 0, none⟩), I r] w fun e w' => e = .returned (I (beginR R).2) ∧ StOk w0 w own s { S with reps := S.reps.set r (beginR R).1 } eb ef w' := by
  obtain ⟨hr, cg, cc', hp, mv, hv, ev, hs, es, hrp⟩ := h.prl hR
  have HU : Hid (Calls Tryz.prog 39 #[.pointer (some ⟨s, 0, none⟩), I r] w fun e w' => e = .returned (.tuple #[.pointer (some ⟨prs[r], 0, none⟩), I 0]) ∧ w' = w) := sup_yes own s rg cc pp ch pv prs S r hr R hR hup.up w h
  have HC : Hid (Calls Tryz.prog 40 #[.pointer (some ⟨prs[r], 0, none⟩)] w fun e w' => e = .returned (I (beginR R).2) ∧ StOk w0 w own s { S with reps := S.reps.set r (beginR R).1 } eb ef w') := (rbegin_any own (1 + 11 * r) prs[r] R cg cc' hp mv hv ev hs es w (by omega) hrp hup.n0 hup.n1).mono (fun e w' hh => ⟨hh.1, StOk.rep h hen r hr (ROk.self hrp.own1 hh.2)⟩)
  clear h hrp hup hen hR
  generalize prs[r] = p at *
  generalize (beginR R).2 = z at *
  generalize (beginR R).1 = R' at *
  go_enter Tryz.func16, Tryz.ntmps16
  go_wp2_with fail
  refine HU.out.mono ?_
  rintro e w1 ⟨rfl, hw1⟩
  subst hw1
  go_wp2_with fail
  refine HC.out.mono ?_
  rintro e w2 ⟨rfl, h2⟩
  have HE : Hid (StOk w0 w1 own s { S with reps := S.reps.set r R' } eb ef w2) := h2
  clear h2
  go_wp2
  go_ret
  exact ⟨rfl, HE.out⟩

end Go.Proofs.YtfmcngncaffloaaGreatDoor

namespace Go.Proofs.YtfmcngncaffloaaGreatDoor
open Go.RowKit
set_option maxRecDepth 100000

/-- What an operation that is let in makes of a replica. -/
def doR (R : Rp) (op : Int) (k : Nat) (x y : Int) (o : Ob) : Rp := { R with effs := R.effs ++ [(doM op k ((seeTo (pendB R) k o R.effs.length).says op x y)).e] }
set_option maxHeartbeats 800000 in
theorem wdo_add (own : Clr) (s rg cc pp ch : Nat) (pv : Value) (prs : List Nat) (S : Sto) (r : Nat) (R : Rp) (op x y : Int) (k : Nat) (o : Ob) (w w0 : World) (eb ef : Addr) (hen : Env w0 w own eb ef) (h : StIn w own s rg cc pp ch pv prs S) (hR : S.reps[r]? = some R) (hup : Rup R) (h1 : R.st = 1) (hop : 1 ≤ op ∧ op ≤ 6) (hn5 : R.effs.length < 5) (hls : ¬ (0 : Int) < Wv.rLeastD op) (hms : ¬ (0 : Int) > Wv.rMostD op) (hkd : (k : Int) % 4 = Wv.rKind op) (hpl : o.plain) (her : ((seeTo (pendB R) k o R.effs.length).says op x y).2.2 = 0) (hk : R.obs[k]? = some o) :
    Calls Tryz.prog 18 #[.pointer (some ⟨s, 0, none⟩), I r, I op, I k, I x, I y] w fun e w' => e = .returned (I 0) ∧ StOk w0 w own s { S with reps := S.reps.set r (doR R op k x y o) } eb ef w' := by
  obtain ⟨hr, cg, cc', hp, mv, hv, ev, hs, es, hrp⟩ := h.prl hR
  have HU : Hid (Calls Tryz.prog 39 #[.pointer (some ⟨s, 0, none⟩), I r] w fun e w' => e = .returned (.tuple #[.pointer (some ⟨prs[r], 0, none⟩), I 0]) ∧ w' = w) := sup_yes own s rg cc pp ch pv prs S r hr R hR hup.up w h
  have hle : es.length < 5 := by have := hrp.effsE; rw [this, List.length_map] at hn5; exact hn5
  have HC : Hid (Calls Tryz.prog 43 #[.pointer (some ⟨prs[r], 0, none⟩), I op, I k, I x, I y] w fun e w' => e = .returned (I 0) ∧ StOk w0 w own s { S with reps := S.reps.set r (doR R op k x y o) } eb ef w') := (do_add own (1 + 11 * r) prs[r] R cg cc' hp mv hv ev hs es op x y k o w w0 eb ef hen hrp h1 hop (by omega) hle hls hms hkd hpl her hk hup.ok.obs8 hup.hl hup.n0 hup.n1 hup.hs0 hup.ok.time0 hup.ht1 (5 * sumN R.clock) hup.hN (hup.ok.bd o (List.mem_of_getElem? hk)) hup.hv).mono (fun e w' hh => ⟨hh.1, StOk.rep h hen r hr (ROk.add hh.2)⟩)
  clear h hrp hup hen hR her hk hls hms hkd hop h1 hle hn5
  generalize prs[r] = p at *
  generalize doR R op k x y o = R' at *
  go_enter Tryz.func18, Tryz.ntmps18
  go_wp2_with fail
  refine HU.out.mono ?_
  rintro e w1 ⟨rfl, hw1⟩
  subst hw1
  go_wp2_with fail
  refine HC.out.mono ?_
  rintro e w2 ⟨rfl, h2⟩
  have HE : Hid (StOk w0 w1 own s { S with reps := S.reps.set r R' } eb ef w2) := h2
  clear h2
  go_wp2
  go_ret
  exact ⟨rfl, HE.out⟩
set_option maxHeartbeats 800000 in
theorem wread_yes (own : Clr) (s rg cc pp ch : Nat) (pv : Value) (prs : List Nat) (S : Sto) (r : Nat) (R : Rp) (k : Nat) (o : Ob) (w : World) (h : StIn w own s rg cc pp ch pv prs S) (hR : S.reps[r]? = some R) (hup : Rup R) (hpl : o.plain) (hk : R.obs[k]? = some o) :
    Calls Tryz.prog 31 #[.pointer (some ⟨s, 0, none⟩), I r, I k] w fun e w' => ReadOk w (seeTo (pendB R) k o R.effs.length).vals e w' := by
  obtain ⟨hr, cg, cc', hp, mv, hv, ev, hs, es, hrp⟩ := h.prl hR
  have HU : Hid (Calls Tryz.prog 39 #[.pointer (some ⟨s, 0, none⟩), I r] w fun e w' => e = .returned (.tuple #[.pointer (some ⟨prs[r], 0, none⟩), I 0]) ∧ w' = w) := sup_yes own s rg cc pp ch pv prs S r hr R hR hup.up w h
  have HC : Hid (Calls Tryz.prog 56 #[.pointer (some ⟨prs[r], 0, none⟩), I k] w fun e w' => ReadOk w (seeTo (pendB R) k o R.effs.length).vals e w') := read_yes own (1 + 11 * r) prs[r] R cg cc' hp mv hv ev hs es k o w hrp hk hup.ok.obs8 hup.hl hup.n0 hup.n1 hup.hs0 hup.ok.time0 hup.ht1 (5 * sumN R.clock) hup.hN (hup.ok.bd o (List.mem_of_getElem? hk)) hup.hv hpl
  clear h hrp hup hR hk
  generalize prs[r] = p at *
  generalize (seeTo (pendB R) k o R.effs.length).vals = l at *
  go_enter Tryz.func31, Tryz.ntmps31
  go_wp2_with fail
  refine HU.out.mono ?_
  rintro e w1 ⟨rfl, hw1⟩
  subst hw1
  go_wp2_with fail
  refine HC.out.mono ?_
  rintro e w2 ⟨v, rfl, h2, hb2⟩
  have HO : Hid (w2.ownsRow w1.heap.size 3 1 v l.length (l.map I)) := h2
  have HB : Hid (Below w1.heap.size w1 w2) := hb2
  clear h2 hb2
  go_wp2
  go_ret2
  exact ⟨v, rfl, HO.out, HB.out⟩
set_option maxHeartbeats 800000 in
theorem wheld_any (own : Clr) (s rg cc pp ch : Nat) (pv : Value) (prs : List Nat) (S : Sto) (r : Nat) (R : Rp) (w : World) (h : StIn w own s rg cc pp ch pv prs S) (hR : S.reps[r]? = some R) :
    Calls Tryz.prog 30 #[.pointer (some ⟨s, 0, none⟩), I r] w fun e w' => e = .returned (.tuple #[I R.held.length, I 0]) ∧ w' = w := by
  obtain ⟨hr, cg, cc', hp, mv, hv, ev, hs, es, hrp⟩ := h.prl hR
  have HU : Hid (Calls Tryz.prog 48 #[.pointer (some ⟨s, 0, none⟩), I r] w fun e w' => e = .returned (.tuple #[.pointer (some ⟨prs[r], 0, none⟩), I 0]) ∧ w' = w) := sreplica_yes own s rg cc pp ch pv prs S r hr w h
  have HC : Hid (Calls Tryz.prog 55 #[.pointer (some ⟨prs[r], 0, none⟩)] w fun e w' => e = .returned (I R.held.length) ∧ w' = w) := rheld_any own (1 + 11 * r) prs[r] R cg cc' hp mv hv ev hs es w hrp
  clear h hrp hR
  generalize prs[r] = p at *
  go_enter Tryz.func30, Tryz.ntmps30
  go_wp2_with fail
  refine HU.out.mono ?_
  rintro e w1 ⟨rfl, hw1⟩
  subst hw1
  go_wp2_with fail
  refine HC.out.mono ?_
  rintro e w2 ⟨rfl, hw2⟩
  subst hw2
  go_wp2
  go_ret2
  exact ⟨rfl, rfl⟩
set_option maxHeartbeats 800000 in
theorem wclock_any (own : Clr) (s rg cc pp ch : Nat) (pv : Value) (prs : List Nat) (S : Sto) (r : Nat) (R : Rp) (w : World) (h : StIn w own s rg cc pp ch pv prs S) (hR : S.reps[r]? = some R) (hl : R.clock.length ≤ 1000) :
    Calls Tryz.prog 22 #[.pointer (some ⟨s, 0, none⟩), I r] w fun e w' => ReadOk w R.clock e w' := by
  obtain ⟨hr, cg, cc', hp, mv, hv, ev, hs, es, hrp⟩ := h.prl hR
  have HU : Hid (Calls Tryz.prog 48 #[.pointer (some ⟨s, 0, none⟩), I r] w fun e w' => e = .returned (.tuple #[.pointer (some ⟨prs[r], 0, none⟩), I 0]) ∧ w' = w) := sreplica_yes own s rg cc pp ch pv prs S r hr w h
  have HC : Hid (Calls Tryz.prog 49 #[.pointer (some ⟨prs[r], 0, none⟩)] w fun e w' => ∃ v, e = .returned v ∧ w'.ownsRow w.heap.size 3 1 v R.clock.length (R.clock.map I) ∧ Below w.heap.size w w') := rclock_any own (1 + 11 * r) prs[r] R cg cc' hp mv hv ev hs es w hrp hl
  clear h hrp hR
  generalize prs[r] = p at *
  go_enter Tryz.func22, Tryz.ntmps22
  go_wp2_with fail
  refine HU.out.mono ?_
  rintro e w1 ⟨rfl, hw1⟩
  subst hw1
  go_wp2_with fail
  refine HC.out.mono ?_
  rintro e w2 ⟨v, rfl, h2, hb2⟩
  have HO : Hid (w2.ownsRow w1.heap.size 3 1 v R.clock.length (R.clock.map I)) := h2
  have HB : Hid (Below w1.heap.size w1 w2) := hb2
  clear h2 hb2
  go_wp2
  go_ret2
  exact ⟨v, rfl, HO.out, HB.out⟩

end Go.Proofs.YtfmcngncaffloaaGreatDoor

namespace Go.Proofs.YtfmcngncaffloaaGreatDoor
open Go.RowKit
set_option maxRecDepth 100000

/-- The messages that a frame is sent in, to the first k replicas but one. -/
def sprd (f : Nat) (fr : List UInt8) : Nat → List Ms
  | 0 => []
  | k + 1 => sprd f fr k ++ (if k = f then [] else [⟨1, f, k, fr, false⟩])
theorem sprd_len (f : Nat) (fr : List UInt8) : ∀ k, (sprd f fr k).length ≤ k
  | 0 => by simp [sprd]
  | k + 1 => by
    have := sprd_len f fr k
    rw [sprd, List.length_append]
    split <;> simp <;> omega
set_option maxHeartbeats 1600000 in
theorem wspread_room (own : Clr) (s rg cc pp ch : Nat) (pv : Value) (prs : List Nat) (S : Sto) (f : Nat) (fr : List UInt8) (w w0 : World) (eb ef : Addr) (hen : Env w0 w own eb ef) (h : StIn w own s rg cc pp ch pv prs S) (hroom : S.msgs.length + S.reps.length ≤ 40) :
    Calls Tryz.prog 47 #[.pointer (some ⟨s, 0, none⟩), I f, .string ⟨fr.toArray⟩] w fun e w' => e = .returned (.tuple #[]) ∧ StOk w0 w own s { S with msgs := S.msgs ++ sprd f fr S.reps.length } eb ef w' := by
  have HS : Hid (StOk w0 w own s { S with msgs := S.msgs ++ sprd f fr 0 } eb ef w) := by
    have e : S.msgs ++ sprd f fr 0 = S.msgs := by simp [sprd]
    show StOk _ _ _ _ _ _ _ _
    rw [e]
    exact ⟨own, rg, cc, pp, ch, pv, prs, Ext.refl _ _, h, hen, Tch.refl _ _⟩
  have c0 : w.cell? ⟨s, 0, none⟩ = some (.slice (some ⟨rg, 0, none⟩) S.reps.length cc) := h.blk.cell 0
  have HM : Hid (S.reps.length ≤ 4) := h.most
  clear h hen
  go_enter Tryz.func47, Tryz.ntmps47
  go_wp2_with fail
  go_loopw [12] (fun x wX => ∃ k : Nat, k ≤ S.reps.length ∧ x = I k ∧ Hid (StOk w0 w own s { S with msgs := S.msgs ++ sprd f fr k } eb ef wX)) (fun x _ => S.reps.length - (intOf x).toNat)
  case atStart => exact ⟨0, Nat.zero_le _, rfl, HS⟩
  case round =>
    obtain ⟨k, hk, rfl, HK⟩ := hrel
    clear HS c0
    by_cases hlt : k < S.reps.length
    · obtain ⟨own', rg', cc', pp', ch', pv', prs', hE, hS, hen', hT⟩ := HK.out
      have HS' : Hid (StIn wr own' s rg' cc' pp' ch' pv' prs' { S with msgs := S.msgs ++ sprd f fr k }) := hS
      have HEN' : Hid (Env w0 wr own' eb ef) := hen'
      have HE' : Hid (Ext own own' w.heap.size) := hE
      have HT' : Hid (Tch (fun k => 1 ≤ own k ∧ own k ≤ 100) w wr) := hT
      have c1 : wr.cell? ⟨s, 1, none⟩ = some (.pointer (some ⟨pp', 0, none⟩)) := hS.blk.cell 1
      have hki : (k : Int) < S.reps.length := by omega
      have HL : Hid ((S.msgs ++ sprd f fr k).length < 40) := by
        have := sprd_len f fr k
        show _ < _
        rw [List.length_append]
        omega
      clear hE hS hen' hT
      by_cases hkf : k = f
      · have HN : Hid (StOk w0 w own s { S with msgs := S.msgs ++ sprd f fr (k + 1) } eb ef wr) := by
          have e : sprd f fr (k + 1) = sprd f fr k := by rw [sprd, if_pos hkf, List.append_nil]
          show StOk _ _ _ _ _ _ _ _
          rw [e]
          exact HK.out
        have hb : ((k : Int) != (f : Int)) = false := by rw [hkf]; simp
        have hb2 : ((k : Int) == (f : Int)) = true := by rw [hkf]; simp
        clear hkf HK
        go_wp2_with fail
        go_roundw
        case rel => exact ⟨k + 1, hlt, by go_num, HN⟩
        case measure => simp [intOf]; omega
      · have hb : ((k : Int) != (f : Int)) = true := by simp; omega
        have hb2 : ((k : Int) == (f : Int)) = false := by simp; omega
        have hkfi : ¬ (k : Int) = (f : Int) := by omega
        have HSE : Hid (S.msgs ++ sprd f fr (k + 1) = S.msgs ++ sprd f fr k ++ [⟨1, f, k, fr, false⟩]) := by show _ = _; rw [sprd, if_neg hkf, List.append_assoc]
        clear HK
        go_wp2_with fail
        refine (psend_room own' 100 pp' ch' pv' (S.msgs ++ sprd f fr k) 1 f k fr wr HS'.out.post HL.out).mono ?_
        rintro e w2 ⟨rfl, h2⟩
        have HN : Hid (StOk w0 w own s { S with msgs := S.msgs ++ sprd f fr (k + 1) } eb ef w2) := by
          show StOk _ _ _ _ _ _ _ _
          rw [HSE.out]
          exact StOk.from HE'.out HT'.out (StOk.po HS'.out HEN'.out h2)
        clear h2
        go_wp2_with fail
        go_roundw
        case rel => exact ⟨k + 1, hlt, by go_num, HN⟩
        case measure => simp [intOf]; omega
    · have hki : ¬ (k : Int) < S.reps.length := by omega
      have HN : Hid (StOk w0 w own s { S with msgs := S.msgs ++ sprd f fr S.reps.length } eb ef wr) := by
        have : k = S.reps.length := by omega
        rw [this] at HK
        exact HK
      clear HK
      go_wp2
      go_end0
      exact ⟨rfl, HN.out⟩

end Go.Proofs.YtfmcngncaffloaaGreatDoor

namespace Go.Proofs.YtfmcngncaffloaaGreatDoor
open Go.RowKit
set_option maxRecDepth 100000

/-- What a commit with effects makes of a replica. -/
def commitS (R : Rp) : Rp := commitR R (takeP earlierB (likeB (pendB R)) R.held).2
set_option maxHeartbeats 1600000 in
theorem wcommit_some (own : Clr) (s rg cc pp ch : Nat) (pv : Value) (prs : List Nat) (S : Sto) (r : Nat) (R : Rp) (w w0 : World) (eb ef : Addr) (hI : ItoaSaid) (hen : Env w0 w own eb ef) (h : StIn w own s rg cc pp ch pv prs S) (hR : S.reps[r]? = some R) (hup : Rup R) (h1 : R.st = 1) (he : R.effs ≠ []) (hisb : Wv.isB (pendB R) = true) (hroom : S.msgs.length + S.reps.length ≤ 40) :
    Calls Tryz.prog 21 #[.pointer (some ⟨s, 0, none⟩), I r] w fun e w' => e = .returned (.tuple #[I (pendB R).s, I 0]) ∧ StOk w0 w own s ⟨S.reps.set r (commitS R), S.msgs ++ sprd r (Wv.frameB (pendB R)) S.reps.length⟩ eb ef w' := by
  obtain ⟨hr, cg, cc', hp, mv, hv, ev, hs, es, hrp⟩ := h.prl hR
  have HU : Hid (Calls Tryz.prog 39 #[.pointer (some ⟨s, 0, none⟩), I r] w fun e w' => e = .returned (.tuple #[.pointer (some ⟨prs[r], 0, none⟩), I 0]) ∧ w' = w) := sup_yes own s rg cc pp ch pv prs S r hr R hR hup.up w h
  have hhs : hs.length ≤ 1000 := by have := hup.ok.most; rw [hrp.heldB, List.length_map] at this; omega
  have hlg : R.log.length + (Wv.frameB (pendB R)).length ≤ 100000000 := by have := hup.ok.logl; have := hup.ok.sum; have := frameB_short hisb; omega
  have hcm : commitR R ((takeP lessM (fun m => likeB (pendB R) m.b) hs).2.map (·.b)) = commitS R := by
    unfold commitS
    rw [hrp.heldB, takeM_map (likeB (pendB R)) hs]
  have HC : Hid (Calls Tryz.prog 46 #[.pointer (some ⟨prs[r], 0, none⟩)] w fun e w' => e = .returned (.tuple #[I (pendB R).s, .string ⟨(Wv.frameB (pendB R)).toArray⟩, I 0]) ∧ StOk w0 w own s { S with reps := S.reps.set r (commitS R) } eb ef w') := (commit_some own (1 + 11 * r) prs[r] R cg cc' hp mv hv ev hs es w w0 eb ef hI hen (by omega) hrp h1 he hup.hl hup.n0 hup.n1 hup.hs0 hup.ok.time0 hup.ht1 hisb hhs hlg hup.ok.obs8 (5 * sumN R.clock) hup.hN hup.ok.bd hup.ev).mono (fun e w' hh => ⟨hh.1, StOk.rep h hen r hr (by rw [← hcm]; exact ROk.cm hh.2)⟩)
  have hpos : (0 : Int) < (pendB R).s := by have := (isB_parts hisb).2.2.2.1; omega
  have HRM : Hid (S.msgs.length + (S.reps.set r (commitS R)).length ≤ 40) := by rw [List.length_set]; exact hroom
  clear h hrp hup hen hR hcm hhs hlg h1 he hisb hroom
  generalize prs[r] = p at *
  generalize hSQ : (pendB R).s = sq at *
  generalize commitS R = R' at *
  obtain ⟨fr, HF⟩ : ∃ fr, Hid (Wv.frameB (pendB R) = fr) := ⟨_, rfl⟩
  rw [HF.out] at HC ⊢
  clear hSQ
  go_enter Tryz.func21, Tryz.ntmps21
  go_wp2_with fail
  refine HU.out.mono ?_
  rintro e w1 ⟨rfl, hw1⟩
  subst hw1
  go_wp2_with fail
  refine HC.out.mono ?_
  rintro e w2 ⟨rfl, h2⟩
  obtain ⟨own2, rg2, cc2, pp2, ch2, pv2, prs2, hE2, hS2, hen2, hT2⟩ := h2
  have HS2 : Hid (StIn w2 own2 s rg2 cc2 pp2 ch2 pv2 prs2 { S with reps := S.reps.set r R' }) := hS2
  have HEN2 : Hid (Env w0 w2 own2 eb ef) := hen2
  have HE2 : Hid (Ext own own2 w1.heap.size) := hE2
  have HT2 : Hid (Tch (fun k => 1 ≤ own k ∧ own k ≤ 100) w1 w2) := hT2
  clear hE2 hS2 hen2 hT2 HC HU
  go_wp2_with fail
  refine (wspread_room own2 s rg2 cc2 pp2 ch2 pv2 prs2 { S with reps := S.reps.set r R' } r fr w2 w0 eb ef HEN2.out HS2.out HRM.out).mono ?_
  rintro e w3 ⟨rfl, h3⟩
  have HE : Hid (StOk w0 w1 own s ⟨S.reps.set r R', S.msgs ++ sprd r fr S.reps.length⟩ eb ef w3) := by
    have h4 := StOk.from HE2.out HT2.out h3
    have e : (S.reps.set r R').length = S.reps.length := List.length_set
    rw [show sprd r fr ({ S with reps := S.reps.set r R' } : Sto).reps.length = sprd r fr S.reps.length from by rw [← e]] at h4
    exact h4
  clear h3
  go_wp2
  go_ret2
  exact ⟨rfl, HE.out⟩
set_option maxHeartbeats 800000 in
theorem wmsgs_any (own : Clr) (s rg cc pp ch : Nat) (pv : Value) (prs : List Nat) (S : Sto) (w : World) (h : StIn w own s rg cc pp ch pv prs S) :
    Calls Tryz.prog 27 #[.pointer (some ⟨s, 0, none⟩)] w fun e w' => ∃ v, e = .returned (.tuple #[v, I 0]) ∧ w'.ownsRow w.heap.size 59 4 v S.msgs.length (flat mgCells S.msgs) ∧ Below w.heap.size w w' := by
  have HC : Hid (Calls Tryz.prog 52 #[.pointer (some ⟨pp, 0, none⟩)] w fun e w' => MsgsOk w S.msgs e w') := pmsgs_any own 100 pp ch pv S.msgs w h.post
  have c1 : w.cell? ⟨s, 1, none⟩ = some (.pointer (some ⟨pp, 0, none⟩)) := h.blk.cell 1
  clear h
  have HG : Hid (∀ e w', (∃ v, e = Ending.returned (.tuple #[v, I 0]) ∧ w'.ownsRow w.heap.size 59 4 v S.msgs.length (flat mgCells S.msgs) ∧ Below w.heap.size w w') → (∃ v, e = Ending.returned (.tuple #[v, I 0]) ∧ w'.ownsRow w.heap.size 59 4 v S.msgs.length (flat mgCells S.msgs) ∧ Below w.heap.size w w')) := fun _ _ h => h
  clear HG
  go_enter Tryz.func27, Tryz.ntmps27
  go_wp2_with fail
  refine HC.out.mono ?_
  rintro e w1 ⟨v, rfl, h1, hb1⟩
  have HO : Hid (w1.ownsRow w.heap.size 59 4 v S.msgs.length (flat mgCells S.msgs)) := h1
  have HB : Hid (Below w.heap.size w w1) := hb1
  clear h1 hb1
  go_wp2
  go_ret2
  exact ⟨v, rfl, HO.out, HB.out⟩
set_option maxHeartbeats 800000 in
theorem wtwice_room (own : Clr) (s rg cc pp ch : Nat) (pv : Value) (prs : List Nat) (S : Sto) (i : Nat) (m : Ms) (w w0 : World) (eb ef : Addr) (hen : Env w0 w own eb ef) (h : StIn w own s rg cc pp ch pv prs S) (hl : S.msgs.length < 40) (hi : S.msgs[i]? = some m) :
    Calls Tryz.prog 28 #[.pointer (some ⟨s, 0, none⟩), I i] w fun e w' => e = .returned (I 0) ∧ StOk w0 w own s { S with msgs := S.msgs ++ [m] } eb ef w' := by
  have HC : Hid (Calls Tryz.prog 53 #[.pointer (some ⟨pp, 0, none⟩), I i] w fun e w' => e = .returned (I 0) ∧ StOk w0 w own s { S with msgs := S.msgs ++ [m] } eb ef w') := (ptwice_room own 100 pp ch pv S.msgs i m w h.post hl hi).mono (fun e w' hh => ⟨hh.1, StOk.po h hen hh.2⟩)
  have c1 : w.cell? ⟨s, 1, none⟩ = some (.pointer (some ⟨pp, 0, none⟩)) := h.blk.cell 1
  clear h hen hi
  go_enter Tryz.func28, Tryz.ntmps28
  go_wp2_with fail
  refine HC.out.mono ?_
  rintro e w1 ⟨rfl, h1⟩
  have HE : Hid (StOk w0 w own s { S with msgs := S.msgs ++ [m] } eb ef w1) := h1
  clear h1
  go_wp2
  go_ret
  exact ⟨rfl, HE.out⟩
set_option maxHeartbeats 800000 in
theorem wspoil_yes (own : Clr) (s rg cc pp ch : Nat) (pv : Value) (prs : List Nat) (S : Sto) (i j k : Nat) (m : Ms) (w w0 : World) (eb ef : Addr) (hen : Env w0 w own eb ef) (h : StIn w own s rg cc pp ch pv prs S) (hi : S.msgs[i]? = some m) (hsp : m.sp = false) (hk0 : 1 ≤ k) (hk1 : k ≤ 255) (hj : j < m.bs.length) (hl : m.bs.length ≤ 100000) :
    Calls Tryz.prog 29 #[.pointer (some ⟨s, 0, none⟩), I i, I j, I k] w fun e w' => e = .returned (I 0) ∧ StOk w0 w own s { S with msgs := S.msgs.set i (spoilM m j k) } eb ef w' := by
  have HC : Hid (Calls Tryz.prog 54 #[.pointer (some ⟨pp, 0, none⟩), I i, I j, I k] w fun e w' => e = .returned (I 0) ∧ StOk w0 w own s { S with msgs := S.msgs.set i (spoilM m j k) } eb ef w') := (pspoil_yes own 100 pp ch pv S.msgs i j k m w h.post hi hsp hk0 hk1 hj hl).mono (fun e w' hh => ⟨hh.1, StOk.po h hen hh.2⟩)
  have c1 : w.cell? ⟨s, 1, none⟩ = some (.pointer (some ⟨pp, 0, none⟩)) := h.blk.cell 1
  clear h hen hi
  go_enter Tryz.func29, Tryz.ntmps29
  go_wp2_with fail
  refine HC.out.mono ?_
  rintro e w1 ⟨rfl, h1⟩
  have HE : Hid (StOk w0 w own s { S with msgs := S.msgs.set i (spoilM m j k) } eb ef w1) := h1
  clear h1
  go_wp2
  go_ret
  exact ⟨rfl, HE.out⟩

end Go.Proofs.YtfmcngncaffloaaGreatDoor

namespace Go.Proofs.YtfmcngncaffloaaGreatDoor
open Go.RowKit
set_option maxRecDepth 100000

/-- What a frame makes of a replica, wherever that lies. -/
def TFrame (w0 : World) (eb ef : Addr) (R : Rp) (l : List UInt8) (R' : Rp) : Prop := ∀ (own : Clr) (c p : Nat) (w : World), 0 < c → Env w0 w own eb ef → RpAt w own c p R → Calls Tryz.prog 79 #[.pointer (some ⟨p, 0, none⟩), .string ⟨l.toArray⟩] w fun e w' => e = .returned (.tuple #[]) ∧ ROk w own c p R' w'
theorem tframe_none {w0 : World} {eb ef : Addr} {R : Rp} {l : List UInt8} (hI : ItoaSaid) (hg : Gd w0) (hl : l.length ≤ 9223372036854775807) (hd : Wv.dec l = none) : TFrame w0 eb ef R l R :=
  fun own c p w _ hen h => takeFrame_none own c p R l w w0 eb ef hI (hg.kept hen.bel) hen h hl hd
theorem tframe_new {w0 : World} {eb ef : Addr} {R : Rp} {l : List UInt8} {b : Wv.Bt} (hI : ItoaSaid) (hg : Gd w0) (hok : Rok R) (hd : Wv.dec l = some b) (hf : b.clock.length = R.clock.length) (hs : ¬ b.s ≤ R.clock.getD b.o.toNat 0) : TFrame w0 eb ef R l (frameR R l) :=
  fun own c p w hc hen h => takeFrame_new own c p R l b w w0 eb ef hI (hg.kept hen.bel) hen hc h hok hd hf hs
set_option maxHeartbeats 1600000 in
theorem wtakeIn_frame (own : Clr) (s rg cc pp ch : Nat) (pv : Value) (prs : List Nat) (S : Sto) (f : Int) (t : Nat) (l : List UInt8) (R R' : Rp) (w w0 : World) (eb ef : Addr) (hen : Env w0 w own eb ef) (h : StIn w own s rg cc pp ch pv prs S) (hR : S.reps[t]? = some R) (hst : R.st ≠ 2) (hTF : TFrame w0 eb ef R l R') :
    Calls Tryz.prog 51 #[.pointer (some ⟨s, 0, none⟩), .agg #[I 1, I f, I t, .string ⟨l.toArray⟩]] w fun e w' => e = .returned (.tuple #[]) ∧ StOk w0 w own s { S with reps := S.reps.set t R' } eb ef w' := by
  obtain ⟨wA, hwA⟩ : ∃ wA, wA = w.alloc (.cells #[I 1, I f, I t, .string ⟨l.toArray⟩] 59) := ⟨_, rfl⟩
  have hBA : Below w.heap.size w wA := by rw [hwA]; exact (Below.refl _ _).alloc (Nat.le_refl _) _
  have HX : Hid (Blk wA w.heap.size #[I 1, I f, I t, .string ⟨l.toArray⟩] 59) := by rw [hwA]; exact heap_alloc_new w _
  have hSA : StIn wA (newTo own w.heap.size 0) s rg cc pp ch pv prs S := h.below hBA
  have henA : Env w0 wA (newTo own w.heap.size 0) eb ef := hen.tch (F := fun _ => False) (Tch.below hBA) (fun _ _ h => h) (newTo_ext _ _ _)
  obtain ⟨hr, hrp⟩ := hSA.prl hR
  have HU : Hid (Calls Tryz.prog 39 #[.pointer (some ⟨s, 0, none⟩), I t] wA fun e w' => e = .returned (.tuple #[.pointer (some ⟨prs[t], 0, none⟩), I 0]) ∧ w' = wA) := sup_yes _ s rg cc pp ch pv prs S t hr R hR hst wA hSA
  have HC : Hid (Calls Tryz.prog 79 #[.pointer (some ⟨prs[t], 0, none⟩), .string ⟨l.toArray⟩] wA fun e w' => e = .returned (.tuple #[]) ∧ StOk w0 w own s { S with reps := S.reps.set t R' } eb ef w') := (hTF _ (1 + 11 * t) prs[t] wA (by omega) henA hrp).mono (fun e w' hh => ⟨hh.1, StOk.from (newTo_ext _ _ _) (Tch.below hBA) (StOk.rep hSA henA t hr hh.2)⟩)
  clear h hen hSA henA hrp hR hst hTF hBA
  generalize prs[t] = p at *
  have x0 : wA.cell? ⟨w.heap.size, 0, none⟩ = some (I 1) := HX.out.cell 0
  have x1 : wA.cell? ⟨w.heap.size, 1, none⟩ = some (I f) := HX.out.cell 1
  have x2 : wA.cell? ⟨w.heap.size, 2, none⟩ = some (I t) := HX.out.cell 2
  have x3 : wA.cell? ⟨w.heap.size, 3, none⟩ = some (.string ⟨l.toArray⟩) := HX.out.cell 3
  go_enter Tryz.func51, Tryz.ntmps51
  go_wp2_with fail
  rw [← hwA]
  clear hwA
  refine HU.out.mono ?_
  rintro e w1 ⟨rfl, hw1⟩
  subst hw1
  go_wp2_with fail
  refine HC.out.mono ?_
  rintro e w2 ⟨rfl, h2⟩
  have HE : Hid (StOk w0 w own s { S with reps := S.reps.set t R' } eb ef w2) := h2
  clear h2
  go_wp2
  go_end0
  exact ⟨rfl, HE.out⟩
set_option maxHeartbeats 1600000 in
theorem wdeliver_frame (own : Clr) (s rg cc pp ch : Nat) (pv : Value) (prs : List Nat) (S : Sto) (i : Nat) (f : Int) (t : Nat) (l : List UInt8) (sp : Bool) (R R' : Rp) (w w0 : World) (eb ef : Addr) (hen : Env w0 w own eb ef) (h : StIn w own s rg cc pp ch pv prs S) (hi : S.msgs[i]? = some ⟨1, f, t, l, sp⟩) (hR : S.reps[t]? = some R) (hst : R.st ≠ 2) (hTF : TFrame w0 eb ef R l R') :
    Calls Tryz.prog 26 #[.pointer (some ⟨s, 0, none⟩), I i] w fun e w' => e = .returned (I 0) ∧ StOk w0 w own s ⟨S.reps.set t R', S.msgs.eraseIdx i⟩ eb ef w' := by
  have HC : Hid (Calls Tryz.prog 50 #[.pointer (some ⟨pp, 0, none⟩), I i] w fun e w' => e = .returned (.tuple #[.agg #[I 1, I f, I t, .string ⟨l.toArray⟩], I 0]) ∧ StOk w0 w own s { S with msgs := S.msgs.eraseIdx i } eb ef w') := (ptake_yes own 100 pp ch pv S.msgs i _ w h.post hi).mono (fun e w' hh => ⟨hh.1, StOk.po h hen hh.2⟩)
  have c1 : w.cell? ⟨s, 1, none⟩ = some (.pointer (some ⟨pp, 0, none⟩)) := h.blk.cell 1
  have HR : Hid (S.reps[t]? = some R) := hR
  have HST : Hid (R.st ≠ 2) := hst
  have HTF : Hid (TFrame w0 eb ef R l R') := hTF
  clear h hen hi hR hst hTF
  go_enter Tryz.func26, Tryz.ntmps26
  go_wp2_with fail
  refine HC.out.mono ?_
  rintro e w1 ⟨rfl, h1⟩
  obtain ⟨own2, rg2, cc2, pp2, ch2, pv2, prs2, hE2, hS2, hen2, hT2⟩ := h1
  have HS2 : Hid (StIn w1 own2 s rg2 cc2 pp2 ch2 pv2 prs2 { S with msgs := S.msgs.eraseIdx i }) := hS2
  have HEN2 : Hid (Env w0 w1 own2 eb ef) := hen2
  have HE2 : Hid (Ext own own2 w.heap.size) := hE2
  have HT2 : Hid (Tch (fun k => 1 ≤ own k ∧ own k ≤ 100) w w1) := hT2
  clear hE2 hS2 hen2 hT2 HC
  have HB3 : Hid (Below w1.heap.size w1 (w1.alloc (.cells #[I 1, I f, I t, .string ⟨l.toArray⟩] 59))) := (Below.refl _ _).alloc (Nat.le_refl _) _
  go_wp2_with fail
  refine (wtakeIn_frame (newTo own2 w1.heap.size 0) s rg2 cc2 pp2 ch2 pv2 prs2 { S with msgs := S.msgs.eraseIdx i } f t l R R' (w1.alloc (.cells #[I 1, I f, I t, .string ⟨l.toArray⟩] 59)) w0 eb ef (HEN2.out.tch (F := fun _ => False) (Tch.below HB3.out) (fun _ _ h => h) (newTo_ext _ _ _)) (HS2.out.below HB3.out) HR.out HST.out HTF.out).mono ?_
  rintro e w3 ⟨rfl, h3⟩
  have HE : Hid (StOk w0 w own s ⟨S.reps.set t R', S.msgs.eraseIdx i⟩ eb ef w3) := StOk.from HE2.out HT2.out (StOk.from (newTo_ext _ _ _) (Tch.below HB3.out) h3)
  clear h3
  go_wp2
  go_ret
  exact ⟨rfl, HE.out⟩

end Go.Proofs.YtfmcngncaffloaaGreatDoor

namespace Go.Proofs.YtfmcngncaffloaaGreatDoor
open Go.RowKit
set_option maxRecDepth 100000

abbrev ptrV (p : Nat) : Value := .pointer (some ⟨p, 0, none⟩)
theorem infoPr : (Tryz.prog.info? 84).map (fun i => (i.zero, i.size, i.bytes)) = some (some (.pointer none), 1, 8) := by kernel_rfl
/-- A new store. -/
def newS (n : Nat) : Sto := ⟨(List.range n).map (fun i => newR i n), []⟩
def WnewOk (w0 w : World) (own : Clr) (n : Nat) (eb ef : Addr) (e : Ending) (w' : World) : Prop := ∃ s, e = .returned (.tuple #[.pointer (some ⟨s, 0, none⟩), I 0]) ∧ StOk w0 w own s (newS n) eb ef w' ∧ Below w.heap.size w w'
/-- A store that gets its replicas. -/
structure NsAt (w wr : World) (own own' : Clr) (s n pp ch : Nat) (rv : Value) (prs : List Nat) : Prop where
  bel : Below w.heap.size w wr
  ext : Ext own own' w.heap.size
  blk : Blk wr s #[rv, .pointer (some ⟨pp, 0, none⟩)] 83
  ls : w.heap.size ≤ s
  row : wr.ownsRow w.heap.size 84 1 rv prs.length (prs.map ptrV)
  reps : ∀ r (h : r < prs.length), RpAt wr own' (1 + 11 * r) prs[r] (newR r n)
  post : PoIn wr own' 100 pp ch (.slice none 0 0) []
  c1 : own' s = 900
  c2 : ∀ g, rv.ownBlock = some g → own' g = 900
theorem NsAt.begin {w w1 : World} {own own1 : Clr} {n pp ch : Nat} (hb : Below w.heap.size w w1) (he : Ext own own1 w.heap.size) (hp : PoIn w1 own1 100 pp ch (.slice none 0 0) []) : NsAt w (w1.alloc (.cells #[.slice none 0 0, .pointer (some ⟨pp, 0, none⟩)] 83)) own (newTo own1 w1.heap.size 900) w1.heap.size n pp ch (.slice none 0 0) [] :=
  ⟨hb.alloc hb.size _, he.trans (newTo_ext _ _ _) hb.size, heap_alloc_new w1 _, hb.size, ⟨rfl, .inl ⟨rfl, rfl⟩⟩, fun r h => absurd h (by simp), hp.keep (fun b hl _ => Below.heap_alloc _ _ _ hl) (newTo_ext _ _ _), newTo_new _ _ _ _ (Nat.le_refl _), fun g e => (by simp [Value.ownBlock] at e)⟩
theorem NsAt.kept {w wr w5 : World} {own own' own5 : Clr} {s n pp ch : Nat} {rv : Value} {prs : List Nat} (h : NsAt w wr own own' s n pp ch rv prs) (hb : Below wr.heap.size wr w5) (he : Ext own' own5 wr.heap.size) : NsAt w w5 own own5 s n pp ch rv prs :=
  ⟨h.bel.trans (hb.mono h.bel.size), h.ext.trans he h.bel.size, h.blk.kept hb h.blk.lt, h.ls, own_kept h.row (fun g e => hb.block g (h.row.lt g e).2), fun r hr => (h.reps r hr).keep (fun b hl _ => hb.block b hl) (fun _ _ _ b hl _ => hb.block b hl) he, h.post.keep (fun b hl _ => hb.block b hl) he, (he s h.blk.lt).trans h.c1, fun g e => (he g (h.row.lt g e).2).trans (h.c2 g e)⟩
theorem NsAt.ne {w wr : World} {own own' : Clr} {s n pp ch : Nat} {rv : Value} {prs : List Nat} (h : NsAt w wr own own' s n pp ch rv prs) : ¬ rv.ownBlock = some s := by
  intro e
  rcases h.row.2 with ⟨rfl, _⟩ | ⟨g, cap, cur, rfl, _, hg, _⟩
  · cases e
  · have e : g = s := by simpa [Value.ownBlock] using e
    subst e
    have h9 := hg.symm.trans h.blk
    simp at h9
theorem NsAt.step {w w5 w6 w7 : World} {own own5 : Clr} {s n pp ch g7 cap7 p : Nat} {rv : Value} {prs : List Nat} (h : NsAt w w5 own own5 s n pp ch rv prs) (hl : prs.length ≤ 4) (hR : RpAt w5 own5 (1 + 11 * prs.length) p (newR prs.length n)) (hb : Below w5.heap.size w5 w6) (hg : w6.grownBy w7 rv.ownBlock) (ho : w7.ownsRow w.heap.size 84 1 (.slice (some ⟨g7, 0, none⟩) (prs.length + 1) cap7) (prs.length + 1) (prs.map ptrV ++ [ptrV p])) (ha : rv.ownBlock = some g7 ∨ w5.heap.size ≤ g7) :
    NsAt w (w7.setCell ⟨s, 0, none⟩ (.slice (some ⟨g7, 0, none⟩) (prs.length + 1) cap7)) own (newTo own5 w5.heap.size 900) s n pp ch (.slice (some ⟨g7, 0, none⟩) (prs.length + 1) cap7) (prs ++ [p]) := by
  have he := newTo_ext own5 w5.heap.size 900
  have h6 : NsAt w w6 own (newTo own5 w5.heap.size 900) s n pp ch rv prs := h.kept hb he
  have hR6 : RpAt w6 (newTo own5 w5.heap.size 900) (1 + 11 * prs.length) p (newR prs.length n) := hR.keep (fun b hl _ => hb.block b hl) (fun _ _ _ b hl _ => hb.block b hl) he
  have hne := h6.ne
  have hT7 : Tch (fun k => rv.ownBlock = some k) w6 w7 := Tch.grown hg
  have hT8 : Tch (fun k => rv.ownBlock = some k ∨ k = s) w6 (w7.setCell ⟨s, 0, none⟩ (.slice (some ⟨g7, 0, none⟩) (prs.length + 1) cap7)) := (hT7.mono (fun _ _ h => Or.inl h)).setCell ⟨s, 0, none⟩ _ (Or.inl (Or.inr rfl))
  have hS : ∀ d, d ≠ 900 → Same (newTo own5 w5.heap.size 900) d w6 (w7.setCell ⟨s, 0, none⟩ (.slice (some ⟨g7, 0, none⟩) (prs.length + 1) cap7)) := fun d hd => hT8.same (fun k e e2 => hd (by
    rcases e2 with e2 | e2
    · rw [← e]; exact h6.c2 k e2
    · rw [← e, e2]; exact h6.c1))
  have hlen : (prs ++ [p]).length = prs.length + 1 := by simp
  have hsg : s ≠ g7 := by
    rcases ha with ha | ha
    · rintro rfl; exact h.ne ha
    · have := h.blk.lt; omega
  have hsw := h.ls
  refine ⟨?_, h6.ext, (hT7.blk h6.blk hne).set 0 _, h.ls, ?_, fun r hr => ?_, h6.post.keep (hS 100 (by omega)) (Ext.refl _ _), h6.c1, fun g e => ?_⟩
  · refine h6.bel.trans (hT8.toBelow h6.bel.size (fun k hk e => ?_))
    rcases e with e | e
    · have := (h6.row.lt k e).1; omega
    · omega
  · rw [hlen, List.map_append]
    exact own_kept ho (fun b e => heap_setCell_other _ ⟨s, 0, none⟩ b _ (by cases e; exact hsg.symm))
  · by_cases hrl : r < prs.length
    · rw [List.getElem_append_left hrl]
      exact (h6.reps r hrl).keep (hS 0 (by omega)) (fun d a b => hS d (by omega)) (Ext.refl _ _)
    · have : r = prs.length := by simp at hr; omega
      subst this
      rw [List.getElem_concat_length rfl]
      exact hR6.keep (hS 0 (by omega)) (fun d a b => hS d (by omega)) (Ext.refl _ _)
  · cases e
    rcases ha with ha | ha
    · exact h6.c2 _ ha
    · exact newTo_new _ _ _ _ ha
theorem NsAt.fin {w wr w0 : World} {own own' : Clr} {s n pp ch : Nat} {rv : Value} {prs : List Nat} {eb ef : Addr} (h : NsAt w wr own own' s n pp ch rv prs) (hl : prs.length = n) (hn2 : 2 ≤ n) (hn4 : n ≤ 4) (hen : Env w0 w own eb ef) : StOk w0 w own s (newS n) eb ef wr := by
  obtain ⟨g, cp, rfl⟩ := row_some h.row (by omega)
  have e : (newS n).reps.length = n := by simp [newS]
  refine ⟨own', g, cp, pp, ch, .slice none 0 0, prs, h.ext, ⟨?_, fun r hr => ?_, by rw [e, hl], by rw [e]; exact hn4, by rw [e]; exact hn2, h.c1, h.c2 g rfl, fun r h1 h2 => ?_, h.post⟩, hen.tch (F := fun _ => False) (Tch.below h.bel) (fun _ _ h => h) h.ext, Tch.below h.bel⟩
  · rw [e, ← hl]; exact h.blk
  · have := h.row.cells (g := g) rfl r (ptrV prs[r]) (by simp [hr])
    rw [Addr.add_lit, Nat.zero_add] at this
    exact this
  · have e2 : (newS n).reps[r] = newR r n := by simp [newS]
    rw [e2]
    exact h.reps r h1
set_option maxHeartbeats 3200000 in
theorem wnew_any (own : Clr) (n : Nat) (w w0 : World) (eb ef : Addr) (hen : Env w0 w own eb ef) (hn2 : 2 ≤ n) (hn4 : n ≤ 4) :
    Calls Tryz.prog 14 #[I n] w fun e w' => WnewOk w0 w own n eb ef e w' := by
  have hni : ¬ (n : Int) < 2 := by omega
  have hnj : ¬ (n : Int) > 4 := by omega
  have HEN : Hid (Env w0 w own eb ef) := hen
  clear hen
  obtain ⟨ii, HI⟩ : ∃ i, Hid (Tryz.prog.info? 84 = some i ∧ i.zero = some (.pointer none) ∧ i.size = 1 ∧ i.bytes = 8) := by obtain ⟨i, h⟩ := info_parts infoPr; exact ⟨i, h⟩
  go_enter Tryz.func14, Tryz.ntmps14
  go_wp2_with fail
  refine (pnew_any own 100 w).mono ?_
  rintro e w1 ⟨pp, ch, own1, rfl, hb1, he1, hp1⟩
  have HN : Hid (NsAt w (w1.alloc (.cells #[.slice none 0 0, .pointer (some ⟨pp, 0, none⟩)] 83)) own (newTo own1 w1.heap.size 900) w1.heap.size n pp ch (.slice none 0 0) []) := NsAt.begin hb1 he1 hp1
  clear hb1 he1 hp1
  go_wp2_with fail
  generalize w1.heap.size = s at *
  go_loopw [16] (fun x wX => ∃ (own' : Clr) (rv : Value) (prs : List Nat), prs.length ≤ n ∧ x = I prs.length ∧ Hid (NsAt w wX own own' s n pp ch rv prs)) (fun x _ => n - (intOf x).toNat)
  case atStart => exact ⟨_, _, [], by simp, rfl, HN⟩
  case round =>
    obtain ⟨own', rv, prs, hl, rfl, HL⟩ := hrel
    clear HN
    by_cases hlt : prs.length < n
    · have hki : (prs.length : Int) < n := by omega
      have c0 : wr.cell? ⟨s, 0, none⟩ = some rv := HL.out.blk.cell 0
      have hp4 : prs.length ≤ 4 := by omega
      go_wp2_with fail
      go_region_law (first
        | (go_simp; go_at_call 38; refine (rnew_any own' (1 + 11 * prs.length) prs.length n _ hn4).mono ?_; rintro e w5 ⟨p, own5, rfl, hb5, he5, hr5⟩; have HB5 : Hid (Below wr.heap.size wr w5) := (by first | exact (Below.refl _ _).drew.trans hb5 | exact hb5); have HN5 : Hid (NsAt w w5 own own5 s n pp ch rv prs) := HL.out.kept HB5.out he5; have HR5 : Hid (RpAt w5 own5 (1 + 11 * prs.length) p (newR prs.length n)) := hr5; clear hb5 he5 hr5; have c5 : w5.cell? ⟨s, 0, none⟩ = some rv := HN5.out.blk.cell 0; have c6 : (w5.alloc (.cells #[.pointer (some ⟨p, 0, none⟩)] 84)).cell? ⟨s, 0, none⟩ = some rv := cell_kept ((Below.refl _ _).alloc (Nat.le_refl _) _) c5)
        | (refine step_append_lies _ (by rfl) _ _ _ (by rfl) w.heap.size 84 ii (.pointer none) 1 8 Tryz.underlying81 HI.out.1 HI.out.2.1 HI.out.2.2.1 HI.out.2.2.2 (by rfl) (by omega) rv prs.length (prs.map ptrV) (by rfl) (by first | exact HN5.out.row.alloc _ | exact (HN5.out.row.alloc _).drew) ⟨w5.heap.size, 0, none⟩ 1 1 [ptrV p] (by rfl) (by rfl) (by first | exact lit_any w5 _ _ | exact lit_drew w5 _ _) (by intro u hu; simp at hu; subst hu; rfl) (by omega) (by unfold maxLen; omega) (by omega) (by have := HN5.out.bel.size; simp; omega) (w5.heap.size + 1) (by simp) ?_; intro g7 cap7 w7 hown7 hgrow7 hat7 hlt7; have HE7 : Hid (NsAt w (w7.setCell ⟨s, 0, none⟩ (.slice (some ⟨g7, 0, none⟩) (prs.length + 1) cap7)) own (newTo own5 w5.heap.size 900) s n pp ch (.slice (some ⟨g7, 0, none⟩) (prs.length + 1) cap7) (prs ++ [p])) := HN5.out.step hp4 HR5.out ((Below.refl _ _).alloc (Nat.le_refl _) _) hgrow7 hown7 (hat7.imp id (fun e => by omega)); have HK7 : Hid (Blk w7 s #[rv, .pointer (some ⟨pp, 0, none⟩)] 83) := (Tch.grown hgrow7).blk (HN5.out.blk.alloc _) HN5.out.ne; have c7 : w7.cell? ⟨s, 0, none⟩ = some rv := HK7.out.cell 0; have z7 : w7.frozen? ⟨s, 0, none⟩ = false := HK7.out.frozen 0; clear hown7 hgrow7 hat7 hlt7))
      all_goals
        (have HLN : Hid ((prs ++ [p]).length = prs.length + 1) := by show _ = _; simp
         clear c5 c6 c7 z7 HK7 HR5 HN5 HB5 HL
         go_wp2_with fail
         go_roundw
         case rel => exact ⟨_, _, prs ++ [p], by rw [HLN.out]; omega, by rw [HLN.out]; go_num, HE7⟩
         case measure => simp [intOf]; omega)
    · have hki : ¬ (prs.length : Int) < n := by omega
      have HE : Hid (StOk w0 w own s (newS n) eb ef wr) := HL.out.fin (by omega) hn2 hn4 HEN.out
      go_wp2
      go_ret2
      exact ⟨s, rfl, HE.out, HL.out.bel⟩

end Go.Proofs.YtfmcngncaffloaaGreatDoor
