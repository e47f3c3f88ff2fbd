import Derived.Test.YtfmcngncaffloaaGreatDoorG14RpB
import Derived.Test.YtfmcngncaffloaaGreatDoorG15OmA
namespace Go.Proofs.YtfmcngncaffloaaGreatDoor
open Go.RowKit
set_option maxRecDepth 100000

/-- What a replica is. -/
structure Rp where
  n : Int
  st : Int
  clock : List Int
  time : Int
  obs : List Ob
  log : List UInt8
  synced : Int
  held : List Wv.Bt
  effs : List Wv.Ef
/-- Its objects, in a map: none of them where it is down. -/
def ObsAt (w : World) (own : Clr) (c : Nat) (mv : Value) (obs : List Ob) : Prop :=
  (obs = [] ∧ mv = .map none) ∨ ∃ mb vs, mv = .map (some mb) ∧ own mb = c ∧ OmAt w mb vs ∧ vs.length = 8 ∧ obs.length = 8 ∧ ∀ k (h1 : k < vs.length) (h2 : k < obs.length), ObAt w own (c + 1 + k) vs[k] obs[k]
/-- What is held back, in a heap. -/
structure HeldAt (w : World) (own : Clr) (c hp : Nat) (hv : Value) (hs : List Bm) : Prop where
  hpx : HpIn w hp hv hs
  own1 : own hp = c
  own2 : ∀ g, hv.ownBlock = some g → own g = c
  bats : ∀ m ∈ hs, BatIn w own m
/-- The effects of the open transaction. -/
structure EffsAt (w : World) (own : Clr) (c : Nat) (ev : Value) (es : List Em) : Prop where
  row : w.ownsRow 0 149 7 ev es.length (flat Em.cells es)
  own2 : ∀ g, ev.ownBlock = some g → own g = c
  dots : ∀ x ∈ es, At0 w own x.da (flat dotCells x.e.dots)
/-- A replica in memory: blocks of c to c + 10. -/
structure RpIn (w : World) (own : Clr) (c p : Nat) (R : Rp) (cg cc hp : Nat) (mv hv ev : Value) (hs : List Bm) (es : List Em) : Prop where
  blk : Blk w p #[I R.n, I R.st, .slice (some ⟨cg, 0, none⟩) R.clock.length cc, I R.time, mv, .string ⟨R.log.toArray⟩, I R.synced, .pointer (some ⟨hp, 0, none⟩), ev] 130
  clk : Blk w cg (R.clock.map I).toArray 3
  own1 : own p = c
  own2 : own cg = c
  obs : ObsAt w own c mv R.obs
  held : HeldAt w own (c + 9) hp hv hs
  heldB : R.held = hs.map (·.b)
  effs : EffsAt w own (c + 10) ev es
  effsE : R.effs = es.map (·.e)
def RpAt (w : World) (own : Clr) (c p : Nat) (R : Rp) : Prop := ∃ cg cc hp mv hv ev hs es, RpIn w own c p R cg cc hp mv hv ev hs es

theorem ObsAt.keep {w w' : World} {own own' : Clr} {c : Nat} {mv : Value} {obs : List Ob} (h : ObsAt w own c mv obs) (hs : ∀ d, c ≤ d → d ≤ c + 8 → Same own d w w') (he : Ext own own' w.heap.size) : ObsAt w' own' c mv obs := by
  rcases h with h | ⟨mb, vs, e, ho, hm, h1, h2, hk⟩
  · exact Or.inl h
  · exact Or.inr ⟨mb, vs, e, (he mb hm.lt).trans ho, hm.same (hs c (Nat.le_refl _) (by omega) mb hm.lt ho), h1, h2, fun k a b => (hk k a b).keep (hs _ (by omega) (by omega)) he⟩
theorem HpIn.keep {w w' : World} {own : Clr} {c hp : Nat} {v : Value} {bs : List Bm} (h : HpIn w hp v bs) (h1 : own hp = c) (h2 : ∀ g, v.ownBlock = some g → own g = c) (hs : Same own c w w') : HpIn w' hp v bs :=
  ⟨(hs hp h.blk.lt h1).trans h.blk, own_kept h.row (fun g e => hs g (h.row.lt g e).2 (h2 g e))⟩
theorem HeldAt.keep {w w' : World} {own own' : Clr} {c hp : Nat} {hv : Value} {hs : List Bm} (h : HeldAt w own c hp hv hs) (h0 : Same own 0 w w') (h1 : Same own c w w') (he : Ext own own' w.heap.size) : HeldAt w' own' c hp hv hs :=
  ⟨h.hpx.keep h.own1 h.own2 h1, (he hp h.hpx.blk.lt).trans h.own1, fun g e => (he g (h.hpx.row.lt g e).2).trans (h.own2 g e), fun m hm => (h.bats m hm).keep h0 he⟩
theorem EffsAt.keep {w w' : World} {own own' : Clr} {c : Nat} {ev : Value} {es : List Em} (h : EffsAt w own c ev es) (h0 : Same own 0 w w') (h1 : Same own c w w') (he : Ext own own' w.heap.size) : EffsAt w' own' c ev es :=
  ⟨own_kept h.row (fun g e => h1 g (h.row.lt g e).2 (h.own2 g e)), fun g e => (he g (h.row.lt g e).2).trans (h.own2 g e), fun x hx => (h.dots x hx).keep h0 he⟩
theorem RpIn.keep {w w' : World} {own own' : Clr} {c p : Nat} {R : Rp} {cg cc hp : Nat} {mv hv ev : Value} {hs : List Bm} {es : List Em} (h : RpIn w own c p R cg cc hp mv hv ev hs es) (h0 : Same own 0 w w') (hS : ∀ d, c ≤ d → d ≤ c + 10 → Same own d w w') (he : Ext own own' w.heap.size) : RpIn w' own' c p R cg cc hp mv hv ev hs es :=
  ⟨(hS c (Nat.le_refl _) (by omega) p h.blk.lt h.own1).trans h.blk, (hS c (Nat.le_refl _) (by omega) cg h.clk.lt h.own2).trans h.clk, (he p h.blk.lt).trans h.own1, (he cg h.clk.lt).trans h.own2, h.obs.keep (fun d a b => hS d a (by omega)) he, h.held.keep h0 (hS _ (by omega) (by omega)) he, h.heldB, h.effs.keep h0 (hS _ (by omega) (by omega)) he, h.effsE⟩
theorem RpIn.clkAt {w : World} {own : Clr} {c p : Nat} {R : Rp} {cg cc hp : Nat} {mv hv ev : Value} {hs : List Bm} {es : List Em} (h : RpIn w own c p R cg cc hp mv hv ev hs es) : ClkAt w p cg cc R.clock :=
  ⟨h.blk.cell 2, fun j hj => by rw [h.clk.cell]; simp [hj]⟩

end Go.Proofs.YtfmcngncaffloaaGreatDoor

namespace Go.Proofs.YtfmcngncaffloaaGreatDoor
open Go.RowKit
set_option maxRecDepth 100000

theorem tch_set {w w' : World} {p : Nat} (h : Tch (fun k => k = p) w w') (j : Nat) (u : Value) : Tch (fun k => k = p) w (w'.setCell ⟨p, j, none⟩ u) := h.setCell ⟨p, j, none⟩ u (Or.inl rfl)
/-- The replica's own block is another one now; all else stays. -/
theorem RpIn.self {w w' : World} {own : Clr} {c p : Nat} {R R' : Rp} {cg cc hp : Nat} {mv hv ev : Value} {hs : List Bm} {es : List Em} (hc0 : 0 < c) (h : RpIn w own c p R cg cc hp mv hv ev hs es) (hT : Tch (fun k => k = p) w w')
    (hb : Blk w' p #[I R'.n, I R'.st, .slice (some ⟨cg, 0, none⟩) R'.clock.length cc, I R'.time, mv, .string ⟨R'.log.toArray⟩, I R'.synced, .pointer (some ⟨hp, 0, none⟩), ev] 130)
    (e1 : R'.clock = R.clock) (e2 : R'.obs = R.obs) (e3 : R'.held = R.held) (e4 : R'.effs = R.effs) : RpIn w' own c p R' cg cc hp mv hv ev hs es := by
  have hS : ∀ d, d ≠ c → Same own d w w' := fun d hd b hb ho => hT.block b hb (fun e => hd (by rw [← ho, e, h.own1]))
  have hcg : cg ≠ p := by
    rintro rfl
    have := h.blk.symm.trans h.clk
    simp at this
  refine ⟨hb, ?_, h.own1, h.own2, ?_, h.held.keep (hS 0 (by omega)) (hS _ (by omega)) (Ext.refl _ _), e3.trans h.heldB, h.effs.keep (hS 0 (by omega)) (hS _ (by omega)) (Ext.refl _ _), e4.trans h.effsE⟩
  · rw [e1]
    exact hT.blk h.clk hcg
  · rw [e2]
    rcases h.obs with h1 | ⟨mb, vs, e, ho, hm, l1, l2, hk⟩
    · exact Or.inl h1
    · refine Or.inr ⟨mb, vs, e, ho, hm.same (hT.block mb hm.lt ?_), l1, l2, fun k a b => (hk k a b).keep (hS _ (by omega)) (Ext.refl _ _)⟩
      rintro rfl
      obtain ⟨xs, cl, hx, _⟩ := hm
      cases h.blk.symm.trans hx

def beginR (R : Rp) : Rp × Int := if R.st = 1 then (R, 6) else if R.clock.getD R.n.toNat 0 = 30 then (R, 13) else ({ R with st := 1 }, 0)
/-- What a call leaves that writes the replica's own block alone. -/
def SelfOk (w : World) (own : Clr) (c p : Nat) (R : Rp) (cg cc hp : Nat) (mv hv ev : Value) (hs : List Bm) (es : List Em) (w' : World) : Prop := RpIn w' own c p R cg cc hp mv hv ev hs es ∧ Tch (fun k => k = p) w w'

set_option maxHeartbeats 800000 in
theorem rbegin_any (own : Clr) (c p : Nat) (R : Rp) (cg cc hp : Nat) (mv hv ev : Value) (hs : List Bm) (es : List Em) (w : World) (hc0 : 0 < c) (h : RpIn w own c p R cg cc hp mv hv ev hs es) (hn0 : 0 ≤ R.n) (hn1 : R.n < R.clock.length) :
    Calls Tryz.prog 40 #[.pointer (some ⟨p, 0, none⟩)] w fun e w' => e = .returned (I (beginR R).2) ∧ SelfOk w own c p (beginR R).1 cg cc hp mv hv ev hs es w' := by
  have HR : Hid (RpIn w own c p R cg cc hp mv hv ev hs es) := h
  have c0 : w.cell? ⟨p, 0, none⟩ = some (I R.n) := h.blk.cell 0
  have c1 : w.cell? ⟨p, 1, none⟩ = some (I R.st) := h.blk.cell 1
  have c2 : w.cell? ⟨p, 2, none⟩ = some (.slice (some ⟨cg, 0, none⟩) R.clock.length cc) := h.blk.cell 2
  have z1 : w.frozen? ⟨p, 1, none⟩ = false := h.blk.frozen 1
  have hnn : R.n.toNat < R.clock.length := by omega
  have d0 : w.cell? ⟨cg, R.n.toNat, none⟩ = some (I (R.clock.getD R.n.toNat 0)) := by rw [h.clkAt.row _ hnn]; simp [hnn]
  clear h
  go_enter Tryz.func40, Tryz.ntmps40
  by_cases h1 : R.st = 1
  · have HV : Hid (beginR R = (R, 6)) := by show _ = _; unfold beginR; rw [if_pos h1]
    have hb : (R.st == 1) = true := by simp [h1]
    clear h1
    go_wp2
    go_ret
    exact ⟨by rw [HV.out]; rfl, by rw [HV.out]; exact ⟨HR.out, Tch.refl _ _⟩⟩
  · have hb : (R.st == 1) = false := by simp [h1]
    by_cases h2 : R.clock.getD R.n.toNat 0 = 30
    · have HV : Hid (beginR R = (R, 13)) := by show _ = _; unfold beginR; rw [if_neg h1, if_pos h2]
      have hb2 : (R.clock.getD R.n.toNat 0 == 30) = true := by rw [h2]; rfl
      clear h1 h2
      generalize R.clock.getD R.n.toNat 0 = dk at *
      go_wp2_with fail
      go_quiet (fail)
      go_wp2
      go_ret
      exact ⟨by rw [HV.out]; rfl, by rw [HV.out]; exact ⟨HR.out.keep (fun _ _ _ => rfl) (fun _ _ _ _ _ _ => rfl) (Ext.refl _ _), (Tch.refl _ _).drewN nq⟩⟩
    · have HV : Hid (beginR R = ({ R with st := 1 }, 0)) := by show _ = _; unfold beginR; rw [if_neg h1, if_neg h2]
      have hb2 : (R.clock.getD R.n.toNat 0 == 30) = false := beq_eq_false_iff_ne.2 h2
      clear h1 h2
      generalize R.clock.getD R.n.toNat 0 = dk at *
      go_wp2_with fail
      go_quiet (fail)
      have HRQ : Hid (RpIn (w.drewN nq) own c p R cg cc hp mv hv ev hs es) := HR.out.keep (fun _ _ _ => rfl) (fun _ _ _ _ _ _ => rfl) (Ext.refl _ _)
      have y1 : (w.drewN nq).cell? ⟨p, 1, none⟩ = some (I R.st) := HRQ.out.blk.cell 1
      have y2 : (w.drewN nq).frozen? ⟨p, 1, none⟩ = false := HRQ.out.blk.frozen 1
      have HTQ : Hid (Tch (fun k => k = p) w (w.drewN nq)) := (Tch.refl _ _).drewN nq
      clear HR c0 c1 c2 z1 d0
      generalize w.drewN nq = wq at *
      go_wp2
      go_ret
      rw [HV.out]
      exact ⟨rfl, HRQ.out.self hc0 (tch_set (Tch.refl _ _) _ _) (HRQ.out.blk.set 1 _) rfl rfl rfl rfl, tch_set HTQ.out _ _⟩
def endR (R : Rp) : Rp := { R with st := 0, effs := [] }
set_option maxHeartbeats 800000 in
theorem rend_any (own : Clr) (c p : Nat) (R : Rp) (cg cc hp : Nat) (mv hv ev : Value) (hs : List Bm) (es : List Em) (w : World) (hc0 : 0 < c) (h : RpIn w own c p R cg cc hp mv hv ev hs es) :
    Calls Tryz.prog 69 #[.pointer (some ⟨p, 0, none⟩)] w fun e w' => e = .returned (.tuple #[]) ∧ SelfOk w own c p (endR R) cg cc hp mv hv (.slice none 0 0) hs [] w' := by
  have c1 : w.cell? ⟨p, 1, none⟩ = some (I R.st) := h.blk.cell 1
  have c8 : w.cell? ⟨p, 8, none⟩ = some ev := h.blk.cell 8
  have z1 : w.frozen? ⟨p, 1, none⟩ = false := h.blk.frozen 1
  have z8 : w.frozen? ⟨p, 8, none⟩ = false := h.blk.frozen 8
  have HE : Hid (SelfOk w own c p (endR R) cg cc hp mv hv (.slice none 0 0) hs [] ((w.setCell ⟨p, 1, none⟩ (I 0)).setCell ⟨p, 8, none⟩ (.slice none 0 0))) := by
    have hT : Tch (fun k => k = p) w ((w.setCell ⟨p, 1, none⟩ (I 0)).setCell ⟨p, 8, none⟩ (.slice none 0 0)) := tch_set (tch_set (Tch.refl _ _) _ _) _ _
    have hB := (h.blk.set 1 (I 0)).set 8 (.slice none 0 0)
    refine ⟨?_, hT⟩
    have h1 := h.self (R' := { R with st := 0 }) hc0 (tch_set (Tch.refl _ _) 1 (I 0)) (h.blk.set 1 (I 0)) rfl rfl rfl rfl
    have hT2 : Tch (fun k => k = p) (w.setCell ⟨p, 1, none⟩ (I 0)) ((w.setCell ⟨p, 1, none⟩ (I 0)).setCell ⟨p, 8, none⟩ (.slice none 0 0)) := tch_set (Tch.refl _ _) _ _
    have hS : ∀ d, d ≠ c → Same own d (w.setCell ⟨p, 1, none⟩ (I 0)) ((w.setCell ⟨p, 1, none⟩ (I 0)).setCell ⟨p, 8, none⟩ (.slice none 0 0)) := fun d hd b hb ho => hT2.block b hb (fun e => hd (by rw [← ho, e, h.own1]))
    have hcg : cg ≠ p := by
      rintro rfl
      have := h.blk.symm.trans h.clk
      simp at this
    refine ⟨hB, hT2.blk h1.clk hcg, h1.own1, h1.own2, ?_, h1.held.keep (hS 0 (by omega)) (hS _ (by omega)) (Ext.refl _ _), h1.heldB, ⟨⟨rfl, .inl ⟨rfl, rfl⟩⟩, fun g e => (by simp [Value.ownBlock] at e), fun x hx => (by cases hx)⟩, rfl⟩
    rcases h1.obs with h2 | ⟨mb, vs, e, ho, hm, l1, l2, hk⟩
    · exact Or.inl h2
    · refine Or.inr ⟨mb, vs, e, ho, hm.same (hT2.block mb hm.lt ?_), l1, l2, fun k a b => (hk k a b).keep (hS _ (by omega)) (Ext.refl _ _)⟩
      rintro rfl
      obtain ⟨xs, cl, hx, _⟩ := hm
      cases h1.blk.symm.trans hx
  clear h
  go_enter Tryz.func69, Tryz.ntmps69
  go_wp2
  go_end0
  exact ⟨rfl, HE.out⟩

end Go.Proofs.YtfmcngncaffloaaGreatDoor
