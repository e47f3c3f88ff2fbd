import Derived.Test.YtfmcngncaffloaaGreatDoorG32RpG
import Derived.Deep.DeepCutAuto
namespace Go.Proofs.YtfmcngncaffloaaGreatDoor
open Go.RowKit
set_option maxRecDepth 100000

theorem mTakeC (v : Value) (w : World) : (method 492 180 v "Take").run Tryz.prog w = .ok (244, v) w := by kernel_rfl
theorem mTakeS (v : Value) (w : World) : (method 492 183 v "Take").run Tryz.prog w = .ok (248, v) w := by kernel_rfl
theorem mTakeR (v : Value) (w : World) : (method 492 188 v "Take").run Tryz.prog w = .ok (306, v) w := by kernel_rfl
theorem mTakeL (v : Value) (w : World) : (method 492 190 v "Take").run Tryz.prog w = .ok (310, v) w := by kernel_rfl
theorem ObAt.face {w : World} {own : Clr} {c : Nat} {v : Value} {o : Ob} (h : ObAt w own c v o) : ∃ t q, v = .iface t q := by
  cases o with
  | counter n => obtain ⟨p, e, _⟩ := h; exact ⟨_, _, e⟩
  | set m => obtain ⟨p, b, e, _⟩ := h; exact ⟨_, _, e⟩
  | reg m => obtain ⟨p, b, e, _⟩ := h; exact ⟨_, _, e⟩
  | list ls => obtain ⟨p, sv, e, _⟩ := h; exact ⟨_, _, e⟩
/-- An object takes an effect, whatever its kind: the call through the interface. -/
theorem step_invoke_take {ops : Array Oper} {o : Oper} {a : Act} {w : World} {K : Act → World → Prop} {Q : Exit → Act → World → Prop} {E : Prop} (hgd : o.guard = none) (x y z : Operand) (ats : Array TypeId)
    (hop : o.op = .call { callee := .invoke x "Take", args := #[y, z], argTypes := ats }) (v : Value) (ob : Ob) (s : Stp) (m : Em) (own : Clr) (c : Nat) (hx : a.eval x = v) (hy : a.eval y = stV s) (hz : a.eval z = effV m)
    (hob : ObAt w own c v ob) (hsm : ob.small) (h1 : -1000 ≤ m.e.va) (h2 : m.e.va ≤ 1000) (hd : At w m.da (flat dotCells m.e.dots)) (hdl : m.e.dots.length ≤ 1048576)
    (hK : ∀ w', TakeOk own c v (ob.take s m.e) w (.returned (.tuple #[])) w' → K (a.put o.dst (.tuple #[])) w') :
    if Region.wanted o (yielded ops a.tmps) = true then Oper.wp Tryz.prog o a w K Q else E := by
  have hw : Region.wanted o (yielded ops a.tmps) = true := by simp [Region.wanted, hgd]
  rw [if_pos hw]
  have hex : ∀ t q f, v = .iface t q → (∀ w', (method 492 t q "Take").run Tryz.prog w' = .ok (f, q) w') → (callFunc f #[q, stV s, effV m]).run Tryz.prog w = .ok (.enter f #[q, stV s, effV m]) w → (Calls Tryz.prog f #[q, stV s, effV m] w fun e w' => TakeOk own c v (ob.take s m.e) w e w') → Oper.wp Tryz.prog o a w K Q := by
    intro t q f hv hm hcf hcalls
    have hrun : (execOp a.eval o).run Tryz.prog w = .ok (.enter f #[q, stV s, effV m]) w := by
      unfold execOp
      simp only [hop]
      simp only [resolve, invoke, Sem.run_bind, Sem.run_pure, Result.andThen_ok, List.map_toArray, List.map_cons, List.map_nil, hx, hy, hz, hv]
      show (callMethod (.iface t q) "Take" #[stV s, effV m]).run Tryz.prog w = _
      unfold callMethod
      simp [Made.depth, hm, hcf]
    unfold Oper.wp
    rw [hrun, Oper.upon_enter]
    refine hcalls.mono ?_
    intro e w' hT
    have he : e = .returned (.tuple #[]) := hT.1
    subst he
    exact hK w' hT
  cases ob with
  | counter n =>
    obtain ⟨pp, hveq, h⟩ := id hob
    refine hex _ _ _ hveq (fun w' => mTakeC _ w') (by kernel_rfl) ?_
    rw [hveq] at hob ⊢
    exact take_counter s m hob hsm h1 h2
  | set l =>
    obtain ⟨pp, b, hveq, h⟩ := id hob
    refine hex _ _ _ hveq (fun w' => mTakeS _ w') (by kernel_rfl) ?_
    rw [hveq] at hob ⊢
    exact take_set s m hob hd hdl
  | reg l =>
    obtain ⟨pp, b, hveq, h⟩ := id hob
    refine hex _ _ _ hveq (fun w' => mTakeR _ w') (by kernel_rfl) ?_
    rw [hveq] at hob ⊢
    exact take_reg s m hob hd hdl
  | list ls =>
    obtain ⟨pp, b, hveq, h⟩ := id hob
    refine hex _ _ _ hveq (fun w' => mTakeL _ w') (by kernel_rfl) ?_
    rw [hveq] at hob ⊢
    exact take_list s m hob hsm
theorem RpIn.setClk {w : World} {own : Clr} {c p : Nat} {R : Rp} {cg cc hp : Nat} {mv hv ev : Value} {hs : List Bm} {es : List Em} (hc0 : 0 < c) (h : RpIn w own c p R cg cc hp mv hv ev hs es) (j : Nat) (z : Int) : RpIn (w.setCell ⟨cg, j, none⟩ (I z)) own c p { R with clock := R.clock.set j z } cg cc hp mv hv ev hs es := by
  have hT : Tch (fun k => k = cg) w (w.setCell ⟨cg, j, none⟩ (I z)) := tch_set (Tch.refl _ _) j (I z)
  have hS : ∀ d, d ≠ c → Same own d w (w.setCell ⟨cg, j, none⟩ (I z)) := fun d hd b hb ho => hT.block b hb (fun e => hd (by rw [← ho, e, h.own2]))
  have hcg : p ≠ cg := by
    rintro rfl
    have := h.blk.symm.trans h.clk
    simp at this
  refine ⟨?_, ?_, h.own1, h.own2, ?_, h.held.keep (hS 0 (by omega)) (hS _ (by omega)) (Ext.refl _ _), h.heldB, h.effs.keep (hS 0 (by omega)) (hS _ (by omega)) (Ext.refl _ _), h.effsE⟩
  · have := hT.blk h.blk hcg
    simpa using this
  · have h1 := h.clk.set j (I z)
    have e1 : ((R.clock.map I).toArray.setIfInBounds j (I z)) = ((R.clock.set j z).map I).toArray := by
      rw [List.map_set]
      simp
    rw [e1] at h1
    exact h1
  · rcases h.obs with h1 | ⟨mb, vs, e, ho, hm, l1, l2, hk⟩
    · exact Or.inl h1
    · refine Or.inr ⟨mb, vs, e, ho, hm.same (hT.block mb hm.lt ?_), l1, l2, fun k a b => (hk k a b).keep (hS _ (by omega)) (Ext.refl _ _)⟩
      rintro rfl
      obtain ⟨xs, cl, hx, _⟩ := hm
      cases h.clk.symm.trans hx
/-- A batch that is due is delivered. -/
def deliverR (R : Rp) (b : Wv.Bt) (fr : List UInt8) (hs : List Wv.Bt) : Rp := { R with obs := obsTo b R.obs b.effs.length, clock := R.clock.set b.o.toNat b.s, time := max R.time b.t, log := R.log ++ fr, held := hs }

end Go.Proofs.YtfmcngncaffloaaGreatDoor
