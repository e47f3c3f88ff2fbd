import Derived.Test.YtfmcngncaffloaaGreatDoorG35KpB
namespace Go.Proofs.YtfmcngncaffloaaGreatDoor
open Go.RowKit
set_option maxRecDepth 100000

/-! What stays so of a replica. -/
theorem Rok.same {R R' : Rp} (h : Rok R) (e1 : R'.obs = R.obs) (e2 : R'.clock = R.clock) (e3 : R'.log = R.log) (e4 : R'.held = R.held) (e5 : R'.time = R.time) : Rok R' :=
  ⟨by rw [e1]; exact h.obs8, by rw [e1, e2]; exact h.bd, by rw [e2, e3]; exact h.logl, by rw [e2]; exact h.len, by rw [e2]; exact h.clk, by rw [e4]; exact h.held, by rw [e4]; exact h.most, by rw [e5]; exact h.time0, by rw [e5]; exact h.time1⟩
theorem due_pend {R : Rp} : dueB R.clock (pendB R) = true := by
  rw [due_yes R.clock (pendB R) rfl (fun j _ => Int.le_refl _)]
  simp [pendB]
theorem Rok.commit {R : Rp} (h : Rok R) (hb : Wv.isB (pendB R) = true) : Rok (commitS R) := by
  have hE : Rok (endR R) := h.same rfl rfl rfl rfl rfl
  have hl := takeP_len earlierB (likeB (pendB R)) R.held
  have hm := fun m => mem_takeP earlierB (likeB (pendB R)) R.held m
  have hD : Rok (deliverR (endR R) (pendB R) (Wv.frameB (pendB R)) (takeP earlierB (likeB (pendB R)) R.held).2) := hE.deliver hb (frameB_short hb) due_pend (fun x hx => h.held x (hm x (Or.inr hx))) (by have := h.most; omega)
  exact hD.same rfl rfl rfl rfl rfl
theorem Rok.frame {R : Rp} (h : Rok R) (l : List UInt8) : Rok (frameR R l) := by
  unfold frameR
  split
  · exact h
  · rename_i b hd
    obtain ⟨hb, hlen⟩ := dec_isB hd
    split
    · exact h
    · split
      · rename_i hdue
        have hl := takeP_len earlierB (likeB b) R.held
        have hm := fun m => mem_takeP earlierB (likeB b) R.held m
        exact Rok.heldR _ _ (h.deliver hb (by omega) hdue (fun x hx => h.held x (hm x (Or.inr hx))) (by have := h.most; omega))
      · split
        · rename_i hq
          refine h.heldTo (fun x hx => ?_) ?_
          · rcases mem_pushP _ _ _ x hx with hx | hx
            · exact h.held x hx
            · rw [hx]; exact hb
          · have : (pushP earlierB R.held b).length = R.held.length + 1 := by
              unfold pushP
              rw [riseP_len]
              simp
            rw [this]
            omega
        · exact h
theorem Rok.new (i n : Nat) (hn : n ≤ 4) : Rok (newR i n) := by
  refine ⟨rfl, fun o ho => ?_, by simp [newR], by simp [newR]; exact hn, fun z hz => ?_, fun b hb => (by simp [newR] at hb), by simp [newR], by simp [newR], by simp [newR]⟩
  · simp only [newR, List.mem_cons, List.not_mem_nil, or_false] at ho
    rcases ho with rfl | rfl | rfl | rfl | rfl | rfl | rfl | rfl
    · exact ⟨by omega, by omega⟩
    · exact Nat.zero_le _
    · exact Nat.zero_le _
    · exact Nat.zero_le _
    · exact ⟨by omega, by omega⟩
    · exact Nat.zero_le _
    · exact Nat.zero_le _
    · exact Nat.zero_le _
  · simp only [newR] at hz
    have := List.eq_of_mem_replicate hz
    omega

/-! The states that the law comes through. -/
def ce0 (x : Int) : Wv.Ef := ⟨5, 3, x, ⟨0, 0, 0⟩, []⟩
def ce1 (y : Int) : Wv.Ef := ⟨5, 3, y, ⟨0, 1, 0⟩, []⟩
def ce2 : Wv.Ef := ⟨1, 0, 3, ⟨0, 0, 0⟩, []⟩
def cb0 (x : Int) : Wv.Bt := ⟨0, 1, 1, [0, 0, 0], [ce0 x]⟩
def cb1 (y : Int) : Wv.Bt := ⟨1, 1, 2, [1, 0, 0], [ce1 y, ce2]⟩
def cl0 (x : Int) : List El := [⟨⟨⟨0, 1, 0⟩, 1⟩, x, false⟩]
def cl1 (x y : Int) : List El := [⟨⟨⟨0, 1, 0⟩, 1⟩, x, false⟩, ⟨⟨⟨1, 1, 0⟩, 2⟩, y, false⟩]
def cob (n : Int) (ls : List El) : List Ob := [.counter n, .set [], .reg [], .list ls, .counter 0, .set [], .reg [], .list []]
/-- Replica 0 with its operation. -/
def cA0 (x : Int) : Rp := ⟨0, 1, [0, 0, 0], 0, cob 0 [], [], 0, [], [ce0 x]⟩
def cA1 (x : Int) : Rp := ⟨0, 0, [1, 0, 0], 1, cob 0 (cl0 x), Wv.frameB (cb0 x), (Wv.frameB (cb0 x)).length, [], []⟩
/-- Replica 1 behind the first batch. -/
def cB1 (x : Int) : Rp := ⟨1, 0, [1, 0, 0], 1, cob 0 (cl0 x), Wv.frameB (cb0 x), 0, [], []⟩
def cB2 (x y : Int) : Rp := ⟨1, 1, [1, 0, 0], 1, cob 0 (cl0 x), Wv.frameB (cb0 x), 0, [], [ce1 y, ce2]⟩
/-- Replica 2 with what it holds back; then with both. -/
def cC1 (y : Int) : Rp := ⟨2, 0, [0, 0, 0], 0, cob 0 [], [], 0, [cb1 y], []⟩
def cC2 (x y : Int) : Rp := ⟨2, 0, [1, 1, 0], 2, cob 3 (cl1 x y), Wv.frameB (cb0 x) ++ Wv.frameB (cb1 y), 0, [], []⟩
end Go.Proofs.YtfmcngncaffloaaGreatDoor

namespace Go.Proofs.YtfmcngncaffloaaGreatDoor
open Go.RowKit
set_option maxRecDepth 100000

/-- A store in memory, with blocks of the law's own that it doesn't touch. -/
def Sx (w0 w : World) (eb ef : Addr) (s : Nat) (S : Sto) (P : Nat → Prop) : Prop := ∃ own rg cc pp ch pv prs, StIn w own s rg cc pp ch pv prs S ∧ Env w0 w own eb ef ∧ ∀ g, P g → own g = 0 ∧ g < w.heap.size
/-- What a call leaves. -/
def Sy (w0 w : World) (eb ef : Addr) (s : Nat) (S : Sto) (P : Nat → Prop) (w' : World) : Prop := Sx w0 w' eb ef s S P ∧ ∀ g, P g → w'.heap[g]? = w.heap[g]?
theorem StOk.sy {w0 w w' : World} {own : Clr} {s : Nat} {S : Sto} {eb ef : Addr} {P : Nat → Prop} (h : StOk w0 w own s S eb ef w') (hp : ∀ g, P g → own g = 0 ∧ g < w.heap.size) : Sy w0 w eb ef s S P w' := by
  obtain ⟨own', rg, cc, pp, ch, pv, prs, hE, hS, hen, hT⟩ := h
  refine ⟨⟨own', rg, cc, pp, ch, pv, prs, hS, hen, fun g hg => ?_⟩, fun g hg => ?_⟩
  · obtain ⟨h1, h2⟩ := hp g hg
    exact ⟨(hE g h2).trans h1, Nat.lt_of_lt_of_le h2 hT.size⟩
  · obtain ⟨h1, h2⟩ := hp g hg
    exact hT.block g h2 (by rw [h1]; omega)
theorem Sx.below {w0 w w' : World} {s : Nat} {S : Sto} {eb ef : Addr} {P : Nat → Prop} (h : Sx w0 w eb ef s S P) (hb : Below w.heap.size w w') : Sx w0 w' eb ef s S (fun g => P g ∨ (w.heap.size ≤ g ∧ g < w'.heap.size)) := by
  obtain ⟨own, rg, cc, pp, ch, pv, prs, hS, hen, hp⟩ := h
  refine ⟨newTo own w.heap.size 0, rg, cc, pp, ch, pv, prs, hS.below hb, hen.tch (F := fun _ => False) (Tch.below hb) (fun _ _ h => h) (newTo_ext _ _ _), fun g hg => ?_⟩
  rcases hg with hg | hg
  · obtain ⟨h1, h2⟩ := hp g hg
    exact ⟨(newTo_same _ _ _ _ h2).trans h1, Nat.lt_of_lt_of_le h2 hb.size⟩
  · exact ⟨newTo_new _ _ _ _ hg.1, hg.2⟩
theorem Sx.mono {w0 w : World} {s : Nat} {S : Sto} {eb ef : Addr} {P Q : Nat → Prop} (h : Sx w0 w eb ef s S P) (hq : ∀ g, Q g → P g) : Sx w0 w eb ef s S Q := by
  obtain ⟨own, rg, cc, pp, ch, pv, prs, hS, hen, hp⟩ := h
  exact ⟨own, rg, cc, pp, ch, pv, prs, hS, hen, fun g hg => hp g (hq g hg)⟩
theorem Sx.bel {w0 w : World} {s : Nat} {S : Sto} {eb ef : Addr} {P : Nat → Prop} (h : Sx w0 w eb ef s S P) : Below w0.heap.size w0 w := by
  obtain ⟨_, _, _, _, _, _, _, _, hen, _⟩ := h
  exact hen.bel
theorem x_clock {w0 w : World} {eb ef : Addr} {s : Nat} {S : Sto} {P : Nat → Prop} (h : Sx w0 w eb ef s S P) (r : Nat) (R : Rp) (hR : S.reps[r]? = some R) (hl : R.clock.length ≤ 1000) :
    Calls Tryz.prog 22 #[.pointer (some ⟨s, 0, none⟩), I r] w fun e w' => ReadOk w R.clock e w' := by
  obtain ⟨own, rg, cc, pp, ch, pv, prs, hS, hen, hp⟩ := h
  exact wclock_any own s rg cc pp ch pv prs S r R w hS hR hl
theorem x_new (w : World) (eb ef : Addr) (n : Nat) (hg : Gl w eb ef) (hp : Pw w) (hn2 : 2 ≤ n) (hn4 : n ≤ 4) :
    Calls Tryz.prog 14 #[I n] w fun e w' => ∃ s, e = .returned (.tuple #[.pointer (some ⟨s, 0, none⟩), I 0]) ∧ Sx w w' eb ef s (newS n) (fun _ => False) :=
  (wnew_any (fun _ => 0) n w w eb ef ⟨hg, hp, Below.refl _ _, fun _ _ => rfl⟩ hn2 hn4).mono (fun e w' hh => by
    obtain ⟨s, he, hs, _⟩ := hh
    exact ⟨s, he, (hs.sy (P := fun _ => False) (fun _ h => h.elim)).1⟩)

end Go.Proofs.YtfmcngncaffloaaGreatDoor
