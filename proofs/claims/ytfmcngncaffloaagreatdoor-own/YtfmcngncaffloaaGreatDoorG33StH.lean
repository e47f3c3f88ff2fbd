import Derived.Test.YtfmcngncaffloaaGreatDoorG26RkC
import Derived.Test.YtfmcngncaffloaaGreatDoorG32DecR
import Derived.Conc.SmallLaws
import Derived.Test.YtfmcngncaffloaaGreatDoorG14RpB
import Derived.BigRegion
namespace Go.Proofs.YtfmcngncaffloaaGreatDoor
open Go.RowKit
set_option maxRecDepth 100000

/-- What a call leaves of a replica. -/
def ROk (w : World) (own : Clr) (c p : Nat) (R : Rp) (w' : World) : Prop := ∃ own', Ext own own' w.heap.size ∧ RpAt w' own' c p R ∧ Tch (fun k => c ≤ own k ∧ own k ≤ c + 10) w w'
theorem ROk.below {w w' : World} {own : Clr} {c p : Nat} {R : Rp} (h : RpAt w own c p R) (hb : Below w.heap.size w w') : ROk w own c p R w' := by
  obtain ⟨cg, cc, hp, mv, hv, ev, hs, es, h⟩ := h
  exact ⟨newTo own w.heap.size 0, newTo_ext _ _ _, ⟨_, _, _, _, _, _, _, _, h.keep (fun b hl _ => hb.block b hl) (fun _ _ _ b hl _ => hb.block b hl) (newTo_ext _ _ _)⟩, Tch.below hb⟩
theorem ROk.self {w w' : World} {own : Clr} {c p : Nat} {R : Rp} {cg cc hp : Nat} {mv hv ev : Value} {hs : List Bm} {es : List Em} (ho : own p = c) (h : SelfOk w own c p R cg cc hp mv hv ev hs es w') : ROk w own c p R w' :=
  ⟨own, Ext.refl _ _, ⟨_, _, _, _, _, _, _, _, h.1⟩, h.2.mono (fun k _ e => by rw [e, ho]; omega)⟩
theorem ROk.add {w w' : World} {own : Clr} {c p : Nat} {R : Rp} {cg cc hp : Nat} {mv hv : Value} {hs : List Bm} {es : List Em} (h : AddOk w own c p R cg cc hp mv hv hs es w') : ROk w own c p R w' := by
  obtain ⟨own', ev', hE, hR, hT⟩ := h
  exact ⟨own', hE, ⟨_, _, _, _, _, _, _, _, hR⟩, hT.mono (fun k _ h => by rcases h with h | h <;> omega)⟩
theorem ROk.cm {w w' : World} {own : Clr} {c p : Nat} {R : Rp} {cg cc hp : Nat} {mv : Value} {hs : List Bm} (h : CmOk w own c p R cg cc hp mv hs w') : ROk w own c p R w' := by
  obtain ⟨own', hv', hE, hR, hT⟩ := h
  exact ⟨own', hE, ⟨_, _, _, _, _, _, _, _, hR⟩, hT.mono (fun k _ h => ⟨h.1, by omega⟩)⟩
theorem ROk.hold {w w' : World} {own : Clr} {c p : Nat} {R : Rp} {cg cc hp : Nat} {mv ev : Value} {hs : List Bm} {es : List Em} (h : HoldOk w own c p R cg cc hp mv ev hs es w') : ROk w own c p R w' := by
  obtain ⟨own', hv', hE, hR, hT⟩ := h
  exact ⟨own', hE, ⟨_, _, _, _, _, _, _, _, hR⟩, hT.mono (fun k _ h => ⟨h.1, by omega⟩)⟩
theorem ROk.from {w w5 w6 : World} {own own5 : Clr} {c p : Nat} {R : Rp} (hE5 : Ext own own5 w.heap.size) (hT5 : Tch (fun k => c ≤ own k ∧ own k ≤ c + 10) w w5) (h : ROk w5 own5 c p R w6) : ROk w own c p R w6 := by
  obtain ⟨own', hE, hR, hT⟩ := h
  exact ⟨own', hE5.trans hE hT5.size, hR, hT5.trans hT (fun _ _ h => h) (fun k hk h => by rw [hE5 k hk] at h; exact h)⟩

/-- What a frame makes of a replica. -/
def frameR (R : Rp) (l : List UInt8) : Rp := match Wv.dec l with
  | none => R
  | some b => if b.clock.length ≠ R.clock.length ∨ b.s ≤ R.clock.getD b.o.toNat 0 then R
    else if dueB R.clock b then heldR ((takeP earlierB (likeB b) R.held).2.length + 1) (deliverR R b l (takeP earlierB (likeB b) R.held).2)
    else if R.held.length < 6 ∧ (R.held.any (likeB b)) = false then { R with held := pushP earlierB R.held b } else R
theorem dec_isB {l : List UInt8} {b : Wv.Bt} (h : Wv.dec l = some b) : Wv.isB b = true ∧ l.length ≤ 65535 := by
  unfold Wv.dec at h
  split at h
  · rename_i ho
    unfold Wv.decC at h
    split at h
    · rename_i hq
      cases h
      refine ⟨hq.2, ?_⟩
      have h2 := ho.2.1
      have : Wv.num2 l ≤ 65535 := by
        unfold Wv.num2
        have h8 := (l.getD 0 0).toNat_lt
        have h9 := (l.getD 1 0).toNat_lt
        omega
      omega
    · cases h
  · cases h
theorem own_at0 {w' : World} {own : Clr} {base : Nat} {e : TypeId} {z n m c : Nat} {a : Option Addr} {xs : List Value} (h : w'.ownsRow base e z (.slice a m c) n xs) : At0 w' (newTo own base 0) a xs := by
  intro j u hj
  rcases h.2 with ⟨_, hn⟩ | ⟨g, cap, cur, e1, hb, _⟩
  · have h1 := h.1
    rw [hn, Nat.zero_mul] at h1
    rw [List.eq_nil_of_length_eq_zero h1] at hj
    simp at hj
  · cases e1
    have hc := h.cells (g := g) rfl j u hj
    rw [Addr.add_lit] at hc
    exact ⟨g, 0, rfl, newTo_new _ _ _ _ hb, hc⟩
/-- What Decode hands over, boxed, beside the replica. -/
structure TfAt (w w0 wr : World) (own own' : Clr) (c p : Nat) (R : Rp) (cg cc hp : Nat) (mv hv ev : Value) (hs : List Bm) (es : List Em) (x : Bm) (bb : Nat) (eb ef : Addr) : Prop where
  rp : RpIn wr own' c p R cg cc hp mv hv ev hs es
  bat : BatIn wr own' x
  box : Blk wr bb (bmC x) 124
  boxc : own' bb = 0
  ext : Ext own own' w.heap.size
  bel : Below w.heap.size w wr
  env : Env w0 wr own' eb ef
theorem TfAt.below {w w0 wr w2 : World} {own own' : Clr} {c p : Nat} {R : Rp} {cg cc hp : Nat} {mv hv ev : Value} {hs : List Bm} {es : List Em} {x : Bm} {bb : Nat} {eb ef : Addr} (h : TfAt w w0 wr own own' c p R cg cc hp mv hv ev hs es x bb eb ef) (hb : Below wr.heap.size wr w2) : TfAt w w0 w2 own (newTo own' wr.heap.size 0) c p R cg cc hp mv hv ev hs es x bb eb ef :=
  ⟨h.rp.keep (fun b hl _ => hb.block b hl) (fun _ _ _ b hl _ => hb.block b hl) (newTo_ext _ _ _), h.bat.keep (fun b hl _ => hb.block b hl) (newTo_ext _ _ _), h.box.kept hb h.box.lt, (newTo_same _ _ _ _ h.box.lt).trans h.boxc, h.ext.trans (newTo_ext _ _ _) h.bel.size, h.bel.trans (hb.mono h.bel.size), h.env.tch (F := fun _ => False) (Tch.below hb) (fun _ _ h => h) (newTo_ext _ _ _)⟩
end Go.Proofs.YtfmcngncaffloaaGreatDoor

namespace Go.Proofs.YtfmcngncaffloaaGreatDoor
open Go.RowKit
set_option maxRecDepth 100000

theorem mkmapL (w : World) : (Instr.makeMap 185 none).run Tryz.prog w = .ok (.map (some w.heap.size)) (w.alloc (.map #[] 0)) := by
  simp [Instr.makeMap]
theorem mkmapO (w : World) : (Instr.makeMap 120 none).run Tryz.prog w = .ok (.map (some w.heap.size)) (w.alloc (.map #[] 0)) := by
  simp [Instr.makeMap]
theorem mkslI (n : Nat) (hn : n ≤ 4) (w : World) : (Instr.makeSlice 34 (I n) (I n)).run Tryz.prog w = .ok (.slice (some ⟨w.heap.size, 0, none⟩) n n) (w.alloc (.cells (List.replicate n (I 0)).toArray 3)) := by
  obtain ⟨i, h1, h2, h3, h4⟩ := info_parts infoIn
  have h := run_makeSlice (P := Tryz.prog) (w := w) _ _ i _ Tryz.underlying34 h1 h2 .i64 .i64 (n : Int) (n : Int) (by omega) (Int.le_refl _) (by rw [h3]; omega) (by rw [h4]; omega) (by omega)
  rw [h, h3]
  have e : Go.madeCells (Value.cells (.int .i64 0)) ((n : Int).toNat * 1) = (List.replicate n (I 0)).toArray := by
    rw [Int.toNat_natCast, Nat.mul_one]
    apply Array.ext
    · simp [Go.madeCells]
    · intro j h1 h2
      simp [Go.madeCells, Value.cells, Nat.mod_one]
  rw [e]
  simp
/-- An object without effects. -/
def newOb (k : Int) : Ob := if k = 0 then .counter 0 else if k = 1 then .set [] else if k = 2 then .reg [] else .list []
/-- What objects.New leaves: blocks of d's alone. -/
def NewOk (w : World) (own : Clr) (d : Nat) (o : Ob) (e : Ending) (w' : World) : Prop := ∃ v, e = .returned v ∧ Below w.heap.size w w' ∧ ObAt w' (newTo own w.heap.size d) d v o
set_option maxHeartbeats 800000 in
theorem onew_any (own : Clr) (d : Nat) (k : Int) (w : World) :
    Calls Tryz.prog 63 #[I k] w fun e w' => NewOk w own d (newOb k) e w' := by
  obtain ⟨o, HO⟩ : ∃ o, Hid (newOb k = o) := ⟨_, rfl⟩
  rw [HO.out]
  have hmm := fun W => mkmapL W
  go_enter Tryz.func63, Tryz.ntmps63
  by_cases h0 : k = 0
  · subst h0
    go_wp2
    go_ret
    rw [← HO.out]
    exact ⟨_, rfl, (Below.refl _ _).alloc (Nat.le_refl _) _, _, rfl, newTo_new _ _ _ _ (Nat.le_refl _), heap_alloc_new w _⟩
  · by_cases h1 : k = 1
    · subst h1
      go_wp2
      go_ret
      rw [← HO.out]
      refine ⟨_, rfl, ((Below.refl _ _).alloc (Nat.le_refl _) _).alloc (by simp) _, _, w.heap.size, rfl, newTo_new _ _ _ _ (by simp), newTo_new _ _ _ _ (Nat.le_refl _), ?_, ?_⟩
      · have := heap_alloc_new (w.alloc (.map #[] 0)) (.cells #[.map (some w.heap.size)] 187)
        rw [World.size_alloc] at this
        exact this
      · exact (MpAt.new w).same (Below.heap_alloc _ _ _ (by simp))
    · by_cases h2 : k = 2
      · subst h2
        go_wp2
        go_ret
        rw [← HO.out]
        refine ⟨_, rfl, ((Below.refl _ _).alloc (Nat.le_refl _) _).alloc (by simp) _, _, w.heap.size, rfl, newTo_new _ _ _ _ (by simp), newTo_new _ _ _ _ (Nat.le_refl _), ?_, ?_⟩
        · have := heap_alloc_new (w.alloc (.map #[] 0)) (.cells #[.map (some w.heap.size)] 189)
          rw [World.size_alloc] at this
          exact this
        · exact (MpAt.new w).same (Below.heap_alloc _ _ _ (by simp))
      · have HO2 : Hid (o = .list []) := by show _ = _; rw [← HO.out]; simp [newOb, h0, h1, h2]
        have b0 : (k == 0) = false := by simp [h0]
        have b1 : (k == 1) = false := by simp [h1]
        have b2 : (k == 2) = false := by simp [h2]
        clear h0 h1 h2
        go_wp2
        go_ret
        rw [HO2.out]
        exact ⟨_, rfl, (Below.refl _ _).alloc (Nat.le_refl _) _, _, .slice none 0 0, rfl, newTo_new _ _ _ _ (Nat.le_refl _), fun g e => (by simp [Value.ownBlock] at e), heap_alloc_new w _, ⟨rfl, .inl ⟨rfl, rfl⟩⟩, Nat.zero_le _⟩
/-- A new replica. -/
def newR (i n : Nat) : Rp := ⟨i, 0, List.replicate n 0, 0, [.counter 0, .set [], .reg [], .list [], .counter 0, .set [], .reg [], .list []], [], 0, [], []⟩
theorem hnew_eq (w : World) :
    Calls Tryz.prog 61 #[.func (.func 62) #[] #[]] w fun e w' => e = .returned (.pointer (some ⟨w.heap.size, 0, none⟩)) ∧ w' = w.alloc (.cells #[.slice none 0 0, .func (.func 62) #[] #[]] 178) := by
  go_enter Tryz.func61, Tryz.ntmps61
  go_wp2
  go_ret
  exact ⟨rfl, rfl⟩
/-- A new replica, ahead of its objects. -/
structure NwAt (w wr : World) (p cg mb hp i n : Nat) : Prop where
  bel : Below w.heap.size w wr
  blk : Blk wr p #[I i, I 0, .slice (some ⟨cg, 0, none⟩) n n, I 0, .map (some mb), .string ⟨#[]⟩, I 0, .pointer (some ⟨hp, 0, none⟩), .slice none 0 0] 130
  clk : Blk wr cg (Array.replicate n (I 0)) 3
  om : OmAt wr mb []
  hpx : HpIn wr hp (.slice none 0 0) []
  lp : w.heap.size ≤ p
  lc : w.heap.size ≤ cg
  lm : w.heap.size ≤ mb
  lh : w.heap.size ≤ hp
theorem al4_1 (w : World) (o1 o2 o3 o4 : Obj) : ((((w.alloc o1).alloc o2).alloc o3).alloc o4).drew.heap[w.heap.size]? = some o1 := by
  show ((((w.alloc o1).alloc o2).alloc o3).alloc o4).heap[w.heap.size]? = some o1
  rw [Below.heap_alloc _ _ _ (by simp <;> omega), Below.heap_alloc _ _ _ (by simp <;> omega), Below.heap_alloc _ _ _ (by simp)]
  exact (MapKept.heap_alloc w _).1
theorem al4_2 (w : World) (o1 o2 o3 o4 : Obj) : ((((w.alloc o1).alloc o2).alloc o3).alloc o4).drew.heap[w.heap.size + 1]? = some o2 := by
  show ((((w.alloc o1).alloc o2).alloc o3).alloc o4).heap[w.heap.size + 1]? = some o2
  rw [Below.heap_alloc _ _ _ (by simp <;> omega), Below.heap_alloc _ _ _ (by simp)]
  have := (MapKept.heap_alloc (w.alloc o1) o2).1
  rw [World.size_alloc] at this
  exact this
theorem al4_3 (w : World) (o1 o2 o3 o4 : Obj) : ((((w.alloc o1).alloc o2).alloc o3).alloc o4).drew.heap[w.heap.size + 1 + 1]? = some o3 := by
  show ((((w.alloc o1).alloc o2).alloc o3).alloc o4).heap[w.heap.size + 1 + 1]? = some o3
  rw [Below.heap_alloc _ _ _ (by simp)]
  have := (MapKept.heap_alloc ((w.alloc o1).alloc o2) o3).1
  rw [World.size_alloc, World.size_alloc] at this
  exact this
theorem al4_4 (w : World) (o1 o2 o3 o4 : Obj) : ((((w.alloc o1).alloc o2).alloc o3).alloc o4).drew.heap[w.heap.size + 1 + 1 + 1]? = some o4 := by
  show ((((w.alloc o1).alloc o2).alloc o3).alloc o4).heap[w.heap.size + 1 + 1 + 1]? = some o4
  have := (MapKept.heap_alloc (((w.alloc o1).alloc o2).alloc o3) o4).1
  rw [World.size_alloc, World.size_alloc, World.size_alloc] at this
  exact this
theorem nw_gen (w : World) (o1 o2 o3 : Obj) (cg mb hp i n : Nat) (W : World) (hW : W = ((((w.alloc o1).alloc o2).alloc o3).alloc (.cells #[I i, I 0, .slice (some ⟨cg, 0, none⟩) n n, I 0, .map (some mb), .string ⟨#[]⟩, I 0, .pointer (some ⟨hp, 0, none⟩), .slice none 0 0] 130)).drew)
    (hc : W.heap[cg]? = some (.cells (Array.replicate n (I 0)) 3 (0, 0))) (hm : W.heap[mb]? = some (.map #[] 0)) (hh : W.heap[hp]? = some (.cells #[.slice none 0 0, .func (.func 62) #[] #[]] 178 (0, 0))) (lc : w.heap.size ≤ cg) (lm : w.heap.size ≤ mb) (lh : w.heap.size ≤ hp) :
    NwAt w W (w.heap.size + 1 + 1 + 1) cg mb hp i n := by
  refine ⟨?_, ?_, hc, ⟨#[], 0, hm, rfl⟩, ⟨hh, ⟨rfl, .inl ⟨rfl, rfl⟩⟩⟩, by omega, lc, lm, lh⟩
  · rw [hW]
    exact (((((Below.refl w.heap.size w).alloc (Nat.le_refl _) _).alloc (by simp) _).alloc (by simp <;> omega) _).alloc (by simp <;> omega) _).drew
  · rw [hW]
    exact al4_4 w o1 o2 o3 _
/-- A new replica that gets its objects. -/
structure NlAt (w wr : World) (own own' : Clr) (c p cg mb hp i n : Nat) (vs : List Value) : Prop where
  bel : Below w.heap.size w wr
  blk : Blk wr p #[I i, I 0, .slice (some ⟨cg, 0, none⟩) n n, I 0, .map (some mb), .string ⟨#[]⟩, I 0, .pointer (some ⟨hp, 0, none⟩), .slice none 0 0] 130
  clk : Blk wr cg (Array.replicate n (I 0)) 3
  om : OmAt wr mb vs
  hpx : HpIn wr hp (.slice none 0 0) []
  lm : w.heap.size ≤ mb
  ext : Ext own own' w.heap.size
  c1 : own' p = c
  c2 : own' cg = c
  c3 : own' mb = c
  c4 : own' hp = c + 9
  obs : ∀ j (h : j < vs.length), ObAt wr own' (c + 1 + j) vs[j] (newOb ((j : Int) % 4))
theorem NwAt.nl {w wr : World} {own : Clr} {c p cg mb hp i n : Nat} (h : NwAt w wr p cg mb hp i n) : NlAt w wr own (fun b => if b < w.heap.size then own b else if b = hp then c + 9 else c) c p cg mb hp i n [] := by
  have hph : p ≠ hp := by
    rintro rfl
    have h9 := h.blk.symm.trans h.hpx.blk
    simp at h9
  have hch : cg ≠ hp := by
    rintro rfl
    have h9 := h.clk.symm.trans h.hpx.blk
    simp at h9
  have hmh : mb ≠ hp := by
    rintro rfl
    obtain ⟨_, _, hx, _⟩ := h.om
    cases h.hpx.blk.symm.trans hx
  have lp := h.lp
  have lc := h.lc
  have lm := h.lm
  have lh := h.lh
  refine ⟨h.bel, h.blk, h.clk, h.om, h.hpx, h.lm, fun b hb => if_pos hb, ?_, ?_, ?_, ?_, fun j hj => absurd hj (by simp)⟩
  · show (if p < w.heap.size then own p else if p = hp then c + 9 else c) = c
    rw [if_neg (by omega), if_neg hph]
  · show (if cg < w.heap.size then own cg else if cg = hp then c + 9 else c) = c
    rw [if_neg (by omega), if_neg hch]
  · show (if mb < w.heap.size then own mb else if mb = hp then c + 9 else c) = c
    rw [if_neg (by omega), if_neg hmh]
  · show (if hp < w.heap.size then own hp else if hp = hp then c + 9 else c) = c + 9
    rw [if_neg (by omega), if_pos rfl]
theorem NlAt.step {w wr w5 w6 : World} {own own' : Clr} {c p cg mb hp i n : Nat} {vs : List Value} {v : Value} (h : NlAt w wr own own' c p cg mb hp i n vs) (hb : Below wr.heap.size wr w5) (ho : ObAt w5 (newTo own' wr.heap.size (c + 1 + vs.length)) (c + 1 + vs.length) v (newOb ((vs.length : Int) % 4))) (hm : OmAt w6 mb (vs ++ [v])) (hg : w5.grownBy w6 (some mb)) : NlAt w w6 own (newTo own' wr.heap.size (c + 1 + vs.length)) c p cg mb hp i n (vs ++ [v]) := by
  have he := newTo_ext own' wr.heap.size (c + 1 + vs.length)
  have hT : Tch (fun k => k = mb) w5 w6 := (Tch.grown hg).mono (fun k _ e => by simpa using e.symm)
  have hmw : mb < wr.heap.size := h.om.lt
  have hpm : p ≠ mb := by
    rintro rfl
    obtain ⟨_, _, hx, _⟩ := h.om
    cases h.blk.symm.trans hx
  have hcm : cg ≠ mb := by
    rintro rfl
    obtain ⟨_, _, hx, _⟩ := h.om
    cases h.clk.symm.trans hx
  have hhm : hp ≠ mb := by
    rintro rfl
    obtain ⟨_, _, hx, _⟩ := h.om
    cases h.hpx.blk.symm.trans hx
  have hS : ∀ d, d ≠ c → Same (newTo own' wr.heap.size (c + 1 + vs.length)) d w5 w6 := fun d hd => hT.same (fun k e e2 => hd (by
    have e2 : k = mb := e2
    rw [← e, e2, newTo_same _ _ _ _ hmw, h.c3]))
  have hbw : Below w.heap.size w w5 := h.bel.trans (hb.mono h.bel.size)
  refine ⟨?_, hT.blk (h.blk.kept hb h.blk.lt) hpm, hT.blk (h.clk.kept hb h.clk.lt) hcm, hm, ⟨hT.blk (h.hpx.blk.kept hb h.hpx.blk.lt) hhm, ⟨rfl, .inl ⟨rfl, rfl⟩⟩⟩, h.lm, h.ext.trans he h.bel.size, (he p h.blk.lt).trans h.c1, (he cg h.clk.lt).trans h.c2, (he mb hmw).trans h.c3, (he hp h.hpx.blk.lt).trans h.c4, fun j hj => ?_⟩
  · have := h.lm
    exact hbw.trans (hT.toBelow hbw.size (fun k hk e => by have e : k = mb := e; omega))
  · by_cases hjl : j < vs.length
    · rw [List.getElem_append_left hjl]
      exact ((h.obs j hjl).keep (fun b hl _ => hb.block b hl) he).keep (hS _ (by omega)) (Ext.refl _ _)
    · have : j = vs.length := by simp at hj; omega
      subst this
      rw [List.getElem_concat_length rfl]
      exact ho.keep (hS _ (by omega)) (Ext.refl _ _)
theorem NlAt.fin {w wr : World} {own own' : Clr} {c p cg mb hp i n : Nat} {vs : List Value} (h : NlAt w wr own own' c p cg mb hp i n vs) (hl : vs.length = 8) : RpAt wr own' c p (newR i n) := by
  refine ⟨cg, n, hp, .map (some mb), .slice none 0 0, .slice none 0 0, [], [], ⟨?_, ?_, h.c1, h.c2, Or.inr ⟨mb, vs, rfl, h.c3, h.om, hl, rfl, fun k h1 h2 => ?_⟩, ⟨h.hpx, h.c4, fun g e => (by simp [Value.ownBlock] at e), fun m hm => (by cases hm)⟩, rfl, ⟨⟨rfl, .inl ⟨rfl, rfl⟩⟩, fun g e => (by simp [Value.ownBlock] at e), fun x hx => (by cases hx)⟩, rfl⟩⟩
  · have e : (newR i n).clock.length = n := by simp [newR]
    rw [e]
    exact h.blk
  · have e : ((newR i n).clock.map I).toArray = Array.replicate n (I 0) := by simp [newR]
    rw [e]
    exact h.clk
  · have e : (newR i n).obs[k] = newOb ((k : Int) % 4) := by
      have hk : k < 8 := by omega
      clear h1
      rcases k with _ | _ | _ | _ | _ | _ | _ | _ | k <;> first | rfl | omega
    rw [e]
    exact h.obs k h1
def RnewOk (w : World) (own : Clr) (c i n : Nat) (e : Ending) (w' : World) : Prop := ∃ p own', e = .returned (.pointer (some ⟨p, 0, none⟩)) ∧ Below w.heap.size w w' ∧ Ext own own' w.heap.size ∧ RpAt w' own' c p (newR i n)
set_option maxHeartbeats 1600000 in
theorem rnew_any (own : Clr) (c : Nat) (i n : Nat) (w : World) (hn : n ≤ 4) :
    Calls Tryz.prog 38 #[I i, I n] w fun e w' => RnewOk w own c i n e w' := by
  have hmm := fun W => mkmapO W
  have hms := fun W => mkslI n hn W
  go_enter Tryz.func38, Tryz.ntmps38
  go_wp2_with fail
  go_cut [5] (fun v5 wx => ∃ p cg mb hp, v5 = .pointer (some ⟨p, 0, none⟩) ∧ Hid (NwAt w wx p cg mb hp i n))
  case first =>
    go_region_law (first | (go_simp; go_at_call 61; refine (hnew_eq _).mono ?_; rintro e w3 ⟨rfl, rfl⟩))
    all_goals
      (go_wp2_with fail
       go_meet
       exact ⟨_, _, _, _, rfl, nw_gen w _ _ _ _ _ _ i n _ rfl (by first | exact al4_1 w _ _ _ _ | exact al4_2 w _ _ _ _ | exact al4_3 w _ _ _ _) (by first | exact al4_1 w _ _ _ _ | exact al4_2 w _ _ _ _ | exact al4_3 w _ _ _ _) (by first | exact al4_1 w _ _ _ _ | exact al4_2 w _ _ _ _ | exact al4_3 w _ _ _ _) (by omega) (by omega) (by omega)⟩)
  case rest =>
    obtain ⟨p, cg, mb, hp, rfl, HN⟩ := hcut
    clear hmm hms
    go_wp2_with fail
    go_loopw [14] (fun x wX => ∃ (own' : Clr) (vs : List Value), vs.length ≤ 8 ∧ x = I vs.length ∧ Hid (NlAt w wX own own' c p cg mb hp i n vs)) (fun x _ => 8 - (intOf x).toNat)
    case atStart => exact ⟨_, [], by simp, rfl, HN.out.nl⟩
    case round =>
      obtain ⟨own', vs, hl, rfl, HL⟩ := hrel
      clear HN
      by_cases hlt : vs.length < 8
      · have hki : (vs.length : Int) < 8 := by omega
        have HLD : Hid (NlAt w wr.drew own own' c p cg mb hp i n vs) := by
          have h := HL.out
          exact ⟨h.bel.drew, h.blk, h.clk, h.om.same rfl, ⟨h.hpx.blk, ⟨rfl, .inl ⟨rfl, rfl⟩⟩⟩, h.lm, h.ext, h.c1, h.c2, h.c3, h.c4, fun j hj => (h.obs j hj).keep (fun _ _ _ => rfl) (Ext.refl _ _)⟩
        have y4 : wr.drew.cell? ⟨p, 4, none⟩ = some (.map (some mb)) := HLD.out.blk.cell 4
        have hA1 : 0 ≤ (vs.length : Int) := by omega
        have hA2 : (vs.length : Int) ≤ 7 := by omega
        go_wp2_with fail
        go_region_held_law (fun w' => w'.cell? ⟨p, 4, none⟩ = some (.map (some mb))) (exact (by with_reducible assumption))
          (first
          | (go_at_call 64; refine (kindOf_any _ hA1 hA2 _).mono ?_; rintro e w4 ⟨rfl, hw4⟩; subst hw4)
          | (go_at_call 63; refine (onew_any own' (c + 1 + vs.length) _ _).mono ?_; rintro e w5 ⟨v, rfl, hb5, ho5⟩; have HB5 : Hid (Below wr.drew.heap.size wr.drew w5) := hb5; have HO5 : Hid (ObAt w5 (newTo own' wr.drew.heap.size (c + 1 + vs.length)) (c + 1 + vs.length) v (newOb ((vs.length : Int) % 4))) := ho5; clear hb5 ho5; have z4 : w5.cell? ⟨p, 4, none⟩ = some (.map (some mb)) := cell_kept HB5.out y4; obtain ⟨w6, hu6, hm6, hg6⟩ := run_update_om v w5 mb vs (HLD.out.om.same (HB5.out.block mb HLD.out.om.lt)); have HM6 : Hid (OmAt w6 mb (vs ++ [v])) := hm6; have HG6 : Hid (w5.grownBy w6 (some mb)) := hg6; clear hm6 hg6; have q4 : w6.cell? ⟨p, 4, none⟩ = some (.map (some mb)) := (by have := (HLD.out.step HB5.out HO5.out HM6.out HG6.out).blk.cell 4; exact this)))
        have HL6 : Hid (NlAt w w6 own (newTo own' wr.drew.heap.size (c + 1 + vs.length)) c p cg mb hp i n (vs ++ [v])) := HLD.out.step HB5.out HO5.out HM6.out HG6.out
        have hln : (vs ++ [v]).length = vs.length + 1 := by simp
        have HLN : Hid ((vs ++ [v]).length = vs.length + 1) := hln
        clear hln hu6 HLD HL HB5 HO5 HM6 HG6 y4 z4 q4
        go_wp2_with fail
        go_roundw
        case rel => exact ⟨_, vs ++ [v], by rw [HLN.out]; omega, by rw [HLN.out]; go_num, HL6⟩
        case measure => simp [intOf]; omega
      · have hki : ¬ (vs.length : Int) < 8 := by omega
        have HE : Hid (RpAt wr own' c p (newR i n)) := HL.out.fin (by omega)
        go_wp2
        go_ret
        exact ⟨p, own', rfl, HL.out.bel, HL.out.ext, HE.out⟩

end Go.Proofs.YtfmcngncaffloaaGreatDoor

namespace Go.Proofs.YtfmcngncaffloaaGreatDoor
open Go.RowKit
set_option maxRecDepth 100000

/-- A store: its replicas, and what is under way. -/
structure Sto where
  reps : List Rp
  msgs : List Ms
/-- A store in memory: replica r in blocks of 1 + 11 r to 11 + 11 r, what is under way in those of 100. -/
structure StIn (w : World) (own : Clr) (s rg cc pp ch : Nat) (pv : Value) (prs : List Nat) (S : Sto) : Prop where
  blk : Blk w s #[.slice (some ⟨rg, 0, none⟩) S.reps.length cc, .pointer (some ⟨pp, 0, none⟩)] 83
  row : ∀ r (h : r < prs.length), w.cell? ⟨rg, r, none⟩ = some (.pointer (some ⟨prs[r], 0, none⟩))
  len : prs.length = S.reps.length
  most : S.reps.length ≤ 4
  least : 2 ≤ S.reps.length
  own1 : own s = 900
  own2 : own rg = 900
  reps : ∀ r (h1 : r < prs.length) (h2 : r < S.reps.length), RpAt w own (1 + 11 * r) prs[r] S.reps[r]
  post : PoIn w own 100 pp ch pv S.msgs
theorem StIn.rlt {w : World} {own : Clr} {s rg cc pp ch : Nat} {pv : Value} {prs : List Nat} {S : Sto} (h : StIn w own s rg cc pp ch pv prs S) : rg < w.heap.size := lt_of_cell (h.row 0 (by have := h.least; have := h.len; omega))
theorem RpAt.keep {w w' : World} {own own' : Clr} {c p : Nat} {R : Rp} (h : RpAt w own c p R) (h0 : Same own 0 w w') (hS : ∀ d, c ≤ d → d ≤ c + 10 → Same own d w w') (he : Ext own own' w.heap.size) : RpAt w' own' c p R := by
  obtain ⟨cg, cc, hp, mv, hv, ev, hs, es, h⟩ := h
  exact ⟨_, _, _, _, _, _, _, _, h.keep h0 hS he⟩
/-- What a call leaves of a store. -/
def StOk (w0 w : World) (own : Clr) (s : Nat) (S : Sto) (eb ef : Addr) (w' : World) : Prop := ∃ own' rg cc pp ch pv prs, Ext own own' w.heap.size ∧ StIn w' own' s rg cc pp ch pv prs S ∧ Env w0 w' own' eb ef ∧ Tch (fun k => 1 ≤ own k ∧ own k ≤ 100) w w'
theorem StIn.below {w w' : World} {own : Clr} {s rg cc pp ch : Nat} {pv : Value} {prs : List Nat} {S : Sto} (h : StIn w own s rg cc pp ch pv prs S) (hb : Below w.heap.size w w') : StIn w' (newTo own w.heap.size 0) s rg cc pp ch pv prs S := by
  have he := newTo_ext own w.heap.size 0
  have hS : ∀ d, Same own d w w' := fun d b hl _ => hb.block b hl
  have hr := h.rlt
  exact ⟨h.blk.kept hb h.blk.lt, fun r hr => cell_kept hb (h.row r hr), h.len, h.most, h.least, (he s h.blk.lt).trans h.own1, (he rg hr).trans h.own2, fun r h1 h2 => (h.reps r h1 h2).keep (hS 0) (fun d _ _ => hS d) he, h.post.keep (hS 100) he⟩
theorem StOk.below {w0 w w' : World} {own : Clr} {s rg cc pp ch : Nat} {pv : Value} {prs : List Nat} {S : Sto} {eb ef : Addr} (h : StIn w own s rg cc pp ch pv prs S) (hen : Env w0 w own eb ef) (hb : Below w.heap.size w w') : StOk w0 w own s S eb ef w' :=
  ⟨_, _, _, _, _, _, _, newTo_ext _ _ _, h.below hb, hen.tch (F := fun _ => False) (Tch.below hb) (fun _ _ h => h) (newTo_ext _ _ _), Tch.below hb⟩
theorem StOk.rep {w0 w w' : World} {own : Clr} {s rg cc pp ch : Nat} {pv : Value} {prs : List Nat} {S : Sto} {eb ef : Addr} (h : StIn w own s rg cc pp ch pv prs S) (hen : Env w0 w own eb ef) (r : Nat) (hr : r < prs.length) {R : Rp} (ho : ROk w own (1 + 11 * r) prs[r] R w') : StOk w0 w own s { S with reps := S.reps.set r R } eb ef w' := by
  obtain ⟨own', hE, hR, hT⟩ := ho
  have hS : ∀ d, ¬ (1 + 11 * r ≤ d ∧ d ≤ 1 + 11 * r + 10) → Same own d w w' := fun d hd => hT.same (fun k e e2 => hd (by rw [← e]; exact e2))
  have hrg : ∀ k (hk : k < prs.length), rg < w.heap.size := fun k hk => lt_of_cell (h.row k hk)
  have hm := h.most
  have hl := h.len
  refine ⟨own', rg, cc, pp, ch, pv, prs, hE, ⟨?_, fun k hk => cell_same (h.row k hk) (hS 900 (by omega) rg (hrg k hk) h.own2), ?_, ?_, ?_, (hE s h.blk.lt).trans h.own1, (hE rg (hrg r hr)).trans h.own2, fun k h1 h2 => ?_, h.post.keep (hS 100 (by omega)) hE⟩, hen.tch hT (fun k e e2 => by rw [e] at e2; omega) hE, hT.mono (fun k _ e => by omega)⟩
  · show Blk w' s #[.slice (some ⟨rg, 0, none⟩) (S.reps.set r R).length cc, .pointer (some ⟨pp, 0, none⟩)] 83
    rw [List.length_set]
    exact (hS 900 (by omega) s h.blk.lt h.own1).trans h.blk
  · show prs.length = (S.reps.set r R).length
    rw [List.length_set]; exact h.len
  · show (S.reps.set r R).length ≤ 4
    rw [List.length_set]; exact h.most
  · show 2 ≤ (S.reps.set r R).length
    rw [List.length_set]; exact h.least
  · show RpAt w' own' (1 + 11 * k) prs[k] (S.reps.set r R)[k]
    by_cases hk : r = k
    · subst hk
      rw [List.getElem_set_self]
      exact hR
    · rw [List.getElem_set_ne hk]
      exact (h.reps k h1 (by omega)).keep (hS 0 (by omega)) (fun d a b => hS d (by omega)) hE
theorem StOk.po {w0 w w' : World} {own : Clr} {s rg cc pp ch : Nat} {pv : Value} {prs : List Nat} {S : Sto} {eb ef : Addr} (h : StIn w own s rg cc pp ch pv prs S) (hen : Env w0 w own eb ef) {ms : List Ms} (ho : PoOk w own 100 pp ch ms w') : StOk w0 w own s { S with msgs := ms } eb ef w' := by
  obtain ⟨own', pv', hE, hP, hT⟩ := ho
  have hS : ∀ d, d ≠ 100 → Same own d w w' := fun d hd => hT.same (fun k e e2 => hd (by have e2 : own k = 100 := e2; omega))
  have hm := h.most
  have hl := h.len
  refine ⟨own', rg, cc, pp, ch, pv', prs, hE, ⟨(hS 900 (by omega) s h.blk.lt h.own1).trans h.blk, fun k hk => cell_same (h.row k hk) (hS 900 (by omega) rg (lt_of_cell (h.row k hk)) h.own2), h.len, h.most, h.least, (hE s h.blk.lt).trans h.own1, (hE rg h.rlt).trans h.own2, fun k h1 h2 => (h.reps k h1 h2).keep (hS 0 (by omega)) (fun d a b => hS d (by omega)) hE, hP⟩, hen.tch hT (fun k e e2 => by have e2 : own k = 100 := e2; omega) hE, hT.mono (fun k _ e => by have e : own k = 100 := e; omega)⟩
theorem StOk.from {w0 w w5 w6 : World} {own own5 : Clr} {s : Nat} {S : Sto} {eb ef : Addr} (hE5 : Ext own own5 w.heap.size) (hT5 : Tch (fun k => 1 ≤ own k ∧ own k ≤ 100) w w5) (h : StOk w0 w5 own5 s S eb ef w6) : StOk w0 w own s S eb ef w6 := by
  obtain ⟨own', rg, cc, pp, ch, pv, prs, hE, hR, hen, hT⟩ := h
  exact ⟨own', rg, cc, pp, ch, pv, prs, hE5.trans hE hT5.size, hR, hen, hT5.trans hT (fun _ _ h => h) (fun k hk h => by rw [hE5 k hk] at h; exact h)⟩

end Go.Proofs.YtfmcngncaffloaaGreatDoor

namespace Go.Proofs.YtfmcngncaffloaaGreatDoor
open Go.RowKit
set_option maxRecDepth 100000

set_option maxHeartbeats 800000 in
theorem shas_any (own : Clr) (s rg cc pp ch : Nat) (pv : Value) (prs : List Nat) (S : Sto) (r : Int) (w : World) (h : StIn w own s rg cc pp ch pv prs S) :
    Calls Tryz.prog 75 #[.pointer (some ⟨s, 0, none⟩), I r] w fun e w' => e = .returned (.bool (decide (0 ≤ r ∧ r < S.reps.length))) ∧ w' = w := by
  have c1 : w.cell? ⟨s, 0, none⟩ = some (.slice (some ⟨rg, 0, none⟩) S.reps.length cc) := h.blk.cell 0
  clear h
  obtain ⟨bq, HQ⟩ : ∃ bq, Hid (decide (0 ≤ r ∧ r < (S.reps.length : Int)) = bq) := ⟨_, rfl⟩
  rw [HQ.out]
  go_enter Tryz.func75, Tryz.ntmps75
  by_cases h0 : 0 ≤ r
  · by_cases h1 : r < (S.reps.length : Int)
    · have HD : Hid (true = bq) := (decide_eq_true (p := 0 ≤ r ∧ r < (S.reps.length : Int)) ⟨h0, h1⟩).symm.trans HQ.out
      clear HQ
      go_wp2
      go_ret
      exact ⟨by rw [← HD.out]; rfl, rfl⟩
    · have HD : Hid (false = bq) := (decide_eq_false (p := 0 ≤ r ∧ r < (S.reps.length : Int)) (fun h => h1 h.2)).symm.trans HQ.out
      clear HQ
      go_wp2
      go_ret
      exact ⟨by rw [← HD.out]; rfl, rfl⟩
  · have HD : Hid (false = bq) := (decide_eq_false (p := 0 ≤ r ∧ r < (S.reps.length : Int)) (fun h => h0 h.1)).symm.trans HQ.out
    clear HQ
    go_wp2
    go_ret
    exact ⟨by rw [← HD.out]; rfl, rfl⟩
set_option maxHeartbeats 800000 in
theorem sreplica_yes (own : Clr) (s rg cc pp ch : Nat) (pv : Value) (prs : List Nat) (S : Sto) (r : Nat) (hr : r < prs.length) (w : World) (h : StIn w own s rg cc pp ch pv prs S) :
    Calls Tryz.prog 48 #[.pointer (some ⟨s, 0, none⟩), I r] w fun e w' => e = .returned (.tuple #[.pointer (some ⟨prs[r], 0, none⟩), I 0]) ∧ w' = w := by
  have HS : Hid (StIn w own s rg cc pp ch pv prs S) := h
  have c0 : w.cell? ⟨s, 0, none⟩ = some (.slice (some ⟨rg, 0, none⟩) S.reps.length cc) := h.blk.cell 0
  have c1 : w.cell? ⟨rg, r, none⟩ = some (.pointer (some ⟨prs[r], 0, none⟩)) := h.row r hr
  have hri : (r : Int) < (S.reps.length : Int) := by have := h.len; omega
  have hrn : r < S.reps.length := by omega
  have hd : decide (0 ≤ (r : Int) ∧ (r : Int) < (S.reps.length : Int)) = true := decide_eq_true ⟨by omega, hri⟩
  clear h
  generalize prs[r] = p at *
  go_enter Tryz.func48, Tryz.ntmps48
  go_wp2_with fail
  refine (shas_any own s rg cc pp ch pv prs S r w HS.out).mono ?_
  rintro e w1 ⟨rfl, hw1⟩
  subst hw1
  rw [hd]
  go_wp2
  go_ret2
  exact ⟨rfl, rfl⟩
set_option maxHeartbeats 800000 in
theorem sup_yes (own : Clr) (s rg cc pp ch : Nat) (pv : Value) (prs : List Nat) (S : Sto) (r : Nat) (hr : r < prs.length) (R : Rp) (hR : S.reps[r]? = some R) (hst : R.st ≠ 2) (w : World) (h : StIn w own s rg cc pp ch pv prs S) :
    Calls Tryz.prog 39 #[.pointer (some ⟨s, 0, none⟩), I r] w fun e w' => e = .returned (.tuple #[.pointer (some ⟨prs[r], 0, none⟩), I 0]) ∧ w' = w := by
  have HS : Hid (StIn w own s rg cc pp ch pv prs S) := h
  obtain ⟨hrn, rfl⟩ := List.getElem?_eq_some_iff.1 hR
  obtain ⟨cg, cc', hp, mv, hv, ev, hs, es, hrp⟩ := h.reps r hr hrn
  have HR : Hid (RpIn w own (1 + 11 * r) prs[r] S.reps[r] cg cc' hp mv hv ev hs es) := hrp
  have hb : (S.reps[r].st == 2) = false := by simp [hst]
  have HC : Hid (Calls Tryz.prog 48 #[.pointer (some ⟨s, 0, none⟩), I r] w fun e w' => e = .returned (.tuple #[.pointer (some ⟨prs[r], 0, none⟩), I 0]) ∧ w' = w) := sreplica_yes own s rg cc pp ch pv prs S r hr w h
  clear h hrp hR hst
  generalize prs[r] = p at *
  go_enter Tryz.func39, Tryz.ntmps39
  go_wp2_with fail
  refine HC.out.mono ?_
  rintro e w1 ⟨rfl, hw1⟩
  subst hw1
  go_wp2_with fail
  refine (risdown_any own (1 + 11 * r) p _ cg cc' hp mv hv ev hs es w1 HR.out).mono ?_
  rintro e w2 ⟨rfl, hw2⟩
  subst hw2
  rw [hb]
  go_wp2
  go_ret2
  exact ⟨rfl, rfl⟩

end Go.Proofs.YtfmcngncaffloaaGreatDoor

namespace Go.Proofs.YtfmcngncaffloaaGreatDoor
open Go.RowKit
set_option maxRecDepth 100000

/-- What is so of a replica that is up. -/
structure Rup (R : Rp) : Prop where
  ok : Rok R
  n0 : 0 ≤ R.n
  n1 : R.n < R.clock.length
  up : R.st ≠ 2
  el : R.effs.length ≤ 5
  ev : ∀ e ∈ R.effs, 0 ≤ e.ob ∧ e.ob < 8 ∧ -1000 ≤ e.va ∧ e.va ≤ 1000 ∧ e.dots.length ≤ 1048576
theorem Rup.hl {R : Rp} (h : Rup R) : R.clock.length ≤ 1000 := by have := h.ok.len; omega
theorem Rup.hs0 {R : Rp} (h : Rup R) : ∀ z ∈ R.clock, 0 ≤ z ∧ z ≤ 1000000 := fun z hz => ⟨(h.ok.clk z hz).1, by have := (h.ok.clk z hz).2; omega⟩
theorem Rup.ht1 {R : Rp} (h : Rup R) : R.time ≤ 1000000000 := by have := h.ok.time1; omega
theorem Rup.hN {R : Rp} (h : Rup R) : 5 * sumN R.clock + R.effs.length ≤ 100000 := by have := h.ok.sum; have := h.el; omega
theorem Rup.hv {R : Rp} (h : Rup R) : ∀ e ∈ R.effs, -1000 ≤ e.va ∧ e.va ≤ 1000 ∧ e.dots.length ≤ 1048576 := fun e he => (h.ev e he).2.2
theorem StIn.prl {w : World} {own : Clr} {s rg cc pp ch : Nat} {pv : Value} {prs : List Nat} {S : Sto} (h : StIn w own s rg cc pp ch pv prs S) {r : Nat} {R : Rp} (hR : S.reps[r]? = some R) : ∃ hr : r < prs.length, RpAt w own (1 + 11 * r) prs[r] R := by
  obtain ⟨hrn, rfl⟩ := List.getElem?_eq_some_iff.1 hR
  have hl := h.len
  exact ⟨by omega, h.reps r (by omega) hrn⟩
set_option maxHeartbeats 800000 in
theorem wbegin_any (own : Clr) (s rg cc pp ch : Nat) (pv : Value) (prs : List Nat) (S : Sto) (r : Nat) (R : Rp) (w w0 : World) (eb ef : Addr) (hen : Env w0 w own eb ef) (h : StIn w own s rg cc pp ch pv prs S) (hR : S.reps[r]? = some R) (hup : Rup R) :
    Calls Tryz.prog 16 #[.pointer (some ⟨s, 0, none⟩), I r] w fun e w' => e = .returned (I (beginR R).2) ∧ StOk w0 w own s { S with reps := S.reps.set r (beginR R).1 } eb ef w' := by
  obtain ⟨hr, cg, cc', hp, mv, hv, ev, hs, es, hrp⟩ := h.prl hR
  have HU : Hid (Calls Tryz.prog 39 #[.pointer (some ⟨s, 0, none⟩), I r] w fun e w' => e = .returned (.tuple #[.pointer (some ⟨prs[r], 0, none⟩), I 0]) ∧ w' = w) := sup_yes own s rg cc pp ch pv prs S r hr R hR hup.up w h
  have HC : Hid (Calls Tryz.prog 40 #[.pointer (some ⟨prs[r], 0, none⟩)] w fun e w' => e = .returned (I (beginR R).2) ∧ StOk w0 w own s { S with reps := S.reps.set r (beginR R).1 } eb ef w') := (rbegin_any own (1 + 11 * r) prs[r] R cg cc' hp mv hv ev hs es w (by omega) hrp hup.n0 hup.n1).mono (fun e w' hh => ⟨hh.1, StOk.rep h hen r hr (ROk.self hrp.own1 hh.2)⟩)
  clear h hrp hup hen hR
  generalize prs[r] = p at *
  generalize (beginR R).2 = z at *
  generalize (beginR R).1 = R' at *
  go_enter Tryz.func16, Tryz.ntmps16
  go_wp2_with fail
  refine HU.out.mono ?_
  rintro e w1 ⟨rfl, hw1⟩
  subst hw1
  go_wp2_with fail
  refine HC.out.mono ?_
  rintro e w2 ⟨rfl, h2⟩
  have HE : Hid (StOk w0 w1 own s { S with reps := S.reps.set r R' } eb ef w2) := h2
  clear h2
  go_wp2
  go_ret
  exact ⟨rfl, HE.out⟩

end Go.Proofs.YtfmcngncaffloaaGreatDoor

namespace Go.Proofs.YtfmcngncaffloaaGreatDoor
open Go.RowKit
set_option maxRecDepth 100000

/-- What an operation that is let in makes of a replica. -/
def doR (R : Rp) (op : Int) (k : Nat) (x y : Int) (o : Ob) : Rp := { R with effs := R.effs ++ [(doM op k ((seeTo (pendB R) k o R.effs.length).says op x y)).e] }
set_option maxHeartbeats 800000 in
theorem wclock_any (own : Clr) (s rg cc pp ch : Nat) (pv : Value) (prs : List Nat) (S : Sto) (r : Nat) (R : Rp) (w : World) (h : StIn w own s rg cc pp ch pv prs S) (hR : S.reps[r]? = some R) (hl : R.clock.length ≤ 1000) :
    Calls Tryz.prog 22 #[.pointer (some ⟨s, 0, none⟩), I r] w fun e w' => ReadOk w R.clock e w' := by
  obtain ⟨hr, cg, cc', hp, mv, hv, ev, hs, es, hrp⟩ := h.prl hR
  have HU : Hid (Calls Tryz.prog 48 #[.pointer (some ⟨s, 0, none⟩), I r] w fun e w' => e = .returned (.tuple #[.pointer (some ⟨prs[r], 0, none⟩), I 0]) ∧ w' = w) := sreplica_yes own s rg cc pp ch pv prs S r hr w h
  have HC : Hid (Calls Tryz.prog 49 #[.pointer (some ⟨prs[r], 0, none⟩)] w fun e w' => ∃ v, e = .returned v ∧ w'.ownsRow w.heap.size 3 1 v R.clock.length (R.clock.map I) ∧ Below w.heap.size w w') := rclock_any own (1 + 11 * r) prs[r] R cg cc' hp mv hv ev hs es w hrp hl
  clear h hrp hR
  generalize prs[r] = p at *
  go_enter Tryz.func22, Tryz.ntmps22
  go_wp2_with fail
  refine HU.out.mono ?_
  rintro e w1 ⟨rfl, hw1⟩
  subst hw1
  go_wp2_with fail
  refine HC.out.mono ?_
  rintro e w2 ⟨v, rfl, h2, hb2⟩
  have HO : Hid (w2.ownsRow w1.heap.size 3 1 v R.clock.length (R.clock.map I)) := h2
  have HB : Hid (Below w1.heap.size w1 w2) := hb2
  clear h2 hb2
  go_wp2
  go_ret2
  exact ⟨v, rfl, HO.out, HB.out⟩

end Go.Proofs.YtfmcngncaffloaaGreatDoor

namespace Go.Proofs.YtfmcngncaffloaaGreatDoor
open Go.RowKit
set_option maxRecDepth 100000

/-- The messages that a frame is sent in, to the first k replicas but one. -/
def sprd (f : Nat) (fr : List UInt8) : Nat → List Ms
  | 0 => []
  | k + 1 => sprd f fr k ++ (if k = f then [] else [⟨1, f, k, fr, false⟩])
end Go.Proofs.YtfmcngncaffloaaGreatDoor

namespace Go.Proofs.YtfmcngncaffloaaGreatDoor
open Go.RowKit
set_option maxRecDepth 100000

/-- What a commit with effects makes of a replica. -/
def commitS (R : Rp) : Rp := commitR R (takeP earlierB (likeB (pendB R)) R.held).2
end Go.Proofs.YtfmcngncaffloaaGreatDoor

namespace Go.Proofs.YtfmcngncaffloaaGreatDoor
open Go.RowKit
set_option maxRecDepth 100000

/-- What a frame makes of a replica, wherever that lies. -/
def TFrame (w0 : World) (eb ef : Addr) (R : Rp) (l : List UInt8) (R' : Rp) : Prop := ∀ (own : Clr) (c p : Nat) (w : World), 0 < c → Env w0 w own eb ef → RpAt w own c p R → Calls Tryz.prog 79 #[.pointer (some ⟨p, 0, none⟩), .string ⟨l.toArray⟩] w fun e w' => e = .returned (.tuple #[]) ∧ ROk w own c p R' w'
end Go.Proofs.YtfmcngncaffloaaGreatDoor

namespace Go.Proofs.YtfmcngncaffloaaGreatDoor
open Go.RowKit
set_option maxRecDepth 100000

abbrev ptrV (p : Nat) : Value := .pointer (some ⟨p, 0, none⟩)
theorem infoPr : (Tryz.prog.info? 84).map (fun i => (i.zero, i.size, i.bytes)) = some (some (.pointer none), 1, 8) := by kernel_rfl
/-- A new store. -/
def newS (n : Nat) : Sto := ⟨(List.range n).map (fun i => newR i n), []⟩
def WnewOk (w0 w : World) (own : Clr) (n : Nat) (eb ef : Addr) (e : Ending) (w' : World) : Prop := ∃ s, e = .returned (.tuple #[.pointer (some ⟨s, 0, none⟩), I 0]) ∧ StOk w0 w own s (newS n) eb ef w' ∧ Below w.heap.size w w'
/-- A store that gets its replicas. -/
structure NsAt (w wr : World) (own own' : Clr) (s n pp ch : Nat) (rv : Value) (prs : List Nat) : Prop where
  bel : Below w.heap.size w wr
  ext : Ext own own' w.heap.size
  blk : Blk wr s #[rv, .pointer (some ⟨pp, 0, none⟩)] 83
  ls : w.heap.size ≤ s
  row : wr.ownsRow w.heap.size 84 1 rv prs.length (prs.map ptrV)
  reps : ∀ r (h : r < prs.length), RpAt wr own' (1 + 11 * r) prs[r] (newR r n)
  post : PoIn wr own' 100 pp ch (.slice none 0 0) []
  c1 : own' s = 900
  c2 : ∀ g, rv.ownBlock = some g → own' g = 900
theorem NsAt.begin {w w1 : World} {own own1 : Clr} {n pp ch : Nat} (hb : Below w.heap.size w w1) (he : Ext own own1 w.heap.size) (hp : PoIn w1 own1 100 pp ch (.slice none 0 0) []) : NsAt w (w1.alloc (.cells #[.slice none 0 0, .pointer (some ⟨pp, 0, none⟩)] 83)) own (newTo own1 w1.heap.size 900) w1.heap.size n pp ch (.slice none 0 0) [] :=
  ⟨hb.alloc hb.size _, he.trans (newTo_ext _ _ _) hb.size, heap_alloc_new w1 _, hb.size, ⟨rfl, .inl ⟨rfl, rfl⟩⟩, fun r h => absurd h (by simp), hp.keep (fun b hl _ => Below.heap_alloc _ _ _ hl) (newTo_ext _ _ _), newTo_new _ _ _ _ (Nat.le_refl _), fun g e => (by simp [Value.ownBlock] at e)⟩
theorem NsAt.kept {w wr w5 : World} {own own' own5 : Clr} {s n pp ch : Nat} {rv : Value} {prs : List Nat} (h : NsAt w wr own own' s n pp ch rv prs) (hb : Below wr.heap.size wr w5) (he : Ext own' own5 wr.heap.size) : NsAt w w5 own own5 s n pp ch rv prs :=
  ⟨h.bel.trans (hb.mono h.bel.size), h.ext.trans he h.bel.size, h.blk.kept hb h.blk.lt, h.ls, own_kept h.row (fun g e => hb.block g (h.row.lt g e).2), fun r hr => (h.reps r hr).keep (fun b hl _ => hb.block b hl) (fun _ _ _ b hl _ => hb.block b hl) he, h.post.keep (fun b hl _ => hb.block b hl) he, (he s h.blk.lt).trans h.c1, fun g e => (he g (h.row.lt g e).2).trans (h.c2 g e)⟩
theorem NsAt.ne {w wr : World} {own own' : Clr} {s n pp ch : Nat} {rv : Value} {prs : List Nat} (h : NsAt w wr own own' s n pp ch rv prs) : ¬ rv.ownBlock = some s := by
  intro e
  rcases h.row.2 with ⟨rfl, _⟩ | ⟨g, cap, cur, rfl, _, hg, _⟩
  · cases e
  · have e : g = s := by simpa [Value.ownBlock] using e
    subst e
    have h9 := hg.symm.trans h.blk
    simp at h9
theorem NsAt.step {w w5 w6 w7 : World} {own own5 : Clr} {s n pp ch g7 cap7 p : Nat} {rv : Value} {prs : List Nat} (h : NsAt w w5 own own5 s n pp ch rv prs) (hl : prs.length ≤ 4) (hR : RpAt w5 own5 (1 + 11 * prs.length) p (newR prs.length n)) (hb : Below w5.heap.size w5 w6) (hg : w6.grownBy w7 rv.ownBlock) (ho : w7.ownsRow w.heap.size 84 1 (.slice (some ⟨g7, 0, none⟩) (prs.length + 1) cap7) (prs.length + 1) (prs.map ptrV ++ [ptrV p])) (ha : rv.ownBlock = some g7 ∨ w5.heap.size ≤ g7) :
    NsAt w (w7.setCell ⟨s, 0, none⟩ (.slice (some ⟨g7, 0, none⟩) (prs.length + 1) cap7)) own (newTo own5 w5.heap.size 900) s n pp ch (.slice (some ⟨g7, 0, none⟩) (prs.length + 1) cap7) (prs ++ [p]) := by
  have he := newTo_ext own5 w5.heap.size 900
  have h6 : NsAt w w6 own (newTo own5 w5.heap.size 900) s n pp ch rv prs := h.kept hb he
  have hR6 : RpAt w6 (newTo own5 w5.heap.size 900) (1 + 11 * prs.length) p (newR prs.length n) := hR.keep (fun b hl _ => hb.block b hl) (fun _ _ _ b hl _ => hb.block b hl) he
  have hne := h6.ne
  have hT7 : Tch (fun k => rv.ownBlock = some k) w6 w7 := Tch.grown hg
  have hT8 : Tch (fun k => rv.ownBlock = some k ∨ k = s) w6 (w7.setCell ⟨s, 0, none⟩ (.slice (some ⟨g7, 0, none⟩) (prs.length + 1) cap7)) := (hT7.mono (fun _ _ h => Or.inl h)).setCell ⟨s, 0, none⟩ _ (Or.inl (Or.inr rfl))
  have hS : ∀ d, d ≠ 900 → Same (newTo own5 w5.heap.size 900) d w6 (w7.setCell ⟨s, 0, none⟩ (.slice (some ⟨g7, 0, none⟩) (prs.length + 1) cap7)) := fun d hd => hT8.same (fun k e e2 => hd (by
    rcases e2 with e2 | e2
    · rw [← e]; exact h6.c2 k e2
    · rw [← e, e2]; exact h6.c1))
  have hlen : (prs ++ [p]).length = prs.length + 1 := by simp
  have hsg : s ≠ g7 := by
    rcases ha with ha | ha
    · rintro rfl; exact h.ne ha
    · have := h.blk.lt; omega
  have hsw := h.ls
  refine ⟨?_, h6.ext, (hT7.blk h6.blk hne).set 0 _, h.ls, ?_, fun r hr => ?_, h6.post.keep (hS 100 (by omega)) (Ext.refl _ _), h6.c1, fun g e => ?_⟩
  · refine h6.bel.trans (hT8.toBelow h6.bel.size (fun k hk e => ?_))
    rcases e with e | e
    · have := (h6.row.lt k e).1; omega
    · omega
  · rw [hlen, List.map_append]
    exact own_kept ho (fun b e => heap_setCell_other _ ⟨s, 0, none⟩ b _ (by cases e; exact hsg.symm))
  · by_cases hrl : r < prs.length
    · rw [List.getElem_append_left hrl]
      exact (h6.reps r hrl).keep (hS 0 (by omega)) (fun d a b => hS d (by omega)) (Ext.refl _ _)
    · have : r = prs.length := by simp at hr; omega
      subst this
      rw [List.getElem_concat_length rfl]
      exact hR6.keep (hS 0 (by omega)) (fun d a b => hS d (by omega)) (Ext.refl _ _)
  · cases e
    rcases ha with ha | ha
    · exact h6.c2 _ ha
    · exact newTo_new _ _ _ _ ha
theorem NsAt.fin {w wr w0 : World} {own own' : Clr} {s n pp ch : Nat} {rv : Value} {prs : List Nat} {eb ef : Addr} (h : NsAt w wr own own' s n pp ch rv prs) (hl : prs.length = n) (hn2 : 2 ≤ n) (hn4 : n ≤ 4) (hen : Env w0 w own eb ef) : StOk w0 w own s (newS n) eb ef wr := by
  obtain ⟨g, cp, rfl⟩ := row_some h.row (by omega)
  have e : (newS n).reps.length = n := by simp [newS]
  refine ⟨own', g, cp, pp, ch, .slice none 0 0, prs, h.ext, ⟨?_, fun r hr => ?_, by rw [e, hl], by rw [e]; exact hn4, by rw [e]; exact hn2, h.c1, h.c2 g rfl, fun r h1 h2 => ?_, h.post⟩, hen.tch (F := fun _ => False) (Tch.below h.bel) (fun _ _ h => h) h.ext, Tch.below h.bel⟩
  · rw [e, ← hl]; exact h.blk
  · have := h.row.cells (g := g) rfl r (ptrV prs[r]) (by simp [hr])
    rw [Addr.add_lit, Nat.zero_add] at this
    exact this
  · have e2 : (newS n).reps[r] = newR r n := by simp [newS]
    rw [e2]
    exact h.reps r h1
set_option maxHeartbeats 3200000 in
theorem wnew_any (own : Clr) (n : Nat) (w w0 : World) (eb ef : Addr) (hen : Env w0 w own eb ef) (hn2 : 2 ≤ n) (hn4 : n ≤ 4) :
    Calls Tryz.prog 14 #[I n] w fun e w' => WnewOk w0 w own n eb ef e w' := by
  have hni : ¬ (n : Int) < 2 := by omega
  have hnj : ¬ (n : Int) > 4 := by omega
  have HEN : Hid (Env w0 w own eb ef) := hen
  clear hen
  obtain ⟨ii, HI⟩ : ∃ i, Hid (Tryz.prog.info? 84 = some i ∧ i.zero = some (.pointer none) ∧ i.size = 1 ∧ i.bytes = 8) := by obtain ⟨i, h⟩ := info_parts infoPr; exact ⟨i, h⟩
  go_enter Tryz.func14, Tryz.ntmps14
  go_wp2_with fail
  refine (pnew_any own 100 w).mono ?_
  rintro e w1 ⟨pp, ch, own1, rfl, hb1, he1, hp1⟩
  have HN : Hid (NsAt w (w1.alloc (.cells #[.slice none 0 0, .pointer (some ⟨pp, 0, none⟩)] 83)) own (newTo own1 w1.heap.size 900) w1.heap.size n pp ch (.slice none 0 0) []) := NsAt.begin hb1 he1 hp1
  clear hb1 he1 hp1
  go_wp2_with fail
  generalize w1.heap.size = s at *
  go_loopw [16] (fun x wX => ∃ (own' : Clr) (rv : Value) (prs : List Nat), prs.length ≤ n ∧ x = I prs.length ∧ Hid (NsAt w wX own own' s n pp ch rv prs)) (fun x _ => n - (intOf x).toNat)
  case atStart => exact ⟨_, _, [], by simp, rfl, HN⟩
  case round =>
    obtain ⟨own', rv, prs, hl, rfl, HL⟩ := hrel
    clear HN
    by_cases hlt : prs.length < n
    · have hki : (prs.length : Int) < n := by omega
      have c0 : wr.cell? ⟨s, 0, none⟩ = some rv := HL.out.blk.cell 0
      have hp4 : prs.length ≤ 4 := by omega
      go_wp2_with fail
      go_region_law (first
        | (go_simp; go_at_call 38; refine (rnew_any own' (1 + 11 * prs.length) prs.length n _ hn4).mono ?_; rintro e w5 ⟨p, own5, rfl, hb5, he5, hr5⟩; have HB5 : Hid (Below wr.heap.size wr w5) := (by first | exact (Below.refl _ _).drew.trans hb5 | exact hb5); have HN5 : Hid (NsAt w w5 own own5 s n pp ch rv prs) := HL.out.kept HB5.out he5; have HR5 : Hid (RpAt w5 own5 (1 + 11 * prs.length) p (newR prs.length n)) := hr5; clear hb5 he5 hr5; have c5 : w5.cell? ⟨s, 0, none⟩ = some rv := HN5.out.blk.cell 0; have c6 : (w5.alloc (.cells #[.pointer (some ⟨p, 0, none⟩)] 84)).cell? ⟨s, 0, none⟩ = some rv := cell_kept ((Below.refl _ _).alloc (Nat.le_refl _) _) c5)
        | (refine step_append_lies _ (by rfl) _ _ _ (by rfl) w.heap.size 84 ii (.pointer none) 1 8 Tryz.underlying81 HI.out.1 HI.out.2.1 HI.out.2.2.1 HI.out.2.2.2 (by rfl) (by omega) rv prs.length (prs.map ptrV) (by rfl) (by first | exact HN5.out.row.alloc _ | exact (HN5.out.row.alloc _).drew) ⟨w5.heap.size, 0, none⟩ 1 1 [ptrV p] (by rfl) (by rfl) (by first | exact lit_any w5 _ _ | exact lit_drew w5 _ _) (by intro u hu; simp at hu; subst hu; rfl) (by omega) (by unfold maxLen; omega) (by omega) (by have := HN5.out.bel.size; simp; omega) (w5.heap.size + 1) (by simp) ?_; intro g7 cap7 w7 hown7 hgrow7 hat7 hlt7; have HE7 : Hid (NsAt w (w7.setCell ⟨s, 0, none⟩ (.slice (some ⟨g7, 0, none⟩) (prs.length + 1) cap7)) own (newTo own5 w5.heap.size 900) s n pp ch (.slice (some ⟨g7, 0, none⟩) (prs.length + 1) cap7) (prs ++ [p])) := HN5.out.step hp4 HR5.out ((Below.refl _ _).alloc (Nat.le_refl _) _) hgrow7 hown7 (hat7.imp id (fun e => by omega)); have HK7 : Hid (Blk w7 s #[rv, .pointer (some ⟨pp, 0, none⟩)] 83) := (Tch.grown hgrow7).blk (HN5.out.blk.alloc _) HN5.out.ne; have c7 : w7.cell? ⟨s, 0, none⟩ = some rv := HK7.out.cell 0; have z7 : w7.frozen? ⟨s, 0, none⟩ = false := HK7.out.frozen 0; clear hown7 hgrow7 hat7 hlt7))
      all_goals
        (have HLN : Hid ((prs ++ [p]).length = prs.length + 1) := by show _ = _; simp
         clear c5 c6 c7 z7 HK7 HR5 HN5 HB5 HL
         go_wp2_with fail
         go_roundw
         case rel => exact ⟨_, _, prs ++ [p], by rw [HLN.out]; omega, by rw [HLN.out]; go_num, HE7⟩
         case measure => simp [intOf]; omega)
    · have hki : ¬ (prs.length : Int) < n := by omega
      have HE : Hid (StOk w0 w own s (newS n) eb ef wr) := HL.out.fin (by omega) hn2 hn4 HEN.out
      go_wp2
      go_ret2
      exact ⟨s, rfl, HE.out, HL.out.bel⟩

end Go.Proofs.YtfmcngncaffloaaGreatDoor
