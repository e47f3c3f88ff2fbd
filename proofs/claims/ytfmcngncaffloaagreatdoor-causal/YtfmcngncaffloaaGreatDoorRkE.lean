import Derived.Test.YtfmcngncaffloaaGreatDoorRkD
import Derived.Conc.SmallLaws
namespace Go.Proofs.YtfmcngncaffloaaGreatDoor
open Go.RowKit
set_option maxRecDepth 100000

theorem mkmapL (w : World) : (Instr.makeMap 185 none).run Tryz.prog w = .ok (.map (some w.heap.size)) (w.alloc (.map #[] 0)) := by
  simp [Instr.makeMap]
theorem mkmapO (w : World) : (Instr.makeMap 120 none).run Tryz.prog w = .ok (.map (some w.heap.size)) (w.alloc (.map #[] 0)) := by
  simp [Instr.makeMap]
theorem mkslI (n : Nat) (hn : n ≤ 4) (w : World) : (Instr.makeSlice 34 (I n) (I n)).run Tryz.prog w = .ok (.slice (some ⟨w.heap.size, 0, none⟩) n n) (w.alloc (.cells (List.replicate n (I 0)).toArray 3)) := by
  obtain ⟨i, h1, h2, h3, h4⟩ := info_parts infoIn
  have h := run_makeSlice (P := Tryz.prog) (w := w) _ _ i _ Tryz.underlying34 h1 h2 .i64 .i64 (n : Int) (n : Int) (by omega) (Int.le_refl _) (by rw [h3]; omega) (by rw [h4]; omega) (by omega)
  rw [h, h3]
  have e : Go.madeCells (Value.cells (.int .i64 0)) ((n : Int).toNat * 1) = (List.replicate n (I 0)).toArray := by
    rw [Int.toNat_natCast, Nat.mul_one]
    apply Array.ext
    · simp [Go.madeCells]
    · intro j h1 h2
      simp [Go.madeCells, Value.cells, Nat.mod_one]
  rw [e]
  simp
/-- An object without effects. -/
def newOb (k : Int) : Ob := if k = 0 then .counter 0 else if k = 1 then .set [] else if k = 2 then .reg [] else .list []
/-- What objects.New leaves: blocks of d's alone. -/
def NewOk (w : World) (own : Clr) (d : Nat) (o : Ob) (e : Ending) (w' : World) : Prop := ∃ v, e = .returned v ∧ Below w.heap.size w w' ∧ ObAt w' (newTo own w.heap.size d) d v o
set_option maxHeartbeats 800000 in
theorem onew_any (own : Clr) (d : Nat) (k : Int) (w : World) :
    Calls Tryz.prog 63 #[I k] w fun e w' => NewOk w own d (newOb k) e w' := by
  obtain ⟨o, HO⟩ : ∃ o, Hid (newOb k = o) := ⟨_, rfl⟩
  rw [HO.out]
  have hmm := fun W => mkmapL W
  go_enter Tryz.func63, Tryz.ntmps63
  by_cases h0 : k = 0
  · subst h0
    go_wp2
    go_ret
    rw [← HO.out]
    exact ⟨_, rfl, (Below.refl _ _).alloc (Nat.le_refl _) _, _, rfl, newTo_new _ _ _ _ (Nat.le_refl _), heap_alloc_new w _⟩
  · by_cases h1 : k = 1
    · subst h1
      go_wp2
      go_ret
      rw [← HO.out]
      refine ⟨_, rfl, ((Below.refl _ _).alloc (Nat.le_refl _) _).alloc (by simp) _, _, w.heap.size, rfl, newTo_new _ _ _ _ (by simp), newTo_new _ _ _ _ (Nat.le_refl _), ?_, ?_⟩
      · have := heap_alloc_new (w.alloc (.map #[] 0)) (.cells #[.map (some w.heap.size)] 187)
        rw [World.size_alloc] at this
        exact this
      · exact (MpAt.new w).same (Below.heap_alloc _ _ _ (by simp))
    · by_cases h2 : k = 2
      · subst h2
        go_wp2
        go_ret
        rw [← HO.out]
        refine ⟨_, rfl, ((Below.refl _ _).alloc (Nat.le_refl _) _).alloc (by simp) _, _, w.heap.size, rfl, newTo_new _ _ _ _ (by simp), newTo_new _ _ _ _ (Nat.le_refl _), ?_, ?_⟩
        · have := heap_alloc_new (w.alloc (.map #[] 0)) (.cells #[.map (some w.heap.size)] 189)
          rw [World.size_alloc] at this
          exact this
        · exact (MpAt.new w).same (Below.heap_alloc _ _ _ (by simp))
      · have HO2 : Hid (o = .list []) := by show _ = _; rw [← HO.out]; simp [newOb, h0, h1, h2]
        have b0 : (k == 0) = false := by simp [h0]
        have b1 : (k == 1) = false := by simp [h1]
        have b2 : (k == 2) = false := by simp [h2]
        clear h0 h1 h2
        go_wp2
        go_ret
        rw [HO2.out]
        exact ⟨_, rfl, (Below.refl _ _).alloc (Nat.le_refl _) _, _, .slice none 0 0, rfl, newTo_new _ _ _ _ (Nat.le_refl _), fun g e => (by simp [Value.ownBlock] at e), heap_alloc_new w _, ⟨rfl, .inl ⟨rfl, rfl⟩⟩, Nat.zero_le _⟩
/-- A new replica. -/
def newR (i n : Nat) : Rp := ⟨i, 0, List.replicate n 0, 0, [.counter 0, .set [], .reg [], .list [], .counter 0, .set [], .reg [], .list []], [], 0, [], []⟩
theorem hnew_eq (w : World) :
    Calls Tryz.prog 61 #[.func (.func 62) #[] #[]] w fun e w' => e = .returned (.pointer (some ⟨w.heap.size, 0, none⟩)) ∧ w' = w.alloc (.cells #[.slice none 0 0, .func (.func 62) #[] #[]] 178) := by
  go_enter Tryz.func61, Tryz.ntmps61
  go_wp2
  go_ret
  exact ⟨rfl, rfl⟩
/-- A new replica, ahead of its objects. -/
structure NwAt (w wr : World) (p cg mb hp i n : Nat) : Prop where
  bel : Below w.heap.size w wr
  blk : Blk wr p #[I i, I 0, .slice (some ⟨cg, 0, none⟩) n n, I 0, .map (some mb), .string ⟨#[]⟩, I 0, .pointer (some ⟨hp, 0, none⟩), .slice none 0 0] 130
  clk : Blk wr cg (Array.replicate n (I 0)) 3
  om : OmAt wr mb []
  hpx : HpIn wr hp (.slice none 0 0) []
  lp : w.heap.size ≤ p
  lc : w.heap.size ≤ cg
  lm : w.heap.size ≤ mb
  lh : w.heap.size ≤ hp
theorem al4_1 (w : World) (o1 o2 o3 o4 : Obj) : ((((w.alloc o1).alloc o2).alloc o3).alloc o4).drew.heap[w.heap.size]? = some o1 := by
  show ((((w.alloc o1).alloc o2).alloc o3).alloc o4).heap[w.heap.size]? = some o1
  rw [Below.heap_alloc _ _ _ (by simp <;> omega), Below.heap_alloc _ _ _ (by simp <;> omega), Below.heap_alloc _ _ _ (by simp)]
  exact (MapKept.heap_alloc w _).1
theorem al4_2 (w : World) (o1 o2 o3 o4 : Obj) : ((((w.alloc o1).alloc o2).alloc o3).alloc o4).drew.heap[w.heap.size + 1]? = some o2 := by
  show ((((w.alloc o1).alloc o2).alloc o3).alloc o4).heap[w.heap.size + 1]? = some o2
  rw [Below.heap_alloc _ _ _ (by simp <;> omega), Below.heap_alloc _ _ _ (by simp)]
  have := (MapKept.heap_alloc (w.alloc o1) o2).1
  rw [World.size_alloc] at this
  exact this
theorem al4_3 (w : World) (o1 o2 o3 o4 : Obj) : ((((w.alloc o1).alloc o2).alloc o3).alloc o4).drew.heap[w.heap.size + 1 + 1]? = some o3 := by
  show ((((w.alloc o1).alloc o2).alloc o3).alloc o4).heap[w.heap.size + 1 + 1]? = some o3
  rw [Below.heap_alloc _ _ _ (by simp)]
  have := (MapKept.heap_alloc ((w.alloc o1).alloc o2) o3).1
  rw [World.size_alloc, World.size_alloc] at this
  exact this
theorem al4_4 (w : World) (o1 o2 o3 o4 : Obj) : ((((w.alloc o1).alloc o2).alloc o3).alloc o4).drew.heap[w.heap.size + 1 + 1 + 1]? = some o4 := by
  show ((((w.alloc o1).alloc o2).alloc o3).alloc o4).heap[w.heap.size + 1 + 1 + 1]? = some o4
  have := (MapKept.heap_alloc (((w.alloc o1).alloc o2).alloc o3) o4).1
  rw [World.size_alloc, World.size_alloc, World.size_alloc] at this
  exact this
theorem nw_gen (w : World) (o1 o2 o3 : Obj) (cg mb hp i n : Nat) (W : World) (hW : W = ((((w.alloc o1).alloc o2).alloc o3).alloc (.cells #[I i, I 0, .slice (some ⟨cg, 0, none⟩) n n, I 0, .map (some mb), .string ⟨#[]⟩, I 0, .pointer (some ⟨hp, 0, none⟩), .slice none 0 0] 130)).drew)
    (hc : W.heap[cg]? = some (.cells (Array.replicate n (I 0)) 3 (0, 0))) (hm : W.heap[mb]? = some (.map #[] 0)) (hh : W.heap[hp]? = some (.cells #[.slice none 0 0, .func (.func 62) #[] #[]] 178 (0, 0))) (lc : w.heap.size ≤ cg) (lm : w.heap.size ≤ mb) (lh : w.heap.size ≤ hp) :
    NwAt w W (w.heap.size + 1 + 1 + 1) cg mb hp i n := by
  refine ⟨?_, ?_, hc, ⟨#[], 0, hm, rfl⟩, ⟨hh, ⟨rfl, .inl ⟨rfl, rfl⟩⟩⟩, by omega, lc, lm, lh⟩
  · rw [hW]
    exact (((((Below.refl w.heap.size w).alloc (Nat.le_refl _) _).alloc (by simp) _).alloc (by simp <;> omega) _).alloc (by simp <;> omega) _).drew
  · rw [hW]
    exact al4_4 w o1 o2 o3 _
/-- A new replica that gets its objects. -/
structure NlAt (w wr : World) (own own' : Clr) (c p cg mb hp i n : Nat) (vs : List Value) : Prop where
  bel : Below w.heap.size w wr
  blk : Blk wr p #[I i, I 0, .slice (some ⟨cg, 0, none⟩) n n, I 0, .map (some mb), .string ⟨#[]⟩, I 0, .pointer (some ⟨hp, 0, none⟩), .slice none 0 0] 130
  clk : Blk wr cg (Array.replicate n (I 0)) 3
  om : OmAt wr mb vs
  hpx : HpIn wr hp (.slice none 0 0) []
  lm : w.heap.size ≤ mb
  ext : Ext own own' w.heap.size
  c1 : own' p = c
  c2 : own' cg = c
  c3 : own' mb = c
  c4 : own' hp = c + 9
  obs : ∀ j (h : j < vs.length), ObAt wr own' (c + 1 + j) vs[j] (newOb ((j : Int) % 4))
theorem NwAt.nl {w wr : World} {own : Clr} {c p cg mb hp i n : Nat} (h : NwAt w wr p cg mb hp i n) : NlAt w wr own (fun b => if b < w.heap.size then own b else if b = hp then c + 9 else c) c p cg mb hp i n [] := by
  have hph : p ≠ hp := by
    rintro rfl
    have h9 := h.blk.symm.trans h.hpx.blk
    simp at h9
  have hch : cg ≠ hp := by
    rintro rfl
    have h9 := h.clk.symm.trans h.hpx.blk
    simp at h9
  have hmh : mb ≠ hp := by
    rintro rfl
    obtain ⟨_, _, hx, _⟩ := h.om
    cases h.hpx.blk.symm.trans hx
  have lp := h.lp
  have lc := h.lc
  have lm := h.lm
  have lh := h.lh
  refine ⟨h.bel, h.blk, h.clk, h.om, h.hpx, h.lm, fun b hb => if_pos hb, ?_, ?_, ?_, ?_, fun j hj => absurd hj (by simp)⟩
  · show (if p < w.heap.size then own p else if p = hp then c + 9 else c) = c
    rw [if_neg (by omega), if_neg hph]
  · show (if cg < w.heap.size then own cg else if cg = hp then c + 9 else c) = c
    rw [if_neg (by omega), if_neg hch]
  · show (if mb < w.heap.size then own mb else if mb = hp then c + 9 else c) = c
    rw [if_neg (by omega), if_neg hmh]
  · show (if hp < w.heap.size then own hp else if hp = hp then c + 9 else c) = c + 9
    rw [if_neg (by omega), if_pos rfl]
theorem NlAt.step {w wr w5 w6 : World} {own own' : Clr} {c p cg mb hp i n : Nat} {vs : List Value} {v : Value} (h : NlAt w wr own own' c p cg mb hp i n vs) (hb : Below wr.heap.size wr w5) (ho : ObAt w5 (newTo own' wr.heap.size (c + 1 + vs.length)) (c + 1 + vs.length) v (newOb ((vs.length : Int) % 4))) (hm : OmAt w6 mb (vs ++ [v])) (hg : w5.grownBy w6 (some mb)) : NlAt w w6 own (newTo own' wr.heap.size (c + 1 + vs.length)) c p cg mb hp i n (vs ++ [v]) := by
  have he := newTo_ext own' wr.heap.size (c + 1 + vs.length)
  have hT : Tch (fun k => k = mb) w5 w6 := (Tch.grown hg).mono (fun k _ e => by simpa using e.symm)
  have hmw : mb < wr.heap.size := h.om.lt
  have hpm : p ≠ mb := by
    rintro rfl
    obtain ⟨_, _, hx, _⟩ := h.om
    cases h.blk.symm.trans hx
  have hcm : cg ≠ mb := by
    rintro rfl
    obtain ⟨_, _, hx, _⟩ := h.om
    cases h.clk.symm.trans hx
  have hhm : hp ≠ mb := by
    rintro rfl
    obtain ⟨_, _, hx, _⟩ := h.om
    cases h.hpx.blk.symm.trans hx
  have hS : ∀ d, d ≠ c → Same (newTo own' wr.heap.size (c + 1 + vs.length)) d w5 w6 := fun d hd => hT.same (fun k e e2 => hd (by
    have e2 : k = mb := e2
    rw [← e, e2, newTo_same _ _ _ _ hmw, h.c3]))
  have hbw : Below w.heap.size w w5 := h.bel.trans (hb.mono h.bel.size)
  refine ⟨?_, hT.blk (h.blk.kept hb h.blk.lt) hpm, hT.blk (h.clk.kept hb h.clk.lt) hcm, hm, ⟨hT.blk (h.hpx.blk.kept hb h.hpx.blk.lt) hhm, ⟨rfl, .inl ⟨rfl, rfl⟩⟩⟩, h.lm, h.ext.trans he h.bel.size, (he p h.blk.lt).trans h.c1, (he cg h.clk.lt).trans h.c2, (he mb hmw).trans h.c3, (he hp h.hpx.blk.lt).trans h.c4, fun j hj => ?_⟩
  · have := h.lm
    exact hbw.trans (hT.toBelow hbw.size (fun k hk e => by have e : k = mb := e; omega))
  · by_cases hjl : j < vs.length
    · rw [List.getElem_append_left hjl]
      exact ((h.obs j hjl).keep (fun b hl _ => hb.block b hl) he).keep (hS _ (by omega)) (Ext.refl _ _)
    · have : j = vs.length := by simp at hj; omega
      subst this
      rw [List.getElem_concat_length rfl]
      exact ho.keep (hS _ (by omega)) (Ext.refl _ _)
theorem NlAt.fin {w wr : World} {own own' : Clr} {c p cg mb hp i n : Nat} {vs : List Value} (h : NlAt w wr own own' c p cg mb hp i n vs) (hl : vs.length = 8) : RpAt wr own' c p (newR i n) := by
  refine ⟨cg, n, hp, .map (some mb), .slice none 0 0, .slice none 0 0, [], [], ⟨?_, ?_, h.c1, h.c2, Or.inr ⟨mb, vs, rfl, h.c3, h.om, hl, rfl, fun k h1 h2 => ?_⟩, ⟨h.hpx, h.c4, fun g e => (by simp [Value.ownBlock] at e), fun m hm => (by cases hm)⟩, rfl, ⟨⟨rfl, .inl ⟨rfl, rfl⟩⟩, fun g e => (by simp [Value.ownBlock] at e), fun x hx => (by cases hx)⟩, rfl⟩⟩
  · have e : (newR i n).clock.length = n := by simp [newR]
    rw [e]
    exact h.blk
  · have e : ((newR i n).clock.map I).toArray = Array.replicate n (I 0) := by simp [newR]
    rw [e]
    exact h.clk
  · have e : (newR i n).obs[k] = newOb ((k : Int) % 4) := by
      have hk : k < 8 := by omega
      clear h1
      rcases k with _ | _ | _ | _ | _ | _ | _ | _ | k <;> first | rfl | omega
    rw [e]
    exact h.obs k h1
def RnewOk (w : World) (own : Clr) (c i n : Nat) (e : Ending) (w' : World) : Prop := ∃ p own', e = .returned (.pointer (some ⟨p, 0, none⟩)) ∧ Below w.heap.size w w' ∧ Ext own own' w.heap.size ∧ RpAt w' own' c p (newR i n)
set_option maxHeartbeats 1600000 in
theorem rnew_any (own : Clr) (c : Nat) (i n : Nat) (w : World) (hn : n ≤ 4) :
    Calls Tryz.prog 38 #[I i, I n] w fun e w' => RnewOk w own c i n e w' := by
  have hmm := fun W => mkmapO W
  have hms := fun W => mkslI n hn W
  go_enter Tryz.func38, Tryz.ntmps38
  go_wp2_with fail
  go_cut [5] (fun v5 wx => ∃ p cg mb hp, v5 = .pointer (some ⟨p, 0, none⟩) ∧ Hid (NwAt w wx p cg mb hp i n))
  case first =>
    go_region_law (first | (go_simp; go_at_call 61; refine (hnew_eq _).mono ?_; rintro e w3 ⟨rfl, rfl⟩))
    all_goals
      (go_wp2_with fail
       go_meet
       exact ⟨_, _, _, _, rfl, nw_gen w _ _ _ _ _ _ i n _ rfl (by first | exact al4_1 w _ _ _ _ | exact al4_2 w _ _ _ _ | exact al4_3 w _ _ _ _) (by first | exact al4_1 w _ _ _ _ | exact al4_2 w _ _ _ _ | exact al4_3 w _ _ _ _) (by first | exact al4_1 w _ _ _ _ | exact al4_2 w _ _ _ _ | exact al4_3 w _ _ _ _) (by omega) (by omega) (by omega)⟩)
  case rest =>
    obtain ⟨p, cg, mb, hp, rfl, HN⟩ := hcut
    clear hmm hms
    go_wp2_with fail
    go_loopw [14] (fun x wX => ∃ (own' : Clr) (vs : List Value), vs.length ≤ 8 ∧ x = I vs.length ∧ Hid (NlAt w wX own own' c p cg mb hp i n vs)) (fun x _ => 8 - (intOf x).toNat)
    case atStart => exact ⟨_, [], by simp, rfl, HN.out.nl⟩
    case round =>
      obtain ⟨own', vs, hl, rfl, HL⟩ := hrel
      clear HN
      by_cases hlt : vs.length < 8
      · have hki : (vs.length : Int) < 8 := by omega
        have HLD : Hid (NlAt w wr.drew own own' c p cg mb hp i n vs) := by
          have h := HL.out
          exact ⟨h.bel.drew, h.blk, h.clk, h.om.same rfl, ⟨h.hpx.blk, ⟨rfl, .inl ⟨rfl, rfl⟩⟩⟩, h.lm, h.ext, h.c1, h.c2, h.c3, h.c4, fun j hj => (h.obs j hj).keep (fun _ _ _ => rfl) (Ext.refl _ _)⟩
        have y4 : wr.drew.cell? ⟨p, 4, none⟩ = some (.map (some mb)) := HLD.out.blk.cell 4
        have hA1 : 0 ≤ (vs.length : Int) := by omega
        have hA2 : (vs.length : Int) ≤ 7 := by omega
        go_wp2_with fail
        go_region_held_law (fun w' => w'.cell? ⟨p, 4, none⟩ = some (.map (some mb))) (exact (by with_reducible assumption))
          (first
          | (go_at_call 64; refine (kindOf_any _ hA1 hA2 _).mono ?_; rintro e w4 ⟨rfl, hw4⟩; subst hw4)
          | (go_at_call 63; refine (onew_any own' (c + 1 + vs.length) _ _).mono ?_; rintro e w5 ⟨v, rfl, hb5, ho5⟩; have HB5 : Hid (Below wr.drew.heap.size wr.drew w5) := hb5; have HO5 : Hid (ObAt w5 (newTo own' wr.drew.heap.size (c + 1 + vs.length)) (c + 1 + vs.length) v (newOb ((vs.length : Int) % 4))) := ho5; clear hb5 ho5; have z4 : w5.cell? ⟨p, 4, none⟩ = some (.map (some mb)) := cell_kept HB5.out y4; obtain ⟨w6, hu6, hm6, hg6⟩ := run_update_om v w5 mb vs (HLD.out.om.same (HB5.out.block mb HLD.out.om.lt)); have HM6 : Hid (OmAt w6 mb (vs ++ [v])) := hm6; have HG6 : Hid (w5.grownBy w6 (some mb)) := hg6; clear hm6 hg6; have q4 : w6.cell? ⟨p, 4, none⟩ = some (.map (some mb)) := (by have := (HLD.out.step HB5.out HO5.out HM6.out HG6.out).blk.cell 4; exact this)))
        have HL6 : Hid (NlAt w w6 own (newTo own' wr.drew.heap.size (c + 1 + vs.length)) c p cg mb hp i n (vs ++ [v])) := HLD.out.step HB5.out HO5.out HM6.out HG6.out
        have hln : (vs ++ [v]).length = vs.length + 1 := by simp
        have HLN : Hid ((vs ++ [v]).length = vs.length + 1) := hln
        clear hln hu6 HLD HL HB5 HO5 HM6 HG6 y4 z4 q4
        go_wp2_with fail
        go_roundw
        case rel => exact ⟨_, vs ++ [v], by rw [HLN.out]; omega, by rw [HLN.out]; go_num, HL6⟩
        case measure => simp [intOf]; omega
      · have hki : ¬ (vs.length : Int) < 8 := by omega
        have HE : Hid (RpAt wr own' c p (newR i n)) := HL.out.fin (by omega)
        go_wp2
        go_ret
        exact ⟨p, own', rfl, HL.out.bel, HL.out.ext, HE.out⟩

end Go.Proofs.YtfmcngncaffloaaGreatDoor
