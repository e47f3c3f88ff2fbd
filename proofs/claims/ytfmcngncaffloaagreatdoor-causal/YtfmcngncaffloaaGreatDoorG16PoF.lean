import Derived.Test.YtfmcngncaffloaaGreatDoorPoA
import Derived.Test.YtfmcngncaffloaaGreatDoorG15HpM
import Derived.Test.YtfmcngncaffloaaGreatDoorG14HpA
import Derived.Deep.AppendLies
import Derived.BigRegion
import Derived.ArgAppend
namespace Go.Proofs.YtfmcngncaffloaaGreatDoor
open Go.RowKit
set_option maxRecDepth 100000

/-- A message. -/
structure Ms where
  k : Int
  f : Int
  t : Int
  bs : List UInt8
  sp : Bool
def Ms.cells (m : Ms) : List Value := [I m.k, I m.f, I m.t, .string ⟨m.bs.toArray⟩, .bool m.sp]
abbrev msV (m : Ms) : Value := .agg #[I m.k, I m.f, I m.t, .string ⟨m.bs.toArray⟩, .bool m.sp]
abbrev msC (m : Ms) : Array Value := #[I m.k, I m.f, I m.t, .string ⟨m.bs.toArray⟩, .bool m.sp]
theorem msCells_len (m : Ms) : m.cells.length = 5 := rfl
theorem ms_one (ls : List Ms) : ∀ u ∈ flat Ms.cells ls, u.oneCell' = true := by
  induction ls with
  | nil => intro u hu; simp [flat] at hu
  | cons m ls ih =>
    intro u hu
    simp only [flat, List.mem_append] at hu
    rcases hu with hu | hu
    · simp only [Ms.cells, List.mem_cons, List.not_mem_nil, or_false] at hu
      rcases hu with rfl | rfl | rfl | rfl | rfl <;> rfl
    · exact ih u hu
theorem infoMs : (Tryz.prog.info? 162).map (fun i => (i.zero, i.size, i.bytes)) = some (some (.agg #[.int .i64 0, .int .i64 0, .int .i64 0, .string ⟨#[]⟩, .bool false]), 5, 48) := by kernel_rfl
theorem flat_snocM (l : List Ms) (x : Ms) : flat Ms.cells (l ++ [x]) = flat Ms.cells l ++ x.cells := by
  rw [flat_append]
  show _ ++ (x.cells ++ []) = _
  rw [List.append_nil]
/-- What is under way, in memory. -/
structure PoIn (w : World) (own : Clr) (c pp ch : Nat) (pv : Value) (ms : List Ms) : Prop where
  blk : Blk w pp #[.chan (some ch), pv] 119
  chn : ∃ buf s r, w.heap[ch]? = some (.chan 40 buf false s r false) ∧ buf.size = ms.length
  row : w.ownsRow 0 162 5 pv ms.length (flat Ms.cells ms)
  own1 : own pp = c
  own2 : own ch = c
  own3 : ∀ g, pv.ownBlock = some g → own g = c
  most : ms.length ≤ 40
theorem PoIn.chlt {w : World} {own : Clr} {c pp ch : Nat} {pv : Value} {ms : List Ms} (h : PoIn w own c pp ch pv ms) : ch < w.heap.size := by
  obtain ⟨_, _, _, hc, _⟩ := h.chn
  exact (Array.getElem?_eq_some_iff.1 hc).1
theorem PoIn.keep {w w' : World} {own own' : Clr} {c pp ch : Nat} {pv : Value} {ms : List Ms} (h : PoIn w own c pp ch pv ms) (hs : Same own c w w') (he : Ext own own' w.heap.size) : PoIn w' own' c pp ch pv ms := by
  obtain ⟨buf, s, r, hc, hb⟩ := h.chn
  exact ⟨(hs pp h.blk.lt h.own1).trans h.blk, ⟨buf, s, r, (hs ch h.chlt h.own2).trans hc, hb⟩, own_kept h.row (fun g e => hs g (h.row.lt g e).2 (h.own3 g e)), (he pp h.blk.lt).trans h.own1, (he ch h.chlt).trans h.own2, fun g e => (he g (h.row.lt g e).2).trans (h.own3 g e), h.most⟩
/-- What a call leaves of what is under way. -/
def PoOk (w : World) (own : Clr) (c pp ch : Nat) (ms : List Ms) (w' : World) : Prop := ∃ own' pv', Ext own own' w.heap.size ∧ PoIn w' own' c pp ch pv' ms ∧ TchC own c w w'

set_option maxHeartbeats 1600000 in
theorem padd_room (own : Clr) (c pp ch : Nat) (pv : Value) (ms : List Ms) (m : Ms) (w : World) (h : PoIn w own c pp ch pv ms) (hl : ms.length < 40) :
    Calls Tryz.prog 81 #[.pointer (some ⟨pp, 0, none⟩), msV m] w fun e w' => e = .returned (.tuple #[]) ∧ PoOk w own c pp ch (ms ++ [m]) w' := by
  obtain ⟨wA, hwA⟩ : ∃ wA, wA = w.alloc (.cells (msC m) 162) := ⟨_, rfl⟩
  have HBA : Hid (Below w.heap.size w wA) := by rw [hwA]; exact (Below.refl _ _).alloc (Nat.le_refl _) _
  have HX : Hid (Blk wA w.heap.size (msC m) 162) := by rw [hwA]; exact heap_alloc_new w _
  have HP : Hid (PoIn wA own c pp ch pv ms) := h.keep (fun b hb _ => HBA.out.block b hb) (Ext.refl _ _)
  have HPW : Hid (PoIn w own c pp ch pv ms) := h
  have c0 : wA.cell? ⟨pp, 0, none⟩ = some (.chan (some ch)) := HP.out.blk.cell 0
  clear h
  refine calls_of_wpN Tryz.func81 rfl ?_
  simp only [Tryz.ntmps81, List.size_toArray, List.length_cons, List.length_nil, Nat.reduceAdd, Nat.reduceSub, Array.replicate_succ, Array.replicate_zero, List.push_toArray, List.append_toArray, List.nil_append, List.cons_append]
  refine wpN_seq (wpN_of ?_)
  go_wp2_with fail
  change wpN _ _ _ _ (w.alloc (.cells (msC m) 162))
  rw [← hwA]
  clear hwA
  refine wpN_seq (wpN_of ?_)
  go_wp2_with fail
  obtain ⟨buf, sn, rn, hch, hbuf⟩ := HP.out.chn
  refine wpN_seq (wpN_region ?_)
  change wpR _ _ _ [0, 1, 2] _ _
  refine wpR_comm (i := 0) (cases := #[Go.Conc.scase ch (.agg #[]) (.agg #[])]) (blocking := false) (shape := .select) (w1 := wA) rfl rfl (by simp [go_sem, execOp, Go.Conc.scase, Act.eval]) (fun fr cs es hs => Go.Conc.step_lone_select_send_room hs hch (by omega)) ?_
  simp only [Act.put, List.getElem_toArray, List.getElem_cons_zero, List.setIfInBounds_toArray, List.set_cons_succ, List.set_cons_zero]
  refine wpR_value (i := 1) rfl rfl (v := .int .i64 0) (w' := wA.setChan ch 40 (buf.push (.agg #[])) false (sn + 1) rn false) (by simp [go_sem, execOp, Act.eval]) ?_
  simp only [Act.put, List.getElem_toArray, List.getElem_cons_zero, List.getElem_cons_succ, List.setIfInBounds_toArray, List.set_cons_succ, List.set_cons_zero]
  refine wpR_value (i := 2) rfl rfl (v := .bool true) (w' := wA.setChan ch 40 (buf.push (.agg #[])) false (sn + 1) rn false) (by simp [go_sem, execOp, Act.eval]) ?_
  simp only [Act.put, List.getElem_toArray, List.getElem_cons_zero, List.getElem_cons_succ, List.setIfInBounds_toArray, List.set_cons_succ, List.set_cons_zero]
  refine wpR_end (wpN_of ?_)
  obtain ⟨w2, hw2⟩ : ∃ w2, w2 = wA.setChan ch 40 (buf.push (.agg #[])) false (sn + 1) rn false := ⟨_, rfl⟩
  have hT2 : Tch (fun k => k = ch) wA w2 := by rw [hw2]; exact (Tch.refl _ _).setChan _ _ _ _ _ _ _ (Or.inl rfl)
  have HC2 : Hid (∃ buf s r, w2.heap[ch]? = some (.chan 40 buf false s r false) ∧ buf.size = ms.length + 1) := ⟨_, _, _, by rw [hw2]; exact Go.Conc.heap_setChan _ _ _ _ _ _ _ _ HP.out.chlt, by simp [hbuf]⟩
  rw [← hw2]
  clear hw2 hch hbuf buf sn rn
  have hne1 : pp ≠ ch := by
    rintro rfl
    obtain ⟨_, _, _, hc, _⟩ := HP.out.chn
    cases HP.out.blk.symm.trans hc
  have HNG : Hid (¬ pv.ownBlock = some ch ∧ ¬ pv.ownBlock = some pp) := by
    obtain ⟨_, _, _, hc, _⟩ := HP.out.chn
    rcases HP.out.row.2 with ⟨rfl, _⟩ | ⟨g, cap, cur, rfl, _, hg, _, _, hcs, _⟩
    · exact ⟨by simp [Value.ownBlock], by simp [Value.ownBlock]⟩
    · refine ⟨fun e => ?_, fun e => ?_⟩
      · have e : g = ch := by simpa [Value.ownBlock] using e
        subst e
        cases hg.symm.trans hc
      · have e : g = pp := by simpa [Value.ownBlock] using e
        subst e
        have h9 := hg.symm.trans HP.out.blk
        simp at h9
  have HK2 : Hid (Blk w2 pp #[.chan (some ch), pv] 119) := hT2.blk HP.out.blk hne1
  have HX2 : Hid (Blk w2 w.heap.size (msC m) 162) := hT2.blk HX.out (by have := HPW.out.chlt; omega)
  have HR2 : Hid (w2.ownsRow 0 162 5 pv ms.length (flat Ms.cells ms)) := own_kept HP.out.row (fun g e => hT2.block g (HP.out.row.lt g e).2 (by rintro rfl; exact HNG.out.1 e))
  have HT2 : Hid (TchC own c w w2) := (Tch.below HBA.out).trans hT2 (fun _ _ h => h) (fun k _ e => by rw [e]; exact HPW.out.own2)
  have hs2 : w.heap.size < w2.heap.size := HX2.out.lt
  have hppw : pp < w.heap.size := HPW.out.blk.lt
  have hone : ∀ u ∈ m.cells, u.oneCell' = true := by have := ms_one [m]; simpa [flat] using this
  obtain ⟨i2, hi2, hy0, hy1, hy2⟩ := info_parts infoMs
  have HI2 : Hid (Tryz.prog.info? 162 = some i2 ∧ i2.zero = some (.agg #[.int .i64 0, .int .i64 0, .int .i64 0, .string ⟨#[]⟩, .bool false]) ∧ i2.size = 5 ∧ i2.bytes = 48) := ⟨hi2, hy0, hy1, hy2⟩
  clear hi2 hy0 hy1 hy2 hT2 c0
  have c1 : w2.cell? ⟨pp, 1, none⟩ = some pv := HK2.out.cell 1
  have x0 : w2.cell? ⟨w.heap.size, 0, none⟩ = some (I m.k) := HX2.out.cell 0
  have x1 : w2.cell? ⟨w.heap.size, 1, none⟩ = some (I m.f) := HX2.out.cell 1
  have x2 : w2.cell? ⟨w.heap.size, 2, none⟩ = some (I m.t) := HX2.out.cell 2
  have x3 : w2.cell? ⟨w.heap.size, 3, none⟩ = some (.string ⟨m.bs.toArray⟩) := HX2.out.cell 3
  have x4 : w2.cell? ⟨w.heap.size, 4, none⟩ = some (.bool m.sp) := HX2.out.cell 4
  have cA2 : (w2.alloc (.cells (msC m) 162)).cell? ⟨pp, 1, none⟩ = some pv := (HK2.out.alloc _).cell 1
  go_wp2_with fail
  go_region_law ((refine step_append_lies _ (by rfl) _ _ _ (by rfl) 0 162 i2 (.agg #[.int .i64 0, .int .i64 0, .int .i64 0, .string ⟨#[]⟩, .bool false]) 5 48 Tryz.underlying117 HI2.out.1 HI2.out.2.1 HI2.out.2.2.1 HI2.out.2.2.2 (by rfl) (by omega) pv ms.length (flat Ms.cells ms) (by rfl) (by first | exact HR2.out.alloc _ | exact (HR2.out.alloc _).drew | exact (HR2.out.drew).alloc _) ⟨w2.heap.size, 0, none⟩ 1 1 m.cells (by rfl) (by rfl) (by first | exact lit_any w2 _ _ | exact lit_drew w2 _ _) hone (by omega) (by unfold maxLen; omega) (by omega) (by omega) (w2.heap.size + 1) (by simp) ?_; intro g7 cap7 w7 hown7 hgrow7 hat7 hlt7; have HT7 : Hid (Tch (fun k => pv.ownBlock = some k) w2 w7) := (by first | exact ((Tch.refl _ w2).drew.alloc _).then (Tch.grown hgrow7) | exact ((Tch.refl _ w2).alloc _).then (Tch.grown hgrow7)); have HO7 : Hid (w7.ownsRow 0 162 5 (.slice (some ⟨g7, 0, none⟩) (ms.length + 1) cap7) (ms.length + 1) (flat Ms.cells ms ++ m.cells)) := hown7; have HA7 : Hid (pv.ownBlock = some g7 ∨ g7 = w2.heap.size + 1) := hat7; have HK7 : Hid (Blk w7 pp #[.chan (some ch), pv] 119) := HT7.out.blk HK2.out HNG.out.2; have c7 : w7.cell? ⟨pp, 1, none⟩ = some pv := HK7.out.cell 1; have z7 : w7.frozen? ⟨pp, 1, none⟩ = false := HK7.out.frozen 1; clear hown7 hgrow7 hat7 hlt7))
  all_goals
    (go_wp2_with fail
     have hpg : pp ≠ g7 := by
       rcases HA7.out with e | e
       · intro e2; rw [← e2] at e; exact HNG.out.2 e
       · omega
     have hcg : ch ≠ g7 := by
       rcases HA7.out with e | e
       · intro e2; rw [← e2] at e; exact HNG.out.1 e
       · have := HPW.out.chlt; omega
     have HE : Hid (PoOk w own c pp ch (ms ++ [m]) (w7.setCell ⟨pp, 1, none⟩ (.slice (some ⟨g7, 0, none⟩) (ms.length + 1) cap7))) := by
       have hlen : (ms ++ [m]).length = ms.length + 1 := by simp
       have hTT : TchC own c w w7 := HT2.out.trans HT7.out (fun _ _ h => h) (fun k hk e => HPW.out.own3 k e)
       refine ⟨newTo own w.heap.size c, .slice (some ⟨g7, 0, none⟩) (ms ++ [m]).length cap7, newTo_ext _ _ _, ⟨?_, ?_, ?_, ?_, ?_, ?_, by rw [hlen]; omega⟩, hTT.setCell _ _ (Or.inl HPW.out.own1)⟩
       · rw [hlen]; exact HK7.out.set 1 _
       · obtain ⟨buf, s, r, hc, hb⟩ := HC2.out
         have hclt : ch < w2.heap.size := (Array.getElem?_eq_some_iff.1 hc).1
         exact ⟨buf, s, r, by rw [heap_setCell_other _ ⟨pp, 1, none⟩ ch _ (by exact hne1.symm), HT7.out.block ch hclt HNG.out.1]; exact hc, by rw [hb, hlen]⟩
       · rw [hlen, flat_snocM]
         exact own_kept HO7.out (fun b e => heap_setCell_other _ ⟨pp, 1, none⟩ b _ (by cases e; exact hpg.symm))
       · exact (newTo_same _ _ _ _ HPW.out.blk.lt).trans HPW.out.own1
       · exact (newTo_same _ _ _ _ HPW.out.chlt).trans HPW.out.own2
       · intro g e
         cases e
         rcases HA7.out with e | e
         · exact (newTo_same _ _ _ _ (HPW.out.row.lt _ e).2).trans (HPW.out.own3 _ e)
         · exact newTo_new _ _ _ _ (by show w.heap.size ≤ g7; omega)
     clear HK7 HO7 HT7
     go_wp2
     go_end0
     exact ⟨rfl, HE.out⟩)

end Go.Proofs.YtfmcngncaffloaaGreatDoor

namespace Go.Proofs.YtfmcngncaffloaaGreatDoor
open Go.RowKit
set_option maxRecDepth 100000

theorem PoOk.from {w w5 w6 : World} {own : Clr} {c pp ch : Nat} {ms : List Ms} (hB : Below w.heap.size w w5) (h : PoOk w5 (newTo own w.heap.size 0) c pp ch ms w6) : PoOk w own c pp ch ms w6 := by
  obtain ⟨own', pv', hE, hR, hT⟩ := h
  refine ⟨own', pv', (newTo_ext own w.heap.size 0).trans hE hB.size, hR, (Tch.below hB).trans hT (fun _ _ h => h) (fun k hk h => ?_)⟩
  have h : newTo own w.heap.size 0 k = c := h
  rw [newTo_same _ _ _ _ hk] at h
  exact h
theorem PoIn.below {w w' : World} {own : Clr} {c pp ch : Nat} {pv : Value} {ms : List Ms} (h : PoIn w own c pp ch pv ms) (hB : Below w.heap.size w w') : PoIn w' (newTo own w.heap.size 0) c pp ch pv ms := h.keep (fun b hb _ => hB.block b hb) (newTo_ext _ _ _)
theorem own_sl {w : World} {base : Nat} {e : TypeId} {s n : Nat} {v : Value} {xs : List Value} (h : w.ownsRow base e s v n xs) : ∃ a c, v = .slice a n c := by
  rcases h.2 with ⟨rfl, rfl⟩ | ⟨g, cap, cur, rfl, _⟩
  · exact ⟨none, 0, rfl⟩
  · exact ⟨_, _, rfl⟩
theorem msgs_of {w : World} {base g cap n : Nat} {ms : List Ms} (h : w.ownsRow base 162 5 (.slice (some ⟨g, 0, none⟩) n cap) ms.length (flat Ms.cells ms)) (k : Nat) (hk : k < ms.length) :
    w.cell? ⟨g, k * 5, none⟩ = some (I ms[k].k) ∧ w.cell? ⟨g, k * 5 + 1, none⟩ = some (I ms[k].f) ∧ w.cell? ⟨g, k * 5 + 2, none⟩ = some (I ms[k].t) ∧ w.cell? ⟨g, k * 5 + 3, none⟩ = some (.string ⟨ms[k].bs.toArray⟩) ∧ w.cell? ⟨g, k * 5 + 4, none⟩ = some (.bool ms[k].sp) := by
  have hc := h.cells (g := g) rfl
  have hx : ∀ j (_ : j < 5) u, (ms[k].cells)[j]? = some u → w.cell? ⟨g, k * 5 + j, none⟩ = some u := fun j hj u hu => by
    have := hc (k * 5 + j) u ((flat_get Ms.cells 5 msCells_len ms k hk j hj).trans hu)
    simpa [Addr.add_lit] using this
  exact ⟨hx 0 (by omega) _ rfl, hx 1 (by omega) _ rfl, hx 2 (by omega) _ rfl, hx 3 (by omega) _ rfl, hx 4 (by omega) _ rfl⟩
theorem row_some {w : World} {base : Nat} {e : TypeId} {s n : Nat} {v : Value} {xs : List Value} (h : w.ownsRow base e s v n xs) (hn : 0 < n) : ∃ g c, v = .slice (some ⟨g, 0, none⟩) n c := by
  rcases h.2 with ⟨rfl, rfl⟩ | ⟨g, cap, cur, rfl, _⟩
  · omega
  · exact ⟨_, _, rfl⟩
set_option maxHeartbeats 800000 in
theorem psend_room (own : Clr) (c pp ch : Nat) (pv : Value) (ms : List Ms) (k f t : Int) (bs : List UInt8) (w : World) (h : PoIn w own c pp ch pv ms) (hl : ms.length < 40) :
    Calls Tryz.prog 74 #[.pointer (some ⟨pp, 0, none⟩), I k, I f, I t, .string ⟨bs.toArray⟩] w fun e w' => e = .returned (.tuple #[]) ∧ PoOk w own c pp ch (ms ++ [⟨k, f, t, bs, false⟩]) w' := by
  have HP : Hid (PoIn w own c pp ch pv ms) := h
  clear h
  go_enter Tryz.func74, Tryz.ntmps74
  go_wp2_with fail
  refine (padd_room own c pp ch pv ms ⟨k, f, t, bs, false⟩ w HP.out hl).mono ?_
  rintro e w1 ⟨rfl, h1⟩
  have HE : Hid (PoOk w own c pp ch (ms ++ [⟨k, f, t, bs, false⟩]) w1) := h1
  clear h1
  go_wp2
  go_end0
  exact ⟨rfl, HE.out⟩
set_option maxHeartbeats 800000 in
theorem phas_any (own : Clr) (c pp ch : Nat) (pv : Value) (ms : List Ms) (i : Int) (w : World) (h : PoIn w own c pp ch pv ms) :
    Calls Tryz.prog 77 #[.pointer (some ⟨pp, 0, none⟩), I i] w fun e w' => e = .returned (.bool (decide (0 ≤ i ∧ i < ms.length))) ∧ w' = w := by
  obtain ⟨a, cp, rfl⟩ := own_sl h.row
  have c1 : w.cell? ⟨pp, 1, none⟩ = some (.slice a ms.length cp) := h.blk.cell 1
  clear h
  obtain ⟨bq, HQ⟩ : ∃ bq, Hid (decide (0 ≤ i ∧ i < (ms.length : Int)) = bq) := ⟨_, rfl⟩
  rw [HQ.out]
  go_enter Tryz.func77, Tryz.ntmps77
  by_cases h0 : 0 ≤ i
  · by_cases h1 : i < (ms.length : Int)
    · have HD : Hid (true = bq) := (decide_eq_true (p := 0 ≤ i ∧ i < (ms.length : Int)) ⟨h0, h1⟩).symm.trans HQ.out
      clear HQ
      go_wp2
      go_ret
      exact ⟨by rw [← HD.out]; rfl, rfl⟩
    · have HD : Hid (false = bq) := (decide_eq_false (p := 0 ≤ i ∧ i < (ms.length : Int)) (fun h => h1 h.2)).symm.trans HQ.out
      clear HQ
      go_wp2
      go_ret
      exact ⟨by rw [← HD.out]; rfl, rfl⟩
  · have HD : Hid (false = bq) := (decide_eq_false (p := 0 ≤ i ∧ i < (ms.length : Int)) (fun h => h0 h.1)).symm.trans HQ.out
    clear HQ
    go_wp2
    go_ret
    exact ⟨by rw [← HD.out]; rfl, rfl⟩
set_option maxHeartbeats 800000 in
theorem ptwice_room (own : Clr) (c pp ch : Nat) (pv : Value) (ms : List Ms) (i : Nat) (m : Ms) (w : World) (h : PoIn w own c pp ch pv ms) (hl : ms.length < 40) (hi : ms[i]? = some m) :
    Calls Tryz.prog 53 #[.pointer (some ⟨pp, 0, none⟩), I i] w fun e w' => e = .returned (I 0) ∧ PoOk w own c pp ch (ms ++ [m]) w' := by
  obtain ⟨hk, rfl⟩ := List.getElem?_eq_some_iff.1 hi
  obtain ⟨g, cp, rfl⟩ := row_some h.row (by omega)
  have HP : Hid (PoIn w own c pp ch (.slice (some ⟨g, 0, none⟩) ms.length cp) ms) := h
  have c1 : w.cell? ⟨pp, 1, none⟩ = some (.slice (some ⟨g, 0, none⟩) ms.length cp) := h.blk.cell 1
  obtain ⟨e0, e1, e2, e3, e4⟩ := msgs_of h.row i hk
  have hd : decide (0 ≤ (i : Int) ∧ (i : Int) < (ms.length : Int)) = true := decide_eq_true ⟨by omega, by omega⟩
  have hki : (i : Int) < ms.length := by omega
  clear h hi
  generalize ms[i] = m at *
  go_enter Tryz.func53, Tryz.ntmps53
  go_wp2_with fail
  refine (phas_any own c pp ch _ ms i w HP.out).mono ?_
  rintro e w1 ⟨rfl, hw1⟩
  subst hw1
  rw [hd]
  go_wp2_with fail
  refine (padd_room own c pp ch _ ms m w1 HP.out hl).mono ?_
  rintro e w2 ⟨rfl, h2⟩
  have HE : Hid (PoOk w1 own c pp ch (ms ++ [m]) w2) := h2
  clear h2
  go_wp2
  go_ret
  exact ⟨rfl, HE.out⟩

end Go.Proofs.YtfmcngncaffloaaGreatDoor

namespace Go.Proofs.YtfmcngncaffloaaGreatDoor
open Go.RowKit
set_option maxRecDepth 100000

def mgCells (m : Ms) : List Value := [I m.k, I m.f, I m.t, .string ⟨m.bs.toArray⟩]
theorem mg_one (ls : List Ms) : ∀ u ∈ flat mgCells ls, u.oneCell' = true := by
  induction ls with
  | nil => intro u hu; simp [flat] at hu
  | cons m ls ih =>
    intro u hu
    simp only [flat, List.mem_append] at hu
    rcases hu with hu | hu
    · simp only [mgCells, List.mem_cons, List.not_mem_nil, or_false] at hu
      rcases hu with rfl | rfl | rfl | rfl <;> rfl
    · exact ih u hu
theorem flat_snocG (l : List Ms) (x : Ms) : flat mgCells (l ++ [x]) = flat mgCells l ++ mgCells x := by
  rw [flat_append]
  show _ ++ (mgCells x ++ []) = _
  rw [List.append_nil]
theorem infoMg : (Tryz.prog.info? 59).map (fun i => (i.zero, i.size, i.bytes)) = some (some (.agg #[.int .i64 0, .int .i64 0, .int .i64 0, .string ⟨#[]⟩]), 4, 40) := by kernel_rfl
/-- The messages, in new memory. -/
def MsgsOk (w : World) (ms : List Ms) (e : Ending) (w' : World) : Prop := ∃ v, e = .returned v ∧ w'.ownsRow w.heap.size 59 4 v ms.length (flat mgCells ms) ∧ Below w.heap.size w w'

set_option maxHeartbeats 800000 in
theorem pmsgs_any (own : Clr) (c pp ch : Nat) (pv : Value) (ms : List Ms) (w : World) (h : PoIn w own c pp ch pv ms) :
    Calls Tryz.prog 52 #[.pointer (some ⟨pp, 0, none⟩)] w fun e w' => MsgsOk w ms e w' := by
  have HP : Hid (PoIn w own c pp ch pv ms) := h
  obtain ⟨a, cp, rfl⟩ := own_sl h.row
  have c1 : w.cell? ⟨pp, 1, none⟩ = some (.slice a ms.length cp) := h.blk.cell 1
  have hmost : ms.length ≤ 40 := h.most
  clear h
  go_enter Tryz.func52, Tryz.ntmps52
  go_wp2_with fail
  go_loopw [3, 11] (fun vl x wr => ∃ k : Nat, k ≤ ms.length ∧ x = I k ∧ Hid (wr.ownsRow w.heap.size 59 4 vl k (flat mgCells (ms.take k))) ∧ Hid (Below w.heap.size w wr)) (fun _ x _ => ms.length - (intOf x).toNat)
  case atStart => exact ⟨0, Nat.zero_le _, rfl, ⟨rfl, .inl ⟨rfl, rfl⟩⟩, Below.refl _ _⟩
  case round =>
    obtain ⟨k, hk, rfl, HO, HB⟩ := hrel
    by_cases hlt : k < ms.length
    · obtain ⟨g, cq, eq⟩ := row_some HP.out.row (by omega)
      cases eq
      have HPr : Hid (PoIn wr (newTo own w.heap.size 0) c pp ch (.slice (some ⟨g, 0, none⟩) ms.length cp) ms) := HP.out.below HB.out
      obtain ⟨e0, e1, e2, e3, e4⟩ := msgs_of HPr.out.row k hlt
      have HT : Hid (flat mgCells (ms.take (k + 1)) = flat mgCells (ms.take k) ++ mgCells ms[k]) := by show _ = _; rw [List.take_succ_eq_append_getElem hlt, flat_snocG]
      have hki : (k : Int) < ms.length := by omega
      generalize ms[k] = z at *
      obtain ⟨va, vc, rfl⟩ := own_sl HO.out
      obtain ⟨ii, HI⟩ : ∃ i, Hid (Tryz.prog.info? 59 = some i ∧ i.zero = some (.agg #[.int .i64 0, .int .i64 0, .int .i64 0, .string ⟨#[]⟩]) ∧ i.size = 4 ∧ i.bytes = 40) := by obtain ⟨i, h⟩ := info_parts infoMg; exact ⟨i, h⟩
      have hone : ∀ u ∈ mgCells z, u.oneCell' = true := by have := mg_one [z]; simpa [flat] using this
      have HBB : Hid (Below wr.heap.size wr ((wr.alloc (.cells (msC z) 162)).alloc (.cells (mgCells z).toArray 59))) := ((Below.refl _ _).alloc (Nat.le_refl _) _).alloc (by simp) _
      have HRW : Hid (((wr.alloc (.cells (msC z) 162)).alloc (.cells (mgCells z).toArray 59)).ownsRow w.heap.size 59 4 (.slice va k vc) k (flat mgCells (ms.take k))) := (HO.out.alloc _).alloc _
      have HLT : Hid (∀ j u, (mgCells z)[j]? = some u → ((wr.alloc (.cells (msC z) 162)).alloc (.cells (mgCells z).toArray 59)).cell? ((⟨wr.heap.size + 1, 0, none⟩ : Addr).add j) = some u) := by
        have := lit_any (wr.alloc (.cells (msC z) 162)) (mgCells z) 59
        rw [World.size_alloc] at this
        exact this
      have HSZ : Hid (w.heap.size ≤ ((wr.alloc (.cells (msC z) 162)).alloc (.cells (mgCells z).toArray 59)).heap.size) := by show _ ≤ _; have := HB.out.size; simp; omega
      have n1 : k + 1 ≤ maxLen := by unfold maxLen; omega
      have n2 : (k + 1) * 40 ≤ 140737488355328 := by omega
      go_wp2_with (first | (at_builtin; refine wpList_append_own_at _ rfl _ _ _ rfl w.heap.size 59 ii (.agg #[.int .i64 0, .int .i64 0, .int .i64 0, .string ⟨#[]⟩]) 4 40 Tryz.underlying55 HI.out.1 HI.out.2.1 HI.out.2.2.1 HI.out.2.2.2 rfl (by decide) (.slice va k vc) k (flat mgCells (ms.take k)) rfl HRW.out ⟨wr.heap.size + 1, 0, none⟩ 1 1 (mgCells z) rfl rfl HLT.out hone n1 n2 HSZ.out ?_; intro ov3 w3 hown3 hgrow3 hnil3 hat3))
      go_roundw
      case rel =>
        refine ⟨k + 1, hlt, by go_num, ?_, ?_⟩
        · show World.ownsRow _ _ _ _ _ _ _
          rw [HT.out]; exact hown3
        · exact (HB.out.trans (HBB.out.mono HB.out.size)).trans ((Tch.grown hgrow3).toBelow HSZ.out (fun b hb e => by have := (HRW.out.lt b e).1; omega))
      case measure => simp [intOf]; omega
    · have hkn : k = ms.length := by omega
      have HE : Hid (wr.ownsRow w.heap.size 59 4 u3 ms.length (flat mgCells ms)) := by
        have := HO.out
        rw [hkn, List.take_of_length_le (Nat.le_refl _)] at this
        exact this
      have hki : ¬ (k : Int) < ms.length := by omega
      clear HO hkn
      go_wp2
      go_ret
      exact ⟨_, rfl, HE.out, HB.out⟩

end Go.Proofs.YtfmcngncaffloaaGreatDoor

namespace Go.Proofs.YtfmcngncaffloaaGreatDoor
open Go.RowKit
set_option maxRecDepth 100000

/-- An append within a row that has room. -/
theorem run_append_row {P : Program} (w : World) (t ty elem : TypeId) (s g n cap : Nat) (a : Addr) (m c : Nat) (cur : Array Value) (tt : TypeId) (news : List Value) (hu : P.underlying t = some (.slice elem)) (hs : (P.info? elem).map (·.size) = some s) (hg : Blk w g cur tt) (hl : news.length = m * s) (hnews : ∀ j u, news[j]? = some u → w.cell? (a.add j) = some u) (h1 : ∀ u ∈ news, u.oneCell' = true) (hroom : n + m ≤ cap) (hfit : n * s + news.length ≤ cur.size) :
    (Builtin.append_ #[t, t] ty #[.slice (some ⟨g, 0, none⟩) n cap, .slice (some a) m c]).run P w = .ok (.slice (some ⟨g, 0, none⟩) (n + m) cap) (w.setRow g (cur.toList.take (n * s) ++ news ++ cur.toList.drop (n * s + news.length)).toArray) := by
  cases hq : P.info? elem with
  | none => simp [hq] at hs
  | some i =>
    have hi : i.size = s := by simpa [hq] using hs
    subst hi
    have hfc := run_firstCells_some (P := P) w i.size m a m c news hl hnews
    have hst := run_storeCells_at P g (n * i.size) tt news 0 cur w hg (by simpa using hfit) h1
    simp only [Nat.add_zero] at hst
    simp [Builtin.append_, run_underlying hu, sizeOf, typeInfo, hq, Builtin.lenOf, hroom, hfc, Addr.add_lit, hst]

theorem step_append_run {P : Program} {ops : Array Oper} {o : Oper} {a : Act} {w : World} {K : Act → World → Prop} {Q : Exit → Act → World → Prop} {E : Prop}
    (hg : o.guard = none) (d x : Operand) (t : TypeId) (hop : o.op = Op.call { callee := Callee.builtin Builtin.append, args := #[d, x], argTypes := #[t, t] })
    (v u : Value) (hd : a.eval d = v) (hx : a.eval x = u) {v' : Value} {w' : World} (hr : (Builtin.append_ #[t, t] o.type #[v, u]).run P w = .ok v' w') (hK : K (a.put o.dst v') w') :
    if Region.wanted o (yielded ops a.tmps) = true then Oper.wp P o a w K Q else E := by
  have hw : Region.wanted o (yielded ops a.tmps) = true := by simp [Region.wanted, hg]
  rw [if_pos hw]
  unfold Oper.wp
  simp [execOp, hop, resolve, invoke, builtin, hd, hx, hr, Result.andThen]
  exact hK
/-- 'clear' of some elements of a row. -/
theorem run_clear_row {P : Program} (w : World) (t ty elem : TypeId) (z : Value) (s g o n c : Nat) (cur : Array Value) (tt : TypeId) (hu : P.underlying t = some (.slice elem)) (hz : (P.info? elem).map (fun i => (i.zero, i.size)) = some (some z, s)) (hzs : z.cells.size = s) (h0 : 0 < s) (hg : Blk w g cur tt) (hn : 0 < n) (hfit : o + n * s ≤ cur.size) (h1 : ∀ u ∈ (Builtin.zeroCells z.cells n).toList, u.oneCell' = true) :
    (Builtin.clear_ #[t] ty #[.slice (some ⟨g, o, none⟩) n c]).run P w = .ok (.tuple #[]) (w.setRow g (cur.toList.take o ++ (Builtin.zeroCells z.cells n).toList ++ cur.toList.drop (o + (Builtin.zeroCells z.cells n).toList.length)).toArray) := by
  cases hq : P.info? elem with
  | none => simp [hq] at hz
  | some i =>
    simp only [hq, Option.map_some, Option.some.injEq, Prod.mk.injEq] at hz
    obtain ⟨hz1, rfl⟩ := hz
    obtain ⟨m, rfl⟩ : ∃ m, n = m + 1 := ⟨n - 1, by omega⟩
    have hlen : (Builtin.zeroCells z.cells (m + 1)).toList.length = (m + 1) * i.size := by simp [Builtin.zeroCells, hzs]
    have hst := run_storeCells_at P g o tt (Builtin.zeroCells z.cells (m + 1)).toList 0 cur w hg (by rw [hlen]; omega) h1
    simp only [Nat.add_zero] at hst
    simp [Builtin.clear_, run_underlying hu, zeroValue, typeInfo, hq, hz1, hst]
theorem flat_takeM {α : Type} (f : α → List Value) (n : Nat) (hf : ∀ x, (f x).length = n) (l : List α) (k : Nat) (hk : k ≤ l.length) : (flat f l).take (k * n) = flat f (l.take k) := by
  have h : flat f l = flat f (l.take k) ++ flat f (l.drop k) := by rw [← flat_append, List.take_append_drop]
  have hl : (flat f (l.take k)).length = k * n := by rw [flat_len f n hf, List.length_take, Nat.min_eq_left hk]
  rw [h, ← hl, List.take_left]
theorem flat_dropM {α : Type} (f : α → List Value) (n : Nat) (hf : ∀ x, (f x).length = n) (l : List α) (k : Nat) (hk : k ≤ l.length) : (flat f l).drop (k * n) = flat f (l.drop k) := by
  have h : flat f l = flat f (l.take k) ++ flat f (l.drop k) := by rw [← flat_append, List.take_append_drop]
  have hl : (flat f (l.take k)).length = k * n := by rw [flat_len f n hf, List.length_take, Nat.min_eq_left hk]
  rw [h, ← hl, List.drop_left]
theorem del_list (C : List Value) (ms : List Ms) (i : Nat) (hi : i < ms.length) (hC : C.take (ms.length * 5) = flat Ms.cells ms) : (C.take (i * 5) ++ flat Ms.cells (ms.drop (i + 1)) ++ C.drop (i * 5 + (flat Ms.cells (ms.drop (i + 1))).length)).take ((ms.eraseIdx i).length * 5) = flat Ms.cells (ms.eraseIdx i) := by
  have h1 : C.take (i * 5) = flat Ms.cells (ms.take i) := by
    rw [← flat_takeM Ms.cells 5 msCells_len ms i (by omega), ← hC, List.take_take, Nat.min_eq_left (by omega)]
  have h2 : flat Ms.cells (ms.take i) ++ flat Ms.cells (ms.drop (i + 1)) = flat Ms.cells (ms.eraseIdx i) := by rw [← flat_append, List.eraseIdx_eq_take_drop_succ]
  rw [h1, h2, ← flat_len Ms.cells 5 msCells_len, List.take_left]
theorem infoMs2 : (Tryz.prog.info? 162).map (fun i => (i.zero, i.size)) = some (some (.agg #[.int .i64 0, .int .i64 0, .int .i64 0, .string ⟨#[]⟩, .bool false]), 5) := by
  obtain ⟨i, h1, h2, h3, _⟩ := info_parts infoMs
  rw [h1, Option.map_some, h2, h3]
theorem infoMs3 : (Tryz.prog.info? 162).map (·.size) = some 5 := by
  obtain ⟨i, h1, h2, h3, _⟩ := info_parts infoMs
  rw [h1, Option.map_some, h3]
theorem zero_oneM (n : Nat) : ∀ u ∈ (Builtin.zeroCells (Value.cells (.agg #[.int .i64 0, .int .i64 0, .int .i64 0, .string ⟨#[]⟩, .bool false])) n).toList, u.oneCell' = true := by
  intro u hu
  simp only [Builtin.zeroCells, Array.toList_map, List.mem_map] at hu
  obtain ⟨i, _, rfl⟩ := hu
  have h : i % 5 < 5 := Nat.mod_lt _ (by decide)
  show (#[Value.int .i64 0, .int .i64 0, .int .i64 0, .string ⟨#[]⟩, .bool false][i % 5]!).oneCell' = true
  generalize i % 5 = r at h
  have : r = 0 ∨ r = 1 ∨ r = 2 ∨ r = 3 ∨ r = 4 := by omega
  rcases this with rfl | rfl | rfl | rfl | rfl <;> rfl
/-- What Delete's append makes of the row. -/
theorem del_append (g cp : Nat) (ms : List Ms) (i : Nat) (w : World) (h : w.ownsRow 0 162 5 (.slice (some ⟨g, 0, none⟩) ms.length cp) ms.length (flat Ms.cells ms)) (hi : i < ms.length) (ad : Addr) (c : Nat) (had : ms.length - (i + 1) = 0 ∨ ad = ⟨g, (i + 1) * 5, none⟩) :
    ∃ w' cur, (∀ ty, (Builtin.append_ #[117, 117] ty #[.slice (some ⟨g, 0, none⟩) i cp, .slice (some ad) (ms.length - (i + 1)) c]).run Tryz.prog w = .ok (.slice (some ⟨g, 0, none⟩) (i + (ms.length - (i + 1))) cp) w') ∧ Blk w' g cur 162 ∧ cur.size = cp * 5 ∧ cur.toList.take ((ms.eraseIdx i).length * 5) = flat Ms.cells (ms.eraseIdx i) ∧ Tch (fun k => k = g) w w' := by
  rcases h.2 with ⟨e, _⟩ | ⟨g', cap, cur, e, _, hg, h1, h2, h3, h4⟩
  · cases e
  · cases e
    have hln : (flat Ms.cells (ms.drop (i + 1))).length = (ms.length - (i + 1)) * 5 := by rw [flat_len Ms.cells 5 msCells_len, List.length_drop]
    refine ⟨_, _, fun ty => run_append_row (P := Tryz.prog) w _ ty _ 5 g i cp ad (ms.length - (i + 1)) c cur _ (flat Ms.cells (ms.drop (i + 1))) Tryz.underlying117 infoMs3 hg hln (fun j u hj => ?_) (ms_one _) (by omega) (by rw [hln, h3]; omega), setRow_heap w g cur _ _ _ hg, ?_, ?_, ⟨rfl, rfl, rfl, by simp, fun k _ hk => setRow_other w g k _ hk⟩⟩
    · rcases had with h0 | rfl
      · have hj2 := (List.getElem?_eq_some_iff.1 hj).1
        omega
      · have hjl := (List.getElem?_eq_some_iff.1 hj).1
        rw [Addr.add_lit, cell_of_row w g _ cur _ (0, 0) hg]
        have e1 : (flat Ms.cells ms)[(i + 1) * 5 + j]? = some u := by
          rw [← List.getElem?_drop, flat_dropM Ms.cells 5 msCells_len ms (i + 1) (by omega)]
          exact hj
        rw [← h4, List.getElem?_take_of_lt (by omega)] at e1
        simpa using e1
    · simp only [List.size_toArray, List.length_append, List.length_take, List.length_drop, Array.length_toList, hln, h3]
      omega
    · exact del_list cur.toList ms i hi h4

theorem wpList_clear_run {P : Program} (w : World) {ops : Array Oper} {rest : List Oper} {o : Oper} {a : Act} {Q : Exit → Act → World → Prop} (hgd : o.guard = none) (d : Operand) (t : TypeId)
    (ho : o.op = .call { callee := .builtin .clear, args := #[d], argTypes := #[t] }) (v : Value) (hd : a.eval d = v) {v' : Value} {w' : World}
    (hr : (Builtin.clear_ #[t] o.type #[v]).run P w = .ok v' w') (h : wpList P ops Q rest (a.put o.dst v') w') : wpList P ops Q (o :: rest) a w := by
  refine wpList_plain hgd fun K hK => ?_
  unfold Oper.wp execOp
  simp only [ho, resolve, invoke, builtin, Sem.run_bind, Sem.run_pure, Result.andThen_ok, List.map_toArray, List.map_cons, List.map_nil, hd, hr]
  exact hK _ _ h
/-- What Delete's clear makes of the row. -/
theorem del_clear (g cp N n : Nat) (xs : List Value) (cur : Array Value) (w : World) (hB : Blk w g cur 162) (hs : cur.size = cp * 5) (hk : cur.toList.take (N * 5) = xs) (hl : xs.length = N * 5) (hn : N + 1 = n) (hc : n ≤ cp) (hm : cp ≤ maxLen) (c : Nat) :
    ∃ w', (∀ ty, (Builtin.clear_ #[117] ty #[.slice (some ⟨g, N * 5, none⟩) (n - N) c]).run Tryz.prog w = .ok (.tuple #[]) w') ∧ w'.ownsRow 0 162 5 (.slice (some ⟨g, 0, none⟩) N cp) N xs ∧ Tch (fun k => k = g) w w' := by
  have hlen : (Builtin.zeroCells (Value.cells (.agg #[.int .i64 0, .int .i64 0, .int .i64 0, .string ⟨#[]⟩, .bool false])) (n - N)).toList.length = 5 := by
    have : n - N = 1 := by omega
    rw [this]
    simp [Builtin.zeroCells, Value.cells]
  refine ⟨_, fun ty => run_clear_row (P := Tryz.prog) w _ ty _ (.agg #[.int .i64 0, .int .i64 0, .int .i64 0, .string ⟨#[]⟩, .bool false]) 5 g (N * 5) (n - N) c cur _ Tryz.underlying117 infoMs2 rfl (by decide) hB (by omega) (by rw [hs]; omega) (zero_oneM _), ⟨hl, .inr ⟨g, cp, _, rfl, Nat.zero_le _, setRow_heap w g cur _ _ _ hB, by omega, hm, ?_, ?_⟩⟩, ⟨rfl, rfl, rfl, by simp, fun k _ hk => setRow_other w g k _ hk⟩⟩
  · simp only [List.size_toArray, List.length_append, List.length_take, List.length_drop, Array.length_toList, hlen, hs]
    omega
  · have h1 : (cur.toList.take (N * 5)).length = N * 5 := by rw [List.length_take, Array.length_toList, hs]; omega
    rw [List.append_assoc]
    show (cur.toList.take (N * 5) ++ _).take (N * 5) = xs
    rw [List.take_append_of_le_length (by omega), List.take_of_length_le (by omega)]
    exact hk
set_option maxHeartbeats 1600000 in
theorem pdel_any (g cp : Nat) (ms : List Ms) (i : Nat) (w : World) (h : w.ownsRow 0 162 5 (.slice (some ⟨g, 0, none⟩) ms.length cp) ms.length (flat Ms.cells ms)) (hi : i < ms.length) (hl : ms.length ≤ 40) :
    Calls Tryz.prog 78 #[.slice (some ⟨g, 0, none⟩) ms.length cp, I i, I ((i : Int) + 1)] w fun e w' => e = .returned (.slice (some ⟨g, 0, none⟩) (ms.eraseIdx i).length cp) ∧ w'.ownsRow 0 162 5 (.slice (some ⟨g, 0, none⟩) (ms.eraseIdx i).length cp) (ms.eraseIdx i).length (flat Ms.cells (ms.eraseIdx i)) ∧ Tch (fun k => k = g) w w' := by
  have HR : Hid (w.ownsRow 0 162 5 (.slice (some ⟨g, 0, none⟩) ms.length cp) ms.length (flat Ms.cells ms)) := h
  have hcp : ms.length ≤ cp ∧ cp ≤ maxLen := by
    rcases h.2 with ⟨e, _⟩ | ⟨g', cap, cur, e, _, _, h1, h2, _⟩
    · cases e
    · cases e; exact ⟨h1, h2⟩
  clear h
  obtain ⟨hcp1, hcp2⟩ := hcp
  have hcp3 : cp ≤ 9223372036854775807 := by unfold maxLen at hcp2; omega
  go_enter Tryz.func78, Tryz.ntmps78
  have hicp : i ≤ cp := by omega
  have hj1 : i + 1 ≤ ms.length := hi
  have hj2 : (i : Int) + 1 ≤ (ms.length : Int) := by omega
  have hj3 : (i : Int) ≤ (cp : Int) := by omega
  have hj4 : ((i : Int) + 1).toNat = i + 1 := by omega
  have hj5 : (0 : Int) ≤ (i : Int) + 1 := by omega
  have hj6 : ¬ (i : Int) + 1 < 0 := by omega
  have HEL : Hid ((ms.eraseIdx i).length = i + (ms.length - (i + 1))) := by show _ = _; rw [List.length_eraseIdx_of_lt hi]; omega
  have HIC : Hid (i ≤ cp) := hicp
  by_cases hcq : cp = i + 1
  · subst hcq
    have HMZ : Hid (ms.length - (i + 1) = 0) := by show _ = _; omega
    obtain ⟨w5, cur5, hAP, hB5, hs5, ht5, hT5⟩ := del_append g (i + 1) ms i w.drew HR.out.drew hi ⟨g, 0, none⟩ 0 (Or.inl HMZ.out)
    rw [HMZ.out] at hAP HEL
    have HAP : Hid (∀ ty, (Builtin.append_ #[117, 117] ty #[.slice (some ⟨g, 0, none⟩) i (i + 1), .slice (some ⟨g, 0, none⟩) 0 0]).run Tryz.prog w.drew = .ok (.slice (some ⟨g, 0, none⟩) i (i + 1)) w5) := hAP
    have HEL2 : Hid ((ms.eraseIdx i).length = i) := HEL.out
    have HB5 : Hid (Blk w5 g cur5 162) := hB5
    have HS5 : Hid (cur5.size = (i + 1) * 5) := hs5
    have HK5 : Hid (cur5.toList.take ((ms.eraseIdx i).length * 5) = flat Ms.cells (ms.eraseIdx i)) := ht5
    have HT5 : Hid (Tch (fun k => k = g) w w5) := (Tch.refl _ _).drew.then hT5
    clear hB5 hs5 ht5 hT5 hAP HEL
    have hj7 : (i : Int) ≤ (i : Int) + 1 := by omega
    go_wp2_with fail
    go_region_law (first | (refine step_append_run (by rfl) _ _ _ (by rfl) (.slice (some ⟨g, 0, none⟩) i (i + 1)) (.slice (some ⟨g, 0, none⟩) 0 0) (by rfl) (by rfl) (HAP.out _) ?_))
    clear HAP
    have HN4 : Hid (i + 1 = ms.length) := by show _ = _; omega
    have hN5 : (i : Int) ≤ (ms.length : Int) := by omega
    have hN6 : i ≤ ms.length := by omega
    have hN7 : ms.length ≤ i + 1 := by omega
    rw [HEL2.out] at HK5
    obtain ⟨w6, HCL, hO6, hT6⟩ := del_clear g (i + 1) i ms.length (flat Ms.cells (ms.eraseIdx i)) cur5 w5 HB5.out HS5.out HK5.out (by rw [flat_len Ms.cells 5 msCells_len, HEL2.out]) HN4.out hcp1 hcp2 1
    have HCL : Hid (∀ ty, (Builtin.clear_ #[117] ty #[.slice (some ⟨g, i * 5, none⟩) (ms.length - i) 1]).run Tryz.prog w5 = .ok (.tuple #[]) w6) := HCL
    have HO6 : Hid (w6.ownsRow 0 162 5 (.slice (some ⟨g, 0, none⟩) i (i + 1)) i (flat Ms.cells (ms.eraseIdx i))) := hO6
    have HT6 : Hid (Tch (fun k => k = g) w w6) := HT5.out.then hT6
    clear hO6 hT6 HB5 HS5 HK5 HT5 HR HN4
    go_wp2_with (first | (refine wpList_clear_run _ rfl _ _ rfl (.slice (some ⟨g, i * 5, none⟩) (ms.length - i) 1) rfl (HCL.out _) ?_))
    go_ret
    refine ⟨?_, ?_, HT6.out⟩
    · rw [HEL2.out]; rfl
    · rw [HEL2.out]; exact HO6.out
  · obtain ⟨w5, cur5, HAP, hB5, hs5, ht5, hT5⟩ := del_append g cp ms i w.drew HR.out.drew hi ⟨g, (i + 1) * 5, none⟩ (cp - (i + 1)) (Or.inr rfl)
    have HAP : Hid (∀ ty, (Builtin.append_ #[117, 117] ty #[.slice (some ⟨g, 0, none⟩) i cp, .slice (some ⟨g, (i + 1) * 5, none⟩) (ms.length - (i + 1)) (cp - (i + 1))]).run Tryz.prog w.drew = .ok (.slice (some ⟨g, 0, none⟩) (i + (ms.length - (i + 1))) cp) w5) := HAP
    have HB5 : Hid (Blk w5 g cur5 162) := hB5
    have HS5 : Hid (cur5.size = cp * 5) := hs5
    have HK5 : Hid (cur5.toList.take ((ms.eraseIdx i).length * 5) = flat Ms.cells (ms.eraseIdx i)) := ht5
    have HT5 : Hid (Tch (fun k => k = g) w w5) := (Tch.refl _ _).drew.then hT5
    clear hB5 hs5 ht5 hT5
    go_wp2_with fail
    go_region_law (first | (refine step_append_run (by rfl) _ _ _ (by rfl) (.slice (some ⟨g, 0, none⟩) i cp) (.slice (some ⟨g, (i + 1) * 5, none⟩) (ms.length - (i + 1)) (cp - (i + 1))) (by rfl) (by rfl) (HAP.out _) ?_))
    clear HAP
    obtain ⟨N, HN⟩ : ∃ N, Hid (i + (ms.length - (i + 1)) = N) := ⟨_, rfl⟩
    rw [HN.out] at HEL ⊢
    have hN1 : N ≤ ms.length := by have := HN.out; omega
    have hN2 : N ≤ cp := by omega
    have hN3 : ¬ cp = N := by have := HN.out; omega
    have HN4 : Hid (N + 1 = ms.length) := by have := HN.out; show _ = _; omega
    have hN5 : (N : Int) ≤ (ms.length : Int) := by omega
    rw [HEL.out] at HK5
    obtain ⟨w6, HCL, hO6, hT6⟩ := del_clear g cp N ms.length (flat Ms.cells (ms.eraseIdx i)) cur5 w5 HB5.out HS5.out HK5.out (by rw [flat_len Ms.cells 5 msCells_len, HEL.out]) HN4.out hcp1 hcp2 (cp - N)
    have HCL : Hid (∀ ty, (Builtin.clear_ #[117] ty #[.slice (some ⟨g, N * 5, none⟩) (ms.length - N) (cp - N)]).run Tryz.prog w5 = .ok (.tuple #[]) w6) := HCL
    have HO6 : Hid (w6.ownsRow 0 162 5 (.slice (some ⟨g, 0, none⟩) N cp) N (flat Ms.cells (ms.eraseIdx i))) := hO6
    have HT6 : Hid (Tch (fun k => k = g) w w6) := HT5.out.then hT6
    clear hO6 hT6 HB5 HS5 HK5 HT5 HN HR HN4
    go_wp2_with (first | (refine wpList_clear_run _ rfl _ _ rfl (.slice (some ⟨g, N * 5, none⟩) (ms.length - N) (cp - N)) rfl (HCL.out _) ?_))
    go_ret
    refine ⟨?_, ?_, HT6.out⟩
    · rw [HEL.out]; rfl
    · rw [HEL.out]; exact HO6.out

end Go.Proofs.YtfmcngncaffloaaGreatDoor

namespace Go.Proofs.YtfmcngncaffloaaGreatDoor
open Go.RowKit
set_option maxRecDepth 100000

theorem tch_setP (w : World) (p j : Nat) (u : Value) : Tch (fun k => k = p) w (w.setCell ⟨p, j, none⟩ u) := (Tch.refl _ _).setCell ⟨p, j, none⟩ u (Or.inl rfl)
set_option maxHeartbeats 800000 in
theorem ptake_no (own : Clr) (c pp ch : Nat) (pv : Value) (ms : List Ms) (i : Int) (w : World) (h : PoIn w own c pp ch pv ms) (hi : ¬ (0 ≤ i ∧ i < ms.length)) :
    Calls Tryz.prog 50 #[.pointer (some ⟨pp, 0, none⟩), I i] w fun e w' => e = .returned (.tuple #[.agg #[.int .i64 0, .int .i64 0, .int .i64 0, .string ⟨#[]⟩], I 14]) ∧ Below w.heap.size w w' := by
  obtain ⟨wA, hwA⟩ : ∃ wA, wA = w.alloc (.cells #[.int .i64 0, .int .i64 0, .int .i64 0, .string ⟨#[]⟩] 59) := ⟨_, rfl⟩
  have HBA : Hid (Below w.heap.size w wA) := by rw [hwA]; exact (Below.refl _ _).alloc (Nat.le_refl _) _
  have HX : Hid (Blk wA w.heap.size #[.int .i64 0, .int .i64 0, .int .i64 0, .string ⟨#[]⟩] 59) := by rw [hwA]; exact heap_alloc_new w _
  have HP : Hid (PoIn wA own c pp ch pv ms) := h.keep (fun b hb _ => HBA.out.block b hb) (Ext.refl _ _)
  have hd : decide (0 ≤ i ∧ i < (ms.length : Int)) = false := decide_eq_false hi
  clear h hi
  go_enter Tryz.func50, Tryz.ntmps50
  go_wp2_with fail
  change Calls _ _ _ (w.alloc (.cells #[.int .i64 0, .int .i64 0, .int .i64 0, .string ⟨#[]⟩] 59)) _
  rw [← hwA]
  clear hwA
  refine (phas_any own c pp ch _ ms i wA HP.out).mono ?_
  rintro e w1 ⟨rfl, hw1⟩
  subst hw1
  rw [hd]
  have x0 : w1.cell? ⟨w.heap.size, 0, none⟩ = some (.int .i64 0) := HX.out.cell 0
  have x1 : w1.cell? ⟨w.heap.size, 1, none⟩ = some (.int .i64 0) := HX.out.cell 1
  have x2 : w1.cell? ⟨w.heap.size, 2, none⟩ = some (.int .i64 0) := HX.out.cell 2
  have x3 : w1.cell? ⟨w.heap.size, 3, none⟩ = some (.string ⟨#[]⟩) := HX.out.cell 3
  have z0 := HX.out.frozen 0
  have z1 := HX.out.frozen 1
  have z2 := HX.out.frozen 2
  have z3 := HX.out.frozen 3
  go_wp2_with fail
  obtain ⟨w6, hw6⟩ : ∃ w6, w6 = (((w1.setCell ⟨w.heap.size, 0, none⟩ (.int .i64 0)).setCell ⟨w.heap.size, 1, none⟩ (.int .i64 0)).setCell ⟨w.heap.size, 2, none⟩ (.int .i64 0)).setCell ⟨w.heap.size, 3, none⟩ (.string ⟨#[]⟩) := ⟨_, rfl⟩
  change bodyPost _ _ _ Exit.ret _ ((((w1.setCell ⟨w.heap.size, 0, none⟩ (.int .i64 0)).setCell ⟨w.heap.size, 1, none⟩ (.int .i64 0)).setCell ⟨w.heap.size, 2, none⟩ (.int .i64 0)).setCell ⟨w.heap.size, 3, none⟩ (.string ⟨#[]⟩))
  rw [← hw6]
  have HX6 : Hid (Blk w6 w.heap.size #[.int .i64 0, .int .i64 0, .int .i64 0, .string ⟨#[]⟩] 59) := by rw [hw6]; exact (((HX.out.set 0 _).set 1 _).set 2 _).set 3 _
  have HB6 : Hid (Below w.heap.size w w6) := by rw [hw6]; exact (((HBA.out.setCell (Nat.le_refl _) _).setCell (Nat.le_refl _) _).setCell (Nat.le_refl _) _).setCell (Nat.le_refl _) _
  clear hw6 x0 x1 x2 x3 z0 z1 z2 z3
  have f0 : w6.cell? ⟨w.heap.size, 0, none⟩ = some (.int .i64 0) := HX6.out.cell 0
  have f1 : w6.cell? ⟨w.heap.size, 1, none⟩ = some (.int .i64 0) := HX6.out.cell 1
  have f2 : w6.cell? ⟨w.heap.size, 2, none⟩ = some (.int .i64 0) := HX6.out.cell 2
  have f3 : w6.cell? ⟨w.heap.size, 3, none⟩ = some (.string ⟨#[]⟩) := HX6.out.cell 3
  exact bodyPost_ret (v := .tuple #[.agg #[.int .i64 0, .int .i64 0, .int .i64 0, .string ⟨#[]⟩], I 14]) (by simp [results, Tryz.results50, go_sem, f0, f1, f2, f3]) rfl ⟨rfl, HB6.out⟩
set_option maxHeartbeats 1600000 in
theorem ptake_yes (own : Clr) (c pp ch : Nat) (pv : Value) (ms : List Ms) (i : Nat) (m : Ms) (w : World) (h : PoIn w own c pp ch pv ms) (hi : ms[i]? = some m) :
    Calls Tryz.prog 50 #[.pointer (some ⟨pp, 0, none⟩), I i] w fun e w' => e = .returned (.tuple #[.agg #[I m.k, I m.f, I m.t, .string ⟨m.bs.toArray⟩], I 0]) ∧ PoOk w own c pp ch (ms.eraseIdx i) w' := by
  obtain ⟨hk, rfl⟩ := List.getElem?_eq_some_iff.1 hi
  obtain ⟨g, cp, rfl⟩ := row_some h.row (by omega)
  have HPW : Hid (PoIn w own c pp ch (.slice (some ⟨g, 0, none⟩) ms.length cp) ms) := h
  obtain ⟨wA, hwA⟩ : ∃ wA, wA = w.alloc (.cells #[.int .i64 0, .int .i64 0, .int .i64 0, .string ⟨#[]⟩] 59) := ⟨_, rfl⟩
  have HBA : Hid (Below w.heap.size w wA) := by rw [hwA]; exact (Below.refl _ _).alloc (Nat.le_refl _) _
  have HX : Hid (Blk wA w.heap.size #[.int .i64 0, .int .i64 0, .int .i64 0, .string ⟨#[]⟩] 59) := by rw [hwA]; exact heap_alloc_new w _
  have HP : Hid (PoIn wA own c pp ch (.slice (some ⟨g, 0, none⟩) ms.length cp) ms) := h.keep (fun b hb _ => HBA.out.block b hb) (Ext.refl _ _)
  have c1 : wA.cell? ⟨pp, 1, none⟩ = some (.slice (some ⟨g, 0, none⟩) ms.length cp) := HP.out.blk.cell 1
  obtain ⟨e0, e1, e2, e3, e4⟩ := msgs_of HP.out.row i hk
  have hd : decide (0 ≤ (i : Int) ∧ (i : Int) < (ms.length : Int)) = true := decide_eq_true ⟨by omega, by omega⟩
  have hki : (i : Int) < ms.length := by omega
  have HML : Hid (ms.length ≤ 40) := h.most
  clear h hi
  generalize ms[i] = m at *
  refine calls_of_wpN Tryz.func50 rfl ?_
  simp only [Tryz.ntmps50, List.size_toArray, List.length_cons, List.length_nil, Nat.reduceAdd, Nat.reduceSub, Array.replicate_succ, Array.replicate_zero, List.push_toArray, List.append_toArray, List.nil_append, List.cons_append]
  refine wpN_seq (wpN_of ?_)
  go_wp2_with fail
  change wpN _ _ _ _ (w.alloc (.cells #[.int .i64 0, .int .i64 0, .int .i64 0, .string ⟨#[]⟩] 59))
  rw [← hwA]
  clear hwA
  refine wpN_seq (wpN_of ?_)
  go_wp2_with fail
  refine (phas_any own c pp ch _ ms i wA HP.out).mono ?_
  rintro e w1 ⟨rfl, hw1⟩
  subst hw1
  rw [hd]
  go_wp2_with fail
  refine wpN_seq (wpN_of ?_)
  go_wp2_with fail
  obtain ⟨w2, hw2⟩ : ∃ w2, w2 = w1.alloc (.cells (msC m) 162) := ⟨_, rfl⟩
  change wpN _ _ _ _ (w1.alloc (.cells (msC m) 162))
  rw [← hw2]
  have HB2 : Hid (Below w1.heap.size w1 w2) := by rw [hw2]; exact (Below.refl _ _).alloc (Nat.le_refl _) _
  have HM2 : Hid (Blk w2 w1.heap.size (msC m) 162) := by rw [hw2]; exact heap_alloc_new w1 _
  have HP2 : Hid (PoIn w2 own c pp ch (.slice (some ⟨g, 0, none⟩) ms.length cp) ms) := HP.out.keep (fun b hb _ => HB2.out.block b hb) (Ext.refl _ _)
  have HX2 : Hid (Blk w2 w.heap.size #[.int .i64 0, .int .i64 0, .int .i64 0, .string ⟨#[]⟩] 59) := HX.out.kept HB2.out HX.out.lt
  have hs1 : w.heap.size < w1.heap.size := HX.out.lt
  clear hw2 c1 e0 e1 e2 e3 e4 HP HX
  have c1 : w2.cell? ⟨pp, 1, none⟩ = some (.slice (some ⟨g, 0, none⟩) ms.length cp) := HP2.out.blk.cell 1
  have hwr : IntKind.i64.wrap ((i : Int) + 1) = (i : Int) + 1 := by have := HML.out; rw [IntKind.wrap_i64]; omega
  refine wpN_seq (wpN_of ?_)
  go_wp2_with fail
  refine (pdel_any g cp ms i w2 HP2.out.row hk HML.out).mono ?_
  rintro e w3 ⟨rfl, hO3, hT3⟩
  have hgp : g ≠ pp := by
    rintro rfl
    rcases HP2.out.row.2 with ⟨e, _⟩ | ⟨g', cap, cur, e, _, hg, _⟩
    · cases e
    · cases e
      have h9 := hg.symm.trans HP2.out.blk
      simp at h9
  have hgc : g ≠ ch := by
    rintro rfl
    obtain ⟨_, _, _, hc, _⟩ := HP2.out.chn
    rcases HP2.out.row.2 with ⟨e, _⟩ | ⟨g', cap, cur, e, _, hg, _⟩
    · cases e
    · cases e
      cases hg.symm.trans hc
  have hpc : pp ≠ ch := by
    rintro rfl
    obtain ⟨_, _, _, hc, _⟩ := HP2.out.chn
    cases HP2.out.blk.symm.trans hc
  have hgw : g < w.heap.size := (HPW.out.row.lt g rfl).2
  have hcw : ch < w.heap.size := HPW.out.chlt
  have hpw : pp < w.heap.size := HPW.out.blk.lt
  have HO3 : Hid (w3.ownsRow 0 162 5 (.slice (some ⟨g, 0, none⟩) (ms.eraseIdx i).length cp) (ms.eraseIdx i).length (flat Ms.cells (ms.eraseIdx i))) := hO3
  have HT3 : Hid (Tch (fun k => k = g) w2 w3) := hT3
  have HK3 : Hid (Blk w3 pp #[.chan (some ch), .slice (some ⟨g, 0, none⟩) ms.length cp] 119) := hT3.blk HP2.out.blk (by omega)
  have HM3 : Hid (Blk w3 w1.heap.size (msC m) 162) := hT3.blk HM2.out (by omega)
  have HX3 : Hid (Blk w3 w.heap.size #[.int .i64 0, .int .i64 0, .int .i64 0, .string ⟨#[]⟩] 59) := hT3.blk HX2.out (by omega)
  obtain ⟨buf, sn, rn, hch0, hbuf⟩ := HP2.out.chn
  have hch3 : w3.heap[ch]? = some (.chan 40 buf false sn rn false) := (hT3.block ch HP2.out.chlt (by omega)).trans hch0
  clear hO3 hT3 c1 hch0 HM2 HX2
  have c1 : w3.cell? ⟨pp, 1, none⟩ = some (.slice (some ⟨g, 0, none⟩) ms.length cp) := HK3.out.cell 1
  have z1 : w3.frozen? ⟨pp, 1, none⟩ = false := HK3.out.frozen 1
  go_wp2_with fail
  obtain ⟨w4, hw4⟩ : ∃ w4, w4 = w3.setCell ⟨pp, 1, none⟩ (.slice (some ⟨g, 0, none⟩) (ms.eraseIdx i).length cp) := ⟨_, rfl⟩
  rw [← hw4]
  have hT4 : Tch (fun k => k = pp) w3 w4 := by rw [hw4]; exact tch_setP w3 pp 1 _
  have HK4 : Hid (Blk w4 pp #[.chan (some ch), .slice (some ⟨g, 0, none⟩) (ms.eraseIdx i).length cp] 119) := by rw [hw4]; exact HK3.out.set 1 _
  have HM4 : Hid (Blk w4 w1.heap.size (msC m) 162) := hT4.blk HM3.out (by omega)
  have HX4 : Hid (Blk w4 w.heap.size #[.int .i64 0, .int .i64 0, .int .i64 0, .string ⟨#[]⟩] 59) := hT4.blk HX3.out (by omega)
  have hch4 : w4.heap[ch]? = some (.chan 40 buf false sn rn false) := (hT4.block ch (Array.getElem?_eq_some_iff.1 hch3).1 (by omega)).trans hch3
  have HO4 : Hid (w4.ownsRow 0 162 5 (.slice (some ⟨g, 0, none⟩) (ms.eraseIdx i).length cp) (ms.eraseIdx i).length (flat Ms.cells (ms.eraseIdx i))) := own_kept HO3.out (fun k e => hT4.block k (HO3.out.lt k e).2 (by cases e; exact hgp))
  have HT4 : Hid (Tch (fun k => k = g ∨ k = pp) w w4) := ((Tch.below HBA.out).then (Tch.below (F := fun k => k = g ∨ k = pp) HB2.out)).trans (HT3.out.trans hT4 (fun _ _ h => Or.inl h) (fun _ _ h => Or.inr h)) (fun _ _ h => h) (fun _ _ h => h)
  clear hw4 hT4 HK3 HM3 HX3 HO3 HT3 hch3 c1 z1
  have c0 : w4.cell? ⟨pp, 0, none⟩ = some (.chan (some ch)) := HK4.out.cell 0
  refine wpN_seq (wpN_region ?_)
  change wpR _ _ _ [0, 1, 2, 3, 4] _ _
  refine wpR_value (i := 0) rfl rfl (v := .pointer (some ⟨pp, 0, none⟩)) (w' := w4) (by simp [go_sem, execOp, Act.eval]) ?_
  simp only [Act.put, List.getElem_toArray, List.getElem_cons_zero, List.setIfInBounds_toArray, List.set_cons_succ, List.set_cons_zero]
  refine wpR_value (i := 1) rfl rfl (v := .pointer (some ⟨pp, 0, none⟩)) (w' := w4) (by simp [go_sem, execOp, Act.eval]) ?_
  simp only [Act.put, List.getElem_toArray, List.getElem_cons_zero, List.getElem_cons_succ, List.setIfInBounds_toArray, List.set_cons_succ, List.set_cons_zero]
  refine wpR_value (i := 2) rfl rfl (v := .pointer (some ⟨pp, 0, none⟩)) (w' := w4) (by simp [go_sem, execOp, Act.eval]) ?_
  simp only [Act.put, List.getElem_toArray, List.getElem_cons_zero, List.getElem_cons_succ, List.setIfInBounds_toArray, List.set_cons_succ, List.set_cons_zero]
  refine wpR_value (i := 3) rfl rfl (v := .chan (some ch)) (w' := w4) (by simp [go_sem, execOp, Act.eval, c0]) ?_
  simp only [Act.put, List.getElem_toArray, List.getElem_cons_zero, List.getElem_cons_succ, List.setIfInBounds_toArray, List.set_cons_succ, List.set_cons_zero]
  refine wpR_comm (i := 4) (cases := #[Go.Conc.rcase ch (.agg #[])]) (blocking := true) (shape := .recv false) (w1 := w4) rfl rfl (by simp [go_sem, execOp, Go.Conc.rcase, Act.eval]) (fun fr cs es hs => Go.Conc.step_lone_recv_buf false hs hch4 (by omega)) ?_
  simp only [Act.put, List.getElem_toArray, List.getElem_cons_zero, List.getElem_cons_succ, List.setIfInBounds_toArray, List.set_cons_succ, List.set_cons_zero]
  refine wpR_end (wpN_of ?_)
  obtain ⟨w5, hw5⟩ : ∃ w5, w5 = w4.setChan ch 40 (buf.extract 1 buf.size) false sn (rn + 1) false := ⟨_, rfl⟩
  change Code.wp _ _ _ _ (w4.setChan ch 40 (buf.extract 1 buf.size) false sn (rn + 1) false)
  rw [← hw5]
  have hT5 : Tch (fun k => k = ch) w4 w5 := by rw [hw5]; exact (Tch.refl _ _).setChan _ _ _ _ _ _ _ (Or.inl rfl)
  have HLE : Hid ((ms.eraseIdx i).length + 1 = ms.length) := by show _ = _; rw [List.length_eraseIdx_of_lt hk]; omega
  have HC5 : Hid (∃ buf s r, w5.heap[ch]? = some (.chan 40 buf false s r false) ∧ buf.size = (ms.eraseIdx i).length) := ⟨_, _, _, by rw [hw5]; exact Go.Conc.heap_setChan _ _ _ _ _ _ _ _ (Array.getElem?_eq_some_iff.1 hch4).1, by have := HLE.out; simp; omega⟩
  have HK5 : Hid (Blk w5 pp #[.chan (some ch), .slice (some ⟨g, 0, none⟩) (ms.eraseIdx i).length cp] 119) := hT5.blk HK4.out (by omega)
  have HM5 : Hid (Blk w5 w1.heap.size (msC m) 162) := hT5.blk HM4.out (by omega)
  have HX5 : Hid (Blk w5 w.heap.size #[.int .i64 0, .int .i64 0, .int .i64 0, .string ⟨#[]⟩] 59) := hT5.blk HX4.out (by omega)
  have HO5 : Hid (w5.ownsRow 0 162 5 (.slice (some ⟨g, 0, none⟩) (ms.eraseIdx i).length cp) (ms.eraseIdx i).length (flat Ms.cells (ms.eraseIdx i))) := own_kept HO4.out (fun k e => hT5.block k (HO4.out.lt k e).2 (by cases e; exact hgc))
  have HT5 : Hid (TchC own c w w5) := HT4.out.trans hT5 (fun k _ h => by
    rcases h with h | h
    · rw [h]; exact HPW.out.own3 g rfl
    · rw [h]; exact HPW.out.own1) (fun k _ h => by rw [h]; exact HPW.out.own2)
  clear hw5 hT5 HK4 HM4 HX4 HO4 HT4 hch4 c0 hbuf
  generalize Conc.got false (buf.getD 0 undef) true = gv at *
  have m0 : w5.cell? ⟨w1.heap.size, 0, none⟩ = some (I m.k) := HM5.out.cell 0
  have m1 : w5.cell? ⟨w1.heap.size, 1, none⟩ = some (I m.f) := HM5.out.cell 1
  have m2 : w5.cell? ⟨w1.heap.size, 2, none⟩ = some (I m.t) := HM5.out.cell 2
  have m3 : w5.cell? ⟨w1.heap.size, 3, none⟩ = some (.string ⟨m.bs.toArray⟩) := HM5.out.cell 3
  have x0 : w5.cell? ⟨w.heap.size, 0, none⟩ = some (.int .i64 0) := HX5.out.cell 0
  have x1 : w5.cell? ⟨w.heap.size, 1, none⟩ = some (.int .i64 0) := HX5.out.cell 1
  have x2 : w5.cell? ⟨w.heap.size, 2, none⟩ = some (.int .i64 0) := HX5.out.cell 2
  have x3 : w5.cell? ⟨w.heap.size, 3, none⟩ = some (.string ⟨#[]⟩) := HX5.out.cell 3
  have z0 := HX5.out.frozen 0
  have z1 := HX5.out.frozen 1
  have z2 := HX5.out.frozen 2
  have z3 := HX5.out.frozen 3
  go_wp2_with fail
  obtain ⟨w6, hw6⟩ : ∃ w6, w6 = (((w5.setCell ⟨w.heap.size, 0, none⟩ (I m.k)).setCell ⟨w.heap.size, 1, none⟩ (I m.f)).setCell ⟨w.heap.size, 2, none⟩ (I m.t)).setCell ⟨w.heap.size, 3, none⟩ (.string ⟨m.bs.toArray⟩) := ⟨_, rfl⟩
  change bodyPost _ _ _ Exit.ret _ ((((w5.setCell ⟨w.heap.size, 0, none⟩ (I m.k)).setCell ⟨w.heap.size, 1, none⟩ (I m.f)).setCell ⟨w.heap.size, 2, none⟩ (I m.t)).setCell ⟨w.heap.size, 3, none⟩ (.string ⟨m.bs.toArray⟩))
  rw [← hw6]
  have hT6 : Tch (fun k => k = w.heap.size) w5 w6 := by rw [hw6]; exact ((((Tch.refl (fun k => k = w.heap.size) w5).setCell ⟨w.heap.size, 0, none⟩ _ (Or.inl rfl)).setCell ⟨w.heap.size, 1, none⟩ _ (Or.inl rfl)).setCell ⟨w.heap.size, 2, none⟩ _ (Or.inl rfl)).setCell ⟨w.heap.size, 3, none⟩ _ (Or.inl rfl)
  have HX6 : Hid (Blk w6 w.heap.size #[I m.k, I m.f, I m.t, .string ⟨m.bs.toArray⟩] 59) := by rw [hw6]; exact (((HX5.out.set 0 _).set 1 _).set 2 _).set 3 _
  have HE : Hid (PoOk w own c pp ch (ms.eraseIdx i) w6) := by
    refine ⟨newTo own w.heap.size 0, .slice (some ⟨g, 0, none⟩) (ms.eraseIdx i).length cp, newTo_ext _ _ _, ⟨hT6.blk HK5.out (by omega), ?_, own_kept HO5.out (fun k e => hT6.block k (HO5.out.lt k e).2 (by cases e; show ¬ g = _; omega)), (newTo_same _ _ _ _ hpw).trans HPW.out.own1, (newTo_same _ _ _ _ hcw).trans HPW.out.own2, fun k e => ?_, ?_⟩, HT5.out.trans hT6 (fun _ _ h => h) (fun k hk e => by have e : k = w.heap.size := e; omega)⟩
    · obtain ⟨b, s, r, h1, h2⟩ := HC5.out
      exact ⟨b, s, r, (hT6.block ch (Array.getElem?_eq_some_iff.1 h1).1 (by omega)).trans h1, h2⟩
    · cases e
      exact (newTo_same _ _ _ _ hgw).trans (HPW.out.own3 g rfl)
    · have := HLE.out; have := HML.out; omega
  clear hw6 hT6 x0 x1 x2 x3 z0 z1 z2 z3
  have f0 : w6.cell? ⟨w.heap.size, 0, none⟩ = some (I m.k) := HX6.out.cell 0
  have f1 : w6.cell? ⟨w.heap.size, 1, none⟩ = some (I m.f) := HX6.out.cell 1
  have f2 : w6.cell? ⟨w.heap.size, 2, none⟩ = some (I m.t) := HX6.out.cell 2
  have f3 : w6.cell? ⟨w.heap.size, 3, none⟩ = some (.string ⟨m.bs.toArray⟩) := HX6.out.cell 3
  exact bodyPost_ret (v := .tuple #[.agg #[I m.k, I m.f, I m.t, .string ⟨m.bs.toArray⟩], I 0]) (by simp [results, Tryz.results50, go_sem, f0, f1, f2, f3]) rfl ⟨rfl, HE.out⟩

end Go.Proofs.YtfmcngncaffloaaGreatDoor
