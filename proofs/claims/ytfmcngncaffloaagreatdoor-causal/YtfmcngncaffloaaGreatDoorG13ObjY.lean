import Derived.Test.YtfmcngncaffloaaGreatDoorG11ObjW
import Derived.Test.YtfmcngncaffloaaGreatDoorMapD
namespace Go.Proofs.YtfmcngncaffloaaGreatDoor
open Go.RowKit
set_option maxRecDepth 100000

theorem wpList_delete_dot {w : World} {ops : Array Oper} {rest : List Oper} {o : Oper} {a : Act} {Q : Exit → Act → World → Prop} (hgd : o.guard = none) (x y : Operand) (t2 : TypeId)
    (ho : o.op = .call { callee := .builtin .delete, args := #[x, y], argTypes := #[185, t2] }) (b : Nat) (m : Lv) (d : Wv.Dt) (hx : a.eval x = .map (some b)) (hy : a.eval y = dotV d) (h : MpAt w b m)
    (hh : ∀ w', MpAt w' b (delD m d) → w.grownBy w' (some b) → wpList Tryz.prog ops Q rest (a.put o.dst (.tuple #[])) w') :
    wpList Tryz.prog ops Q (o :: rest) a w := by
  refine wpList_plain hgd fun K hK => ?_
  obtain ⟨w', hr, h2, h3⟩ := run_delete_dot d w b o.type t2 m h
  unfold Oper.wp execOp
  simp only [ho, resolve, invoke, builtin, Sem.run_bind, Sem.run_pure, Result.andThen_ok, List.map_toArray, List.map_cons, List.map_nil, hx, hy, hr]
  exact hK _ _ (hh w' h2 h3)
theorem wpList_update_dot {w : World} {ops : Array Oper} {rest : List Oper} {o : Oper} {a : Act} {Q : Exit → Act → World → Prop} (hgd : o.guard = none) (x y z : Operand)
    (ho : o.op = .mapUpdate 185 x y z) (b : Nat) (m : Lv) (d : Wv.Dt) (v : Int) (hx : a.eval x = .map (some b)) (hy : a.eval y = dotV d) (hz : a.eval z = I v) (h : MpAt w b m)
    (hh : ∀ w', MpAt w' b (putD m d v) → w.grownBy w' (some b) → wpList Tryz.prog ops Q rest (a.put o.dst undef) w') :
    wpList Tryz.prog ops Q (o :: rest) a w := by
  refine wpList_plain hgd fun K hK => ?_
  obtain ⟨w', hr, h2, h3⟩ := run_update_dot d v w b m h
  unfold Oper.wp
  simp [execOp, ho, hx, hy, hz, hr, Result.andThen]
  exact hK _ _ (hh w' h2 h3)
theorem step_update_dot {ops : Array Oper} {o : Oper} {a : Act} {w : World} {K : Act → World → Prop} {Q : Exit → Act → World → Prop} {E : Prop} (hgd : o.guard = none) (x y z : Operand)
    (ho : o.op = .mapUpdate 185 x y z) (b : Nat) (m : Lv) (d : Wv.Dt) (v : Int) (hx : a.eval x = .map (some b)) (hy : a.eval y = dotV d) (hz : a.eval z = I v) (h : MpAt w b m)
    (hh : ∀ w', MpAt w' b (putD m d v) → w.grownBy w' (some b) → K (a.put o.dst undef) w') :
    if Region.wanted o (yielded ops a.tmps) = true then Oper.wp Tryz.prog o a w K Q else E := by
  have hw : Region.wanted o (yielded ops a.tmps) = true := by simp [Region.wanted, hgd]
  rw [if_pos hw]
  obtain ⟨w', hr, h2, h3⟩ := run_update_dot d v w b m h
  unfold Oper.wp
  simp [execOp, ho, hx, hy, hz, hr, Result.andThen]
  exact hh w' h2 h3
theorem At.tch {w w' : World} {a : Option Addr} {cs : List Value} {b : Nat} (h : At w a cs) (hg : Tch (fun j => j = b) w w') (hm : ∀ j, w.cell? ⟨b, j, none⟩ = none) : At w' a cs := by
  intro j u hj
  obtain ⟨p, o, e, hc⟩ := h j u hj
  refine ⟨p, o, e, hg.cell hc (fun e => ?_)⟩
  cases e
  rw [hm] at hc
  cases hc
theorem MpAt.none {w : World} {b : Nat} {m : Lv} (h : MpAt w b m) (j : Nat) : w.cell? ⟨b, j, none⟩ = none := by
  obtain ⟨es, clock, hb, _⟩ := h
  simp [World.cell?, hb]
def delsD (m : Lv) (ds : List Wv.Dt) : Lv := ds.foldl delD m
set_option maxHeartbeats 800000 in
theorem remove_any (b : Nat) (m : Lv) (da : Option Addr) (dc : Nat) (ds : List Wv.Dt) (w : World) (h : MpAt w b m) (hd : At w da (flat dotCells ds)) (hl : ds.length ≤ 1048576) :
    Calls Tryz.prog 253 #[.map (some b), .slice da ds.length dc] w fun e w' => e = .returned (.tuple #[]) ∧ MpAt w' b (delsD m ds) ∧ Tch (fun j => j = b) w w' := by
  have HM : Hid (MpAt w b m) := h
  have HD : Hid (At w da (flat dotCells ds)) := hd
  clear h hd
  go_enter Tryz.func253, Tryz.ntmps253
  go_wp2_with fail
  go_loopw [8] (fun x wr => ∃ k : Nat, k ≤ ds.length ∧ x = I k ∧ Hid (MpAt wr b (delsD m (ds.take k))) ∧ Hid (At wr da (flat dotCells ds)) ∧ Hid (Tch (fun j => j = b) w wr)) (fun x _ => ds.length - (intOf x).toNat)
  case atStart => exact ⟨0, Nat.zero_le _, rfl, HM, HD, Tch.refl _ _⟩
  case round =>
    obtain ⟨k, hk, rfl, HM2, HD2, HG2⟩ := hrel
    clear HM HD
    by_cases hlt : k < ds.length
    · obtain ⟨p, q, rfl, hp, hc⟩ := dots_at HD2.out (by omega)
      obtain ⟨e0, e1, e2⟩ := hc k hlt
      have HS : Hid (delsD m (ds.take (k + 1)) = delD (delsD m (ds.take k)) ds[k]) := by
        show _ = _
        unfold delsD
        rw [List.take_succ_eq_append_getElem hlt, List.foldl_append]
        rfl
      have hki : (k : Int) < ds.length := by omega
      clear hc hp
      generalize ds[k] = d at *
      go_wp2_with (first | (refine wpList_delete_dot rfl _ _ _ rfl b (delsD m (ds.take k)) d rfl rfl (by exact HM2.out.same (Below.heap_alloc wr _ b HM2.out.lt)) ?_; intro w3 hm3 hg3; have HM3 : Hid (MpAt w3 b (delsD m (ds.take (k + 1)))) := (by show MpAt _ _ _; rw [HS.out]; exact hm3); have HG3 : Hid (Tch (fun j => j = b) wr w3) := (Tch.below ((Below.refl _ _).alloc (Nat.le_refl _) _)).trans (Tch.grown hg3) (fun _ _ h => h) (fun _ _ h => by cases h; rfl); clear hm3 hg3))
      have HD3 : Hid (At w3 (some ⟨p, q, none⟩) (flat dotCells ds)) := HD2.out.tch HG3.out (fun j => HM2.out.none j)
      have HT3 : Hid (Tch (fun j => j = b) w w3) := HG2.out.then HG3.out
      go_roundw
      case rel => exact ⟨k + 1, hlt, by go_num, HM3, HD3, HT3⟩
      case measure => simp [intOf]; omega
    · have HF : Hid (MpAt wr b (delsD m ds)) := by
        have := HM2.out
        rw [List.take_of_length_le (by omega)] at this
        exact this
      have hki : ¬ (k : Int) < ds.length := by omega
      clear HM2
      go_wp2
      go_end0
      exact ⟨rfl, HF.out, HG2.out⟩

end Go.Proofs.YtfmcngncaffloaaGreatDoor

namespace Go.Proofs.YtfmcngncaffloaaGreatDoor
open Go.RowKit
set_option maxRecDepth 100000

/-- What an effect does to a set, to a register. -/
def takeS (m : Lv) (s : Stp) (e : Wv.Ef) : Lv := if e.op = 2 then putD m s.d e.va else if e.op = 3 then delsD m e.dots else m
def takeR (m : Lv) (s : Stp) (e : Wv.Ef) : Lv := putD (delsD m e.dots) s.d e.va
theorem twoC_blk {w : World} {g : Nat} {cs : Array Value} {t : TypeId} (h : Blk w g cs t) (s : Stp) (m : Em) : Blk (twoC w s m) g cs t := h.kept (twoC_below w s m) h.lt
theorem MpAt.below {w w' : World} {b : Nat} {m : Lv} (h : MpAt w b m) (hb : Below w.heap.size w w') : MpAt w' b m := h.same (hb.block b h.lt)

set_option maxHeartbeats 800000 in
theorem rtake_any (p b : Nat) (l : Lv) (s : Stp) (m : Em) (w : World) (h : Blk w p #[.map (some b)] 189) (hm : MpAt w b l) (hd : At w m.da (flat dotCells m.e.dots)) (hl : m.e.dots.length ≤ 1048576) :
    Calls Tryz.prog 306 #[.pointer (some ⟨p, 0, none⟩), stV s, effV m] w fun e w' => e = .returned (.tuple #[]) ∧ MpAt w' b (takeR l s m.e) ∧ Tch (fun j => j = b) w w' := by
  obtain ⟨wA, hwA⟩ : ∃ wA, wA = twoC w s m := ⟨_, rfl⟩
  have HB : Hid (Blk wA p #[.map (some b)] 189) := by rw [hwA]; exact twoC_blk h s m
  have HM : Hid (MpAt wA b l) := by rw [hwA]; exact hm.below (twoC_below w s m)
  have HD : Hid (At wA m.da (flat dotCells m.e.dots)) := by rw [hwA]; exact hd.kept (twoC_below w s m)
  have hpb : p ≠ b := by
    rintro rfl
    obtain ⟨es, clock, hb, _⟩ := hm
    have := h.symm.trans hb
    cases this
  have hbw : b < w.heap.size := hm.lt
  have c0 : wA.cell? ⟨p, 0, none⟩ = some (.map (some b)) := HB.out.cell 0
  have HS : Hid (Blk wA w.heap.size #[I s.d.o, I s.d.s, I s.d.i, I s.t] 198) := by rw [hwA]; exact Blk.alloc (heap_alloc_new w _) _
  have HE : Hid (Blk wA (w.heap.size + 1) #[I m.e.op, I m.e.ob, I m.e.va, I m.e.ref.o, I m.e.ref.s, I m.e.ref.i, .slice m.da m.e.dots.length m.dc] 149) := by rw [hwA]; exact Blk.second w _ _ _
  have HT : Hid (Below w.heap.size w wA) := by rw [hwA]; exact twoC_below w s m
  have e6 : wA.cell? ⟨w.heap.size + 1, 6, none⟩ = some (.slice m.da m.e.dots.length m.dc) := HE.out.cell 6
  clear h hm hd
  go_enter Tryz.func306, Tryz.ntmps306
  go_wp2_with fail
  change Code.wp _ _ _ _ (twoC w s m)
  rw [← hwA]
  clear hwA
  go_region_law ((go_simp; go_at_call 253; refine (remove_any b l m.da m.dc m.e.dots _ (by first | exact HM.out | exact HM.out.same rfl) (by first | exact HD.out | exact HD.out.kept (Below.refl _ _).drew) hl).mono ?_; rintro e w3 ⟨rfl, hm3, hT3⟩; have HM3 : Hid (MpAt w3 b (delsD l m.e.dots)) := hm3; have HT3 : Hid (Tch (fun j => j = b) wA w3) := (by first | exact hT3 | exact ((Tch.refl _ wA).drew).then hT3); clear hm3 hT3))
  all_goals
    (have HB3 : Hid (Blk w3 p #[.map (some b)] 189) := HT3.out.blk HB.out hpb
     have HS3 : Hid (Blk w3 w.heap.size #[I s.d.o, I s.d.s, I s.d.i, I s.t] 198) := HT3.out.blk HS.out (by omega)
     have HE3 : Hid (Blk w3 (w.heap.size + 1) #[I m.e.op, I m.e.ob, I m.e.va, I m.e.ref.o, I m.e.ref.s, I m.e.ref.i, .slice m.da m.e.dots.length m.dc] 149) := HT3.out.blk HE.out (by omega)
     have x0 : w3.cell? ⟨p, 0, none⟩ = some (.map (some b)) := HB3.out.cell 0
     have s0 : w3.cell? ⟨w.heap.size, 0, none⟩ = some (I s.d.o) := HS3.out.cell 0
     have s1 : w3.cell? ⟨w.heap.size, 1, none⟩ = some (I s.d.s) := HS3.out.cell 1
     have s2 : w3.cell? ⟨w.heap.size, 2, none⟩ = some (I s.d.i) := HS3.out.cell 2
     have v2 : w3.cell? ⟨w.heap.size + 1, 2, none⟩ = some (I m.e.va) := HE3.out.cell 2
     clear HB HM HD HS HE c0 e6
     go_wp2_with fail
     obtain ⟨w4, hr4, hm4, hg4⟩ := run_update_dot s.d m.e.va w3.drew b (delsD l m.e.dots) HM3.out
     have HM4 : Hid (MpAt w4 b (putD (delsD l m.e.dots) s.d m.e.va)) := hm4
     have HT4 : Hid (Tch (fun j => j = b) w3 w4) := (((Tch.refl (fun j => j = b) w3).drew).trans (Tch.grown hg4) (fun _ _ h => h) (fun _ _ h => by cases h; rfl))
     clear hm4 hg4
     go_region_law (fail))
  all_goals
    (go_end0
     exact ⟨rfl, HM4.out, ((Tch.below HT.out).then HT3.out).then HT4.out⟩)

set_option maxHeartbeats 800000 in
theorem stake_any (p b : Nat) (l : Lv) (s : Stp) (m : Em) (w : World) (h : Blk w p #[.map (some b)] 187) (hm : MpAt w b l) (hd : At w m.da (flat dotCells m.e.dots)) (hl : m.e.dots.length ≤ 1048576) :
    Calls Tryz.prog 248 #[.pointer (some ⟨p, 0, none⟩), stV s, effV m] w fun e w' => e = .returned (.tuple #[]) ∧ MpAt w' b (takeS l s m.e) ∧ Tch (fun j => j = b) w w' := by
  obtain ⟨wA, hwA⟩ : ∃ wA, wA = twoC w s m := ⟨_, rfl⟩
  have HB : Hid (Blk wA p #[.map (some b)] 187) := by rw [hwA]; exact twoC_blk h s m
  have HM : Hid (MpAt wA b l) := by rw [hwA]; exact hm.below (twoC_below w s m)
  have HD : Hid (At wA m.da (flat dotCells m.e.dots)) := by rw [hwA]; exact hd.kept (twoC_below w s m)
  have hbw : b < w.heap.size := hm.lt
  have c0 : wA.cell? ⟨p, 0, none⟩ = some (.map (some b)) := HB.out.cell 0
  have HS : Hid (Blk wA w.heap.size #[I s.d.o, I s.d.s, I s.d.i, I s.t] 198) := by rw [hwA]; exact Blk.alloc (heap_alloc_new w _) _
  have HE : Hid (Blk wA (w.heap.size + 1) #[I m.e.op, I m.e.ob, I m.e.va, I m.e.ref.o, I m.e.ref.s, I m.e.ref.i, .slice m.da m.e.dots.length m.dc] 149) := by rw [hwA]; exact Blk.second w _ _ _
  have HT : Hid (Below w.heap.size w wA) := by rw [hwA]; exact twoC_below w s m
  have e0 : wA.cell? ⟨w.heap.size + 1, 0, none⟩ = some (I m.e.op) := HE.out.cell 0
  have e2 : wA.cell? ⟨w.heap.size + 1, 2, none⟩ = some (I m.e.va) := HE.out.cell 2
  have e6 : wA.cell? ⟨w.heap.size + 1, 6, none⟩ = some (.slice m.da m.e.dots.length m.dc) := HE.out.cell 6
  have s0 : wA.cell? ⟨w.heap.size, 0, none⟩ = some (I s.d.o) := HS.out.cell 0
  have s1 : wA.cell? ⟨w.heap.size, 1, none⟩ = some (I s.d.s) := HS.out.cell 1
  have s2 : wA.cell? ⟨w.heap.size, 2, none⟩ = some (I s.d.i) := HS.out.cell 2
  clear h hm hd
  go_enter Tryz.func248, Tryz.ntmps248
  have HV : Hid ((m.e.op = 2 → takeS l s m.e = putD l s.d m.e.va) ∧ (m.e.op ≠ 2 → m.e.op = 3 → takeS l s m.e = delsD l m.e.dots) ∧ (m.e.op ≠ 2 → m.e.op ≠ 3 → takeS l s m.e = l)) := ⟨fun h => by unfold takeS; rw [if_pos h], fun h h3 => by unfold takeS; rw [if_neg h, if_pos h3], fun h h3 => by unfold takeS; rw [if_neg h, if_neg h3]⟩
  by_cases h2 : m.e.op = 2
  · have HV2 : Hid (takeS l s m.e = putD l s.d m.e.va) := HV.out.1 h2
    have hq : (m.e.op == 2) = true := by simp [h2]
    clear h2 HV
    go_wp2_with fail
    change Code.wp _ _ _ _ (twoC w s m)
    rw [← hwA]
    clear hwA
    obtain ⟨w4, hr4, hm4, hg4⟩ := run_update_dot s.d m.e.va wA.drew b l HM.out
    have HM4 : Hid (MpAt w4 b (takeS l s m.e)) := by show MpAt _ _ _; rw [HV2.out]; exact hm4
    have HT4 : Hid (Tch (fun j => j = b) wA w4) := (((Tch.refl (fun j => j = b) wA).drew).trans (Tch.grown hg4) (fun _ _ h => h) (fun _ _ h => by cases h; rfl))
    clear hm4 hg4
    go_region_law (fail)
    all_goals
      (go_wp2
       go_end0
       exact ⟨rfl, HM4.out, (Tch.below HT.out).then HT4.out⟩)
  · by_cases h3 : m.e.op = 3
    · have HV2 : Hid (takeS l s m.e = delsD l m.e.dots) := HV.out.2.1 h2 h3
      have hq : (m.e.op == 2) = false := by simp [h2]
      have hq3 : (m.e.op == 3) = true := by simp [h3]
      clear h2 h3 HV
      go_wp2_with fail
      change Code.wp _ _ _ _ (twoC w s m)
      rw [← hwA]
      clear hwA
      go_region_law ((go_simp; go_at_call 253; refine (remove_any b l m.da m.dc m.e.dots _ (by first | exact HM.out | exact HM.out.same rfl) (by first | exact HD.out | exact HD.out.kept (Below.refl _ _).drew) hl).mono ?_; rintro e w3 ⟨rfl, hm3, hT3⟩; have HM3 : Hid (MpAt w3 b (takeS l s m.e)) := (by show MpAt _ _ _; rw [HV2.out]; exact hm3); have HT3 : Hid (Tch (fun j => j = b) wA w3) := (by first | exact hT3 | exact ((Tch.refl _ wA).drew).then hT3); clear hm3 hT3))
      all_goals
        (go_wp2
         go_end0
         exact ⟨rfl, HM3.out, (Tch.below HT.out).then HT3.out⟩)
    · have HV2 : Hid (takeS l s m.e = l) := HV.out.2.2 h2 h3
      have hq : (m.e.op == 2) = false := by simp [h2]
      have hq3 : (m.e.op == 3) = false := by simp [h3]
      clear h2 h3 HV
      have HF : Hid (MpAt (twoC w s m) b l) := by show MpAt _ _ _; rw [← hwA]; exact HM.out
      go_wp2
      go_end0
      exact ⟨rfl, by rw [HV2.out]; exact HF.out, Tch.below (twoC_below w s m)⟩

end Go.Proofs.YtfmcngncaffloaaGreatDoor
