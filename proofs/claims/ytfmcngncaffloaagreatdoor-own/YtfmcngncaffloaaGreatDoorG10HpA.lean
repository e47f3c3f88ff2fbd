import Derived.Test.YtfmcngncaffloaaGreatDoorG08ObjW
import Derived.Test.YtfmcngncaffloaaGreatDoorG09MapD
import Derived.Laws.Externs
import Derived.Laws.Cover3
namespace Go.Proofs.YtfmcngncaffloaaGreatDoor
open Go.RowKit
set_option maxRecDepth 100000

theorem wpList_delete_dot {w : World} {ops : Array Oper} {rest : List Oper} {o : Oper} {a : Act} {Q : Exit → Act → World → Prop} (hgd : o.guard = none) (x y : Operand) (t2 : TypeId)
    (ho : o.op = .call { callee := .builtin .delete, args := #[x, y], argTypes := #[185, t2] }) (b : Nat) (m : Lv) (d : Wv.Dt) (hx : a.eval x = .map (some b)) (hy : a.eval y = dotV d) (h : MpAt w b m)
    (hh : ∀ w', MpAt w' b (delD m d) → w.grownBy w' (some b) → wpList Tryz.prog ops Q rest (a.put o.dst (.tuple #[])) w') :
    wpList Tryz.prog ops Q (o :: rest) a w := by
  refine wpList_plain hgd fun K hK => ?_
  obtain ⟨w', hr, h2, h3⟩ := run_delete_dot d w b o.type t2 m h
  unfold Oper.wp execOp
  simp only [ho, resolve, invoke, builtin, Sem.run_bind, Sem.run_pure, Result.andThen_ok, List.map_toArray, List.map_cons, List.map_nil, hx, hy, hr]
  exact hK _ _ (hh w' h2 h3)
theorem At.tch {w w' : World} {a : Option Addr} {cs : List Value} {b : Nat} (h : At w a cs) (hg : Tch (fun j => j = b) w w') (hm : ∀ j, w.cell? ⟨b, j, none⟩ = none) : At w' a cs := by
  intro j u hj
  obtain ⟨p, o, e, hc⟩ := h j u hj
  refine ⟨p, o, e, hg.cell hc (fun e => ?_)⟩
  cases e
  rw [hm] at hc
  cases hc
theorem MpAt.none {w : World} {b : Nat} {m : Lv} (h : MpAt w b m) (j : Nat) : w.cell? ⟨b, j, none⟩ = none := by
  obtain ⟨es, clock, hb, _⟩ := h
  simp [World.cell?, hb]
def delsD (m : Lv) (ds : List Wv.Dt) : Lv := ds.foldl delD m
set_option maxHeartbeats 800000 in
theorem remove_any (b : Nat) (m : Lv) (da : Option Addr) (dc : Nat) (ds : List Wv.Dt) (w : World) (h : MpAt w b m) (hd : At w da (flat dotCells ds)) (hl : ds.length ≤ 1048576) :
    Calls Tryz.prog 253 #[.map (some b), .slice da ds.length dc] w fun e w' => e = .returned (.tuple #[]) ∧ MpAt w' b (delsD m ds) ∧ Tch (fun j => j = b) w w' := by
  have HM : Hid (MpAt w b m) := h
  have HD : Hid (At w da (flat dotCells ds)) := hd
  clear h hd
  go_enter Tryz.func253, Tryz.ntmps253
  go_wp2_with fail
  go_loopw [8] (fun x wr => ∃ k : Nat, k ≤ ds.length ∧ x = I k ∧ Hid (MpAt wr b (delsD m (ds.take k))) ∧ Hid (At wr da (flat dotCells ds)) ∧ Hid (Tch (fun j => j = b) w wr)) (fun x _ => ds.length - (intOf x).toNat)
  case atStart => exact ⟨0, Nat.zero_le _, rfl, HM, HD, Tch.refl _ _⟩
  case round =>
    obtain ⟨k, hk, rfl, HM2, HD2, HG2⟩ := hrel
    clear HM HD
    by_cases hlt : k < ds.length
    · obtain ⟨p, q, rfl, hp, hc⟩ := dots_at HD2.out (by omega)
      obtain ⟨e0, e1, e2⟩ := hc k hlt
      have HS : Hid (delsD m (ds.take (k + 1)) = delD (delsD m (ds.take k)) ds[k]) := by
        show _ = _
        unfold delsD
        rw [List.take_succ_eq_append_getElem hlt, List.foldl_append]
        rfl
      have hki : (k : Int) < ds.length := by omega
      clear hc hp
      generalize ds[k] = d at *
      go_wp2_with (first | (refine wpList_delete_dot rfl _ _ _ rfl b (delsD m (ds.take k)) d rfl rfl (by exact HM2.out.same (Below.heap_alloc wr _ b HM2.out.lt)) ?_; intro w3 hm3 hg3; have HM3 : Hid (MpAt w3 b (delsD m (ds.take (k + 1)))) := (by show MpAt _ _ _; rw [HS.out]; exact hm3); have HG3 : Hid (Tch (fun j => j = b) wr w3) := (Tch.below ((Below.refl _ _).alloc (Nat.le_refl _) _)).trans (Tch.grown hg3) (fun _ _ h => h) (fun _ _ h => by cases h; rfl); clear hm3 hg3))
      have HD3 : Hid (At w3 (some ⟨p, q, none⟩) (flat dotCells ds)) := HD2.out.tch HG3.out (fun j => HM2.out.none j)
      have HT3 : Hid (Tch (fun j => j = b) w w3) := HG2.out.then HG3.out
      go_roundw
      case rel => exact ⟨k + 1, hlt, by go_num, HM3, HD3, HT3⟩
      case measure => simp [intOf]; omega
    · have HF : Hid (MpAt wr b (delsD m ds)) := by
        have := HM2.out
        rw [List.take_of_length_le (by omega)] at this
        exact this
      have hki : ¬ (k : Int) < ds.length := by omega
      clear HM2
      go_wp2
      go_end0
      exact ⟨rfl, HF.out, HG2.out⟩

end Go.Proofs.YtfmcngncaffloaaGreatDoor

namespace Go.Proofs.YtfmcngncaffloaaGreatDoor
open Go.RowKit
set_option maxRecDepth 100000

/-- What an effect does to a set, to a register. -/
def takeS (m : Lv) (s : Stp) (e : Wv.Ef) : Lv := if e.op = 2 then putD m s.d e.va else if e.op = 3 then delsD m e.dots else m
def takeR (m : Lv) (s : Stp) (e : Wv.Ef) : Lv := putD (delsD m e.dots) s.d e.va
theorem twoC_blk {w : World} {g : Nat} {cs : Array Value} {t : TypeId} (h : Blk w g cs t) (s : Stp) (m : Em) : Blk (twoC w s m) g cs t := h.kept (twoC_below w s m) h.lt
theorem MpAt.below {w w' : World} {b : Nat} {m : Lv} (h : MpAt w b m) (hb : Below w.heap.size w w') : MpAt w' b m := h.same (hb.block b h.lt)

set_option maxHeartbeats 800000 in
theorem rtake_any (p b : Nat) (l : Lv) (s : Stp) (m : Em) (w : World) (h : Blk w p #[.map (some b)] 189) (hm : MpAt w b l) (hd : At w m.da (flat dotCells m.e.dots)) (hl : m.e.dots.length ≤ 1048576) :
    Calls Tryz.prog 306 #[.pointer (some ⟨p, 0, none⟩), stV s, effV m] w fun e w' => e = .returned (.tuple #[]) ∧ MpAt w' b (takeR l s m.e) ∧ Tch (fun j => j = b) w w' := by
  obtain ⟨wA, hwA⟩ : ∃ wA, wA = twoC w s m := ⟨_, rfl⟩
  have HB : Hid (Blk wA p #[.map (some b)] 189) := by rw [hwA]; exact twoC_blk h s m
  have HM : Hid (MpAt wA b l) := by rw [hwA]; exact hm.below (twoC_below w s m)
  have HD : Hid (At wA m.da (flat dotCells m.e.dots)) := by rw [hwA]; exact hd.kept (twoC_below w s m)
  have hpb : p ≠ b := by
    rintro rfl
    obtain ⟨es, clock, hb, _⟩ := hm
    have := h.symm.trans hb
    cases this
  have hbw : b < w.heap.size := hm.lt
  have c0 : wA.cell? ⟨p, 0, none⟩ = some (.map (some b)) := HB.out.cell 0
  have HS : Hid (Blk wA w.heap.size #[I s.d.o, I s.d.s, I s.d.i, I s.t] 198) := by rw [hwA]; exact Blk.alloc (heap_alloc_new w _) _
  have HE : Hid (Blk wA (w.heap.size + 1) #[I m.e.op, I m.e.ob, I m.e.va, I m.e.ref.o, I m.e.ref.s, I m.e.ref.i, .slice m.da m.e.dots.length m.dc] 149) := by rw [hwA]; exact Blk.second w _ _ _
  have HT : Hid (Below w.heap.size w wA) := by rw [hwA]; exact twoC_below w s m
  have e6 : wA.cell? ⟨w.heap.size + 1, 6, none⟩ = some (.slice m.da m.e.dots.length m.dc) := HE.out.cell 6
  clear h hm hd
  go_enter Tryz.func306, Tryz.ntmps306
  go_wp2_with fail
  change Code.wp _ _ _ _ (twoC w s m)
  rw [← hwA]
  clear hwA
  go_region_law ((go_simp; go_at_call 253; refine (remove_any b l m.da m.dc m.e.dots _ (by first | exact HM.out | exact HM.out.same rfl) (by first | exact HD.out | exact HD.out.kept (Below.refl _ _).drew) hl).mono ?_; rintro e w3 ⟨rfl, hm3, hT3⟩; have HM3 : Hid (MpAt w3 b (delsD l m.e.dots)) := hm3; have HT3 : Hid (Tch (fun j => j = b) wA w3) := (by first | exact hT3 | exact ((Tch.refl _ wA).drew).then hT3); clear hm3 hT3))
  all_goals
    (have HB3 : Hid (Blk w3 p #[.map (some b)] 189) := HT3.out.blk HB.out hpb
     have HS3 : Hid (Blk w3 w.heap.size #[I s.d.o, I s.d.s, I s.d.i, I s.t] 198) := HT3.out.blk HS.out (by omega)
     have HE3 : Hid (Blk w3 (w.heap.size + 1) #[I m.e.op, I m.e.ob, I m.e.va, I m.e.ref.o, I m.e.ref.s, I m.e.ref.i, .slice m.da m.e.dots.length m.dc] 149) := HT3.out.blk HE.out (by omega)
     have x0 : w3.cell? ⟨p, 0, none⟩ = some (.map (some b)) := HB3.out.cell 0
     have s0 : w3.cell? ⟨w.heap.size, 0, none⟩ = some (I s.d.o) := HS3.out.cell 0
     have s1 : w3.cell? ⟨w.heap.size, 1, none⟩ = some (I s.d.s) := HS3.out.cell 1
     have s2 : w3.cell? ⟨w.heap.size, 2, none⟩ = some (I s.d.i) := HS3.out.cell 2
     have v2 : w3.cell? ⟨w.heap.size + 1, 2, none⟩ = some (I m.e.va) := HE3.out.cell 2
     clear HB HM HD HS HE c0 e6
     go_wp2_with fail
     obtain ⟨w4, hr4, hm4, hg4⟩ := run_update_dot s.d m.e.va w3.drew b (delsD l m.e.dots) HM3.out
     have HM4 : Hid (MpAt w4 b (putD (delsD l m.e.dots) s.d m.e.va)) := hm4
     have HT4 : Hid (Tch (fun j => j = b) w3 w4) := (((Tch.refl (fun j => j = b) w3).drew).trans (Tch.grown hg4) (fun _ _ h => h) (fun _ _ h => by cases h; rfl))
     clear hm4 hg4
     go_region_law (fail))
  all_goals
    (go_end0
     exact ⟨rfl, HM4.out, ((Tch.below HT.out).then HT3.out).then HT4.out⟩)

set_option maxHeartbeats 800000 in
theorem stake_any (p b : Nat) (l : Lv) (s : Stp) (m : Em) (w : World) (h : Blk w p #[.map (some b)] 187) (hm : MpAt w b l) (hd : At w m.da (flat dotCells m.e.dots)) (hl : m.e.dots.length ≤ 1048576) :
    Calls Tryz.prog 248 #[.pointer (some ⟨p, 0, none⟩), stV s, effV m] w fun e w' => e = .returned (.tuple #[]) ∧ MpAt w' b (takeS l s m.e) ∧ Tch (fun j => j = b) w w' := by
  obtain ⟨wA, hwA⟩ : ∃ wA, wA = twoC w s m := ⟨_, rfl⟩
  have HB : Hid (Blk wA p #[.map (some b)] 187) := by rw [hwA]; exact twoC_blk h s m
  have HM : Hid (MpAt wA b l) := by rw [hwA]; exact hm.below (twoC_below w s m)
  have HD : Hid (At wA m.da (flat dotCells m.e.dots)) := by rw [hwA]; exact hd.kept (twoC_below w s m)
  have hbw : b < w.heap.size := hm.lt
  have c0 : wA.cell? ⟨p, 0, none⟩ = some (.map (some b)) := HB.out.cell 0
  have HS : Hid (Blk wA w.heap.size #[I s.d.o, I s.d.s, I s.d.i, I s.t] 198) := by rw [hwA]; exact Blk.alloc (heap_alloc_new w _) _
  have HE : Hid (Blk wA (w.heap.size + 1) #[I m.e.op, I m.e.ob, I m.e.va, I m.e.ref.o, I m.e.ref.s, I m.e.ref.i, .slice m.da m.e.dots.length m.dc] 149) := by rw [hwA]; exact Blk.second w _ _ _
  have HT : Hid (Below w.heap.size w wA) := by rw [hwA]; exact twoC_below w s m
  have e0 : wA.cell? ⟨w.heap.size + 1, 0, none⟩ = some (I m.e.op) := HE.out.cell 0
  have e2 : wA.cell? ⟨w.heap.size + 1, 2, none⟩ = some (I m.e.va) := HE.out.cell 2
  have e6 : wA.cell? ⟨w.heap.size + 1, 6, none⟩ = some (.slice m.da m.e.dots.length m.dc) := HE.out.cell 6
  have s0 : wA.cell? ⟨w.heap.size, 0, none⟩ = some (I s.d.o) := HS.out.cell 0
  have s1 : wA.cell? ⟨w.heap.size, 1, none⟩ = some (I s.d.s) := HS.out.cell 1
  have s2 : wA.cell? ⟨w.heap.size, 2, none⟩ = some (I s.d.i) := HS.out.cell 2
  clear h hm hd
  go_enter Tryz.func248, Tryz.ntmps248
  have HV : Hid ((m.e.op = 2 → takeS l s m.e = putD l s.d m.e.va) ∧ (m.e.op ≠ 2 → m.e.op = 3 → takeS l s m.e = delsD l m.e.dots) ∧ (m.e.op ≠ 2 → m.e.op ≠ 3 → takeS l s m.e = l)) := ⟨fun h => by unfold takeS; rw [if_pos h], fun h h3 => by unfold takeS; rw [if_neg h, if_pos h3], fun h h3 => by unfold takeS; rw [if_neg h, if_neg h3]⟩
  by_cases h2 : m.e.op = 2
  · have HV2 : Hid (takeS l s m.e = putD l s.d m.e.va) := HV.out.1 h2
    have hq : (m.e.op == 2) = true := by simp [h2]
    clear h2 HV
    go_wp2_with fail
    change Code.wp _ _ _ _ (twoC w s m)
    rw [← hwA]
    clear hwA
    obtain ⟨w4, hr4, hm4, hg4⟩ := run_update_dot s.d m.e.va wA.drew b l HM.out
    have HM4 : Hid (MpAt w4 b (takeS l s m.e)) := by show MpAt _ _ _; rw [HV2.out]; exact hm4
    have HT4 : Hid (Tch (fun j => j = b) wA w4) := (((Tch.refl (fun j => j = b) wA).drew).trans (Tch.grown hg4) (fun _ _ h => h) (fun _ _ h => by cases h; rfl))
    clear hm4 hg4
    go_region_law (fail)
    all_goals
      (go_wp2
       go_end0
       exact ⟨rfl, HM4.out, (Tch.below HT.out).then HT4.out⟩)
  · by_cases h3 : m.e.op = 3
    · have HV2 : Hid (takeS l s m.e = delsD l m.e.dots) := HV.out.2.1 h2 h3
      have hq : (m.e.op == 2) = false := by simp [h2]
      have hq3 : (m.e.op == 3) = true := by simp [h3]
      clear h2 h3 HV
      go_wp2_with fail
      change Code.wp _ _ _ _ (twoC w s m)
      rw [← hwA]
      clear hwA
      go_region_law ((go_simp; go_at_call 253; refine (remove_any b l m.da m.dc m.e.dots _ (by first | exact HM.out | exact HM.out.same rfl) (by first | exact HD.out | exact HD.out.kept (Below.refl _ _).drew) hl).mono ?_; rintro e w3 ⟨rfl, hm3, hT3⟩; have HM3 : Hid (MpAt w3 b (takeS l s m.e)) := (by show MpAt _ _ _; rw [HV2.out]; exact hm3); have HT3 : Hid (Tch (fun j => j = b) wA w3) := (by first | exact hT3 | exact ((Tch.refl _ wA).drew).then hT3); clear hm3 hT3))
      all_goals
        (go_wp2
         go_end0
         exact ⟨rfl, HM3.out, (Tch.below HT.out).then HT3.out⟩)
    · have HV2 : Hid (takeS l s m.e = l) := HV.out.2.2 h2 h3
      have hq : (m.e.op == 2) = false := by simp [h2]
      have hq3 : (m.e.op == 3) = false := by simp [h3]
      clear h2 h3 HV
      have HF : Hid (MpAt (twoC w s m) b l) := by show MpAt _ _ _; rw [← hwA]; exact HM.out
      go_wp2
      go_end0
      exact ⟨rfl, by rw [HV2.out]; exact HF.out, Tch.below (twoC_below w s m)⟩

end Go.Proofs.YtfmcngncaffloaaGreatDoor

namespace Go.Proofs.YtfmcngncaffloaaGreatDoor
open Go.RowKit
set_option maxRecDepth 100000

theorem run_clone_map (w : World) (b : Nat) (es : Array MapEntry) (clock : Nat) (h : w.heap[b]? = some (.map es clock)) :
    (callFunc 264 #[.iface 185 (.map (some b))]).run Tryz.prog w = .ok (.value (.iface 185 (.map (some w.heap.size)))) (w.alloc (.map es clock)) := by
  rw [run_callFunc_extern Tryz.func264 (by kernel_rfl) (by kernel_rfl) (by kernel_rfl) (e := Extern.MapsClone.clone) (by kernel_rfl)]
  have h2 : (Extern.MapsClone.clone #[.iface 185 (.map (some b))]).run Tryz.prog w = .ok (.iface 185 (.map (some w.heap.size))) (w.alloc (.map es clock)) := by
    change Sem.run Tryz.prog (α := Value) (do
      let .map entries clock ← getObj b | stuck "maps.clone: a map expected"
      pure (.iface 185 (.map (some (← newObj (.map entries clock)))))) w = _
    simp only [Sem.run_bind, MapKept.run_getObj_map h, Result.andThen_ok]
    simp [newObj, Sem.run]
  rw [h2]
  rfl
theorem run_eql_map (w : World) (b : Nat) : (binOp .eql 185 (.map (some b)) (.map none)).run Tryz.prog w = .ok (.bool false) w := by
  have h := run_equal_map_nil w 185 _ _ (some b) Tryz.underlying185
  simp only [binOp, Sem.run_bind, h]
  simp
theorem run_assert_live (w : World) (xT : TypeId) (v : Value) : (Instr.typeAssert (.iface 185 v) xT 185 false).run Tryz.prog w = .ok v w := by
  simp [Instr.typeAssert, run_underlying Tryz.underlying185, go_sem, Result.andThen]
set_option maxHeartbeats 800000 in
theorem mclone_any (b : Nat) (l : Lv) (w : World) (h : MpAt w b l) :
    Calls Tryz.prog 257 #[.map (some b)] w fun e w' => e = .returned (.map (some w.heap.size)) ∧ MpAt w' w.heap.size l ∧ Below w.heap.size w w' := by
  obtain ⟨es, clock, hb, he, hst⟩ := h
  have hcl := run_clone_map w b es clock hb
  have hnil := run_eql_map w b
  have has := fun xT v => run_assert_live (w.alloc (.map es clock)) xT v
  have HE : Hid (MpAt (w.alloc (.map es clock)) w.heap.size l) := ⟨es, clock, (MapKept.heap_alloc w _).1, he, hst⟩
  clear he hb hst
  go_enter Tryz.func257, Tryz.ntmps257
  go_wp2_with (simp only [hcl])
  go_ret
  exact ⟨rfl, HE.out, (Below.refl _ _).alloc (Nat.le_refl _) _⟩
set_option maxHeartbeats 800000 in
theorem lvcopy_any (b : Nat) (l : Lv) (w : World) (h : MpAt w b l) :
    Calls Tryz.prog 250 #[.map (some b)] w fun e w' => e = .returned (.map (some w.heap.size)) ∧ MpAt w' w.heap.size l ∧ Below w.heap.size w w' := by
  go_enter Tryz.func250, Tryz.ntmps250
  go_wp2_with fail
  refine (mclone_any b l w h).mono ?_
  rintro e w1 ⟨rfl, hm, hb⟩
  have HE : Hid (MpAt w1 w.heap.size l) := hm
  have HB : Hid (Below w.heap.size w w1) := hb
  clear hm hb h
  go_wp2
  go_ret
  exact ⟨rfl, HE.out, HB.out⟩
set_option maxHeartbeats 800000 in
theorem scopy_any (p b : Nat) (l : Lv) (w : World) (h : Blk w p #[.map (some b)] 187) (hm : MpAt w b l) :
    Calls Tryz.prog 246 #[.pointer (some ⟨p, 0, none⟩)] w fun e w' => (∃ q b', e = .returned (.iface 183 (.pointer (some ⟨q, 0, none⟩))) ∧ w.heap.size ≤ q ∧ w.heap.size ≤ b' ∧ Blk w' q #[.map (some b')] 187 ∧ MpAt w' b' l) ∧ Below w.heap.size w w' := by
  have c0 : w.cell? ⟨p, 0, none⟩ = some (.map (some b)) := h.cell 0
  have HM : Hid (MpAt w b l) := hm
  clear h hm
  go_enter Tryz.func246, Tryz.ntmps246
  go_wp2_with fail
  refine (lvcopy_any b l w HM.out).mono ?_
  rintro e w1 ⟨rfl, hm1, hb1⟩
  have hs1 := hb1.size
  have HE : Hid (MpAt (w1.alloc (.cells #[.map (some w.heap.size)] 187)) w.heap.size l) := hm1.below ((Below.refl _ _).alloc (Nat.le_refl _) _)
  have HK : Hid (Blk (w1.alloc (.cells #[.map (some w.heap.size)] 187)) w1.heap.size #[.map (some w.heap.size)] 187) := heap_alloc_new w1 _
  have HB : Hid (Below w.heap.size w (w1.alloc (.cells #[.map (some w.heap.size)] 187))) := hb1.alloc hs1 _
  have HS : Hid (w.heap.size ≤ w1.heap.size) := hs1
  clear hm1 hb1 hs1
  go_wp2
  go_ret
  exact ⟨⟨_, _, rfl, HS.out, Nat.le_refl _, HK.out, HE.out⟩, HB.out⟩
set_option maxHeartbeats 800000 in
theorem rcopy_any (p b : Nat) (l : Lv) (w : World) (h : Blk w p #[.map (some b)] 189) (hm : MpAt w b l) :
    Calls Tryz.prog 304 #[.pointer (some ⟨p, 0, none⟩)] w fun e w' => (∃ q b', e = .returned (.iface 188 (.pointer (some ⟨q, 0, none⟩))) ∧ w.heap.size ≤ q ∧ w.heap.size ≤ b' ∧ Blk w' q #[.map (some b')] 189 ∧ MpAt w' b' l) ∧ Below w.heap.size w w' := by
  have c0 : w.cell? ⟨p, 0, none⟩ = some (.map (some b)) := h.cell 0
  have HM : Hid (MpAt w b l) := hm
  clear h hm
  go_enter Tryz.func304, Tryz.ntmps304
  go_wp2_with fail
  refine (lvcopy_any b l w HM.out).mono ?_
  rintro e w1 ⟨rfl, hm1, hb1⟩
  have hs1 := hb1.size
  have HE : Hid (MpAt (w1.alloc (.cells #[.map (some w.heap.size)] 189)) w.heap.size l) := hm1.below ((Below.refl _ _).alloc (Nat.le_refl _) _)
  have HK : Hid (Blk (w1.alloc (.cells #[.map (some w.heap.size)] 189)) w1.heap.size #[.map (some w.heap.size)] 189) := heap_alloc_new w1 _
  have HB : Hid (Below w.heap.size w (w1.alloc (.cells #[.map (some w.heap.size)] 189))) := hb1.alloc hs1 _
  have HS : Hid (w.heap.size ≤ w1.heap.size) := hs1
  clear hm1 hb1 hs1
  go_wp2
  go_ret
  exact ⟨⟨_, _, rfl, HS.out, Nat.le_refl _, HK.out, HE.out⟩, HB.out⟩

end Go.Proofs.YtfmcngncaffloaaGreatDoor

namespace Go.Proofs.YtfmcngncaffloaaGreatDoor
open Go.RowKit
set_option maxRecDepth 100000

/-- Whose a block is: 0: nobody's, it is never written again. -/
abbrev Clr := Nat → Nat
/-- As far as n nothing has changed hands. -/
def Ext (own own' : Clr) (n : Nat) : Prop := ∀ b, b < n → own' b = own b
theorem Ext.refl (own : Clr) (n : Nat) : Ext own own n := fun _ _ => rfl
theorem Ext.trans {a b c : Clr} {n m : Nat} (h : Ext a b n) (h2 : Ext b c m) (hm : n ≤ m) : Ext a c n := fun k hk => (h2 k (by omega)).trans (h k hk)
theorem Ext.mono {a b : Clr} {n m : Nat} (h : Ext a b m) (hm : n ≤ m) : Ext a b n := fun k hk => h k (by omega)
/-- What is new is c's. -/
def newTo (own : Clr) (n c : Nat) : Clr := fun b => if b < n then own b else c
theorem newTo_ext (own : Clr) (n c : Nat) : Ext own (newTo own n c) n := fun b hb => by unfold newTo; rw [if_pos hb]
theorem newTo_new (own : Clr) (n c b : Nat) (h : n ≤ b) : newTo own n c b = c := by unfold newTo; rw [if_neg (by omega)]
theorem newTo_same (own : Clr) (n c b : Nat) (h : b < n) : newTo own n c b = own b := by unfold newTo; rw [if_pos h]
/-- Nothing is written but what is c's. -/
abbrev TchC (own : Clr) (c : Nat) (w w' : World) : Prop := Tch (fun k => own k = c) w w'
theorem TchC.next {own own' : Clr} {c : Nat} {w w1 w2 : World} (h : TchC own c w w1) (he : Ext own own' w.heap.size) (h2 : TchC own' c w1 w2) : TchC own c w w2 :=
  h.trans h2 (fun _ _ h => h) (fun k hk h => by rw [← he k hk]; exact h)

/-- What an object comes to be, by its kind. -/
inductive Ob where
  | counter (n : Int)
  | set (m : Lv)
  | reg (m : Lv)
  | list (ls : List El)
def Ob.take : Ob → Stp → Wv.Ef → Ob
  | .counter n, _, e => .counter (n + e.va)
  | .set m, s, e => .set (takeS m s e)
  | .reg m, s, e => .reg (takeR m s e)
  | .list ls, s, e => .list (takeL ls s e)
/-- It is small enough to take one more effect. -/
def Ob.small : Ob → Prop
  | .counter n => -1000000000 ≤ n ∧ n ≤ 1000000000
  | .list ls => ls.length ≤ 1000000
  | _ => True
/-- An object in memory, in blocks of c's alone. -/
def ObAt (w : World) (own : Clr) (c : Nat) (v : Value) : Ob → Prop
  | .counter n => ∃ p, v = .iface 180 (.pointer (some ⟨p, 0, none⟩)) ∧ own p = c ∧ Blk w p #[I n] 182
  | .set m => ∃ p b, v = .iface 183 (.pointer (some ⟨p, 0, none⟩)) ∧ own p = c ∧ own b = c ∧ Blk w p #[.map (some b)] 187 ∧ MpAt w b m
  | .reg m => ∃ p b, v = .iface 188 (.pointer (some ⟨p, 0, none⟩)) ∧ own p = c ∧ own b = c ∧ Blk w p #[.map (some b)] 189 ∧ MpAt w b m
  | .list ls => ∃ p sv, v = .iface 190 (.pointer (some ⟨p, 0, none⟩)) ∧ own p = c ∧ (∀ g, sv.ownBlock = some g → own g = c) ∧ LsOwn w p 0 sv ls
/-- The blocks of c's are as they were. -/
def Same (own : Clr) (c : Nat) (w w' : World) : Prop := ∀ b, b < w.heap.size → own b = c → w'.heap[b]? = w.heap[b]?
theorem Tch.same {F : Nat → Prop} {own : Clr} {c : Nat} {w w' : World} (h : Tch F w w') (hc : ∀ k, own k = c → ¬ F k) : Same own c w w' := fun b hb ho => h.block b hb (hc b ho)
theorem ObAt.keep {w w' : World} {own own' : Clr} {c : Nat} {v : Value} {o : Ob} (h : ObAt w own c v o) (hs : Same own c w w') (he : Ext own own' w.heap.size) : ObAt w' own' c v o := by
  cases o with
  | counter n =>
    obtain ⟨p, e, hp, hb⟩ := h
    exact ⟨p, e, (he p hb.lt).trans hp, (hs p hb.lt hp).trans hb⟩
  | set m =>
    obtain ⟨p, b, e, hp, hb, h1, h2⟩ := h
    exact ⟨p, b, e, (he p h1.lt).trans hp, (he b h2.lt).trans hb, (hs p h1.lt hp).trans h1, h2.same (hs b h2.lt hb)⟩
  | reg m =>
    obtain ⟨p, b, e, hp, hb, h1, h2⟩ := h
    exact ⟨p, b, e, (he p h1.lt).trans hp, (he b h2.lt).trans hb, (hs p h1.lt hp).trans h1, h2.same (hs b h2.lt hb)⟩
  | list ls =>
    obtain ⟨p, sv, e, hp, hg, h1⟩ := h
    have hlt : ∀ g, sv.ownBlock = some g → g < w.heap.size := fun g hgs => (h1.row.lt g hgs).2
    exact ⟨p, sv, e, (he p h1.blk.lt).trans hp, fun g hgs => (he g (hlt g hgs)).trans (hg g hgs), ⟨(hs p h1.blk.lt hp).trans h1.blk, own_kept h1.row (fun g hgs => hs g (hlt g hgs) (hg g hgs)), h1.le⟩⟩
/-- What Take leaves. -/
def TakeOk (own : Clr) (c : Nat) (v : Value) (o : Ob) (w : World) (e : Ending) (w' : World) : Prop := e = .returned (.tuple #[]) ∧ ∃ own', Ext own own' w.heap.size ∧ ObAt w' own' c v o ∧ TchC own c w w'
theorem take_counter {w : World} {own : Clr} {c p : Nat} {n : Int} (s : Stp) (m : Em) (h : ObAt w own c (.iface 180 (.pointer (some ⟨p, 0, none⟩))) (.counter n)) (hs : (Ob.counter n).small) (h1 : -1000 ≤ m.e.va) (h2 : m.e.va ≤ 1000) :
    Calls Tryz.prog 244 #[.pointer (some ⟨p, 0, none⟩), stV s, effV m] w fun e w' => TakeOk own c (.iface 180 (.pointer (some ⟨p, 0, none⟩))) ((Ob.counter n).take s m.e) w e w' := by
  obtain ⟨q, e, hp, hb⟩ := h
  cases e
  obtain ⟨hs1, hs2⟩ := hs
  refine (ctake_any p n s m w hb (by omega) (by omega)).mono ?_
  rintro e w' ⟨rfl, hb', hg⟩
  exact ⟨rfl, newTo own w.heap.size c, newTo_ext _ _ _, ⟨p, rfl, (newTo_same _ _ _ _ hb.lt).trans hp, hb'⟩, (Tch.grown hg).mono (fun k _ h => by cases h; exact hp)⟩
theorem take_set {w : World} {own : Clr} {c p : Nat} {l : Lv} (s : Stp) (m : Em) (h : ObAt w own c (.iface 183 (.pointer (some ⟨p, 0, none⟩))) (.set l)) (hd : At w m.da (flat dotCells m.e.dots)) (hl : m.e.dots.length ≤ 1048576) :
    Calls Tryz.prog 248 #[.pointer (some ⟨p, 0, none⟩), stV s, effV m] w fun e w' => TakeOk own c (.iface 183 (.pointer (some ⟨p, 0, none⟩))) ((Ob.set l).take s m.e) w e w' := by
  obtain ⟨q, b, e, hp, hob, hb, hm⟩ := h
  cases e
  refine (stake_any p b l s m w hb hm hd hl).mono ?_
  rintro e w' ⟨rfl, hm', hT⟩
  have hpb : p ≠ b := by
    rintro rfl
    obtain ⟨es, clock, hb2, _⟩ := hm
    cases hb.symm.trans hb2
  exact ⟨rfl, newTo own w.heap.size c, newTo_ext _ _ _, ⟨p, b, rfl, (newTo_same _ _ _ _ hb.lt).trans hp, (newTo_same _ _ _ _ hm.lt).trans hob, hT.blk hb hpb, hm'⟩, hT.mono (fun k _ h => by rw [h]; exact hob)⟩
theorem take_reg {w : World} {own : Clr} {c p : Nat} {l : Lv} (s : Stp) (m : Em) (h : ObAt w own c (.iface 188 (.pointer (some ⟨p, 0, none⟩))) (.reg l)) (hd : At w m.da (flat dotCells m.e.dots)) (hl : m.e.dots.length ≤ 1048576) :
    Calls Tryz.prog 306 #[.pointer (some ⟨p, 0, none⟩), stV s, effV m] w fun e w' => TakeOk own c (.iface 188 (.pointer (some ⟨p, 0, none⟩))) ((Ob.reg l).take s m.e) w e w' := by
  obtain ⟨q, b, e, hp, hob, hb, hm⟩ := h
  cases e
  refine (rtake_any p b l s m w hb hm hd hl).mono ?_
  rintro e w' ⟨rfl, hm', hT⟩
  have hpb : p ≠ b := by
    rintro rfl
    obtain ⟨es, clock, hb2, _⟩ := hm
    cases hb.symm.trans hb2
  exact ⟨rfl, newTo own w.heap.size c, newTo_ext _ _ _, ⟨p, b, rfl, (newTo_same _ _ _ _ hb.lt).trans hp, (newTo_same _ _ _ _ hm.lt).trans hob, hT.blk hb hpb, hm'⟩, hT.mono (fun k _ h => by rw [h]; exact hob)⟩
theorem take_list {w : World} {own : Clr} {c p : Nat} {ls : List El} (s : Stp) (m : Em) (h : ObAt w own c (.iface 190 (.pointer (some ⟨p, 0, none⟩))) (.list ls)) (hs : (Ob.list ls).small) :
    Calls Tryz.prog 310 #[.pointer (some ⟨p, 0, none⟩), stV s, effV m] w fun e w' => TakeOk own c (.iface 190 (.pointer (some ⟨p, 0, none⟩))) ((Ob.list ls).take s m.e) w e w' := by
  obtain ⟨q, sv, e, hp, hg, hL⟩ := h
  cases e
  have hs' : ls.length ≤ 1000000 := hs
  refine (ltake_any p 0 sv s m ls w (Nat.zero_le _) hL (by omega)).mono ?_
  rintro e w' ⟨sv', rfl, hL', hT, hA⟩
  have hlt : ∀ g, sv.ownBlock = some g → g < w.heap.size := fun g hgs => (hL.row.lt g hgs).2
  refine ⟨rfl, newTo own w.heap.size c, newTo_ext _ _ _, ⟨p, sv', rfl, (newTo_same _ _ _ _ hL.blk.lt).trans hp, fun g hgs => ?_, hL'⟩, hT.mono (fun k _ h => ?_)⟩
  · rcases hA with h | ⟨b, h, hb⟩
    · rw [hgs] at h
      exact (newTo_same _ _ _ _ (hlt g h.symm)).trans (hg g h.symm)
    · rw [hgs] at h
      cases h
      exact newTo_new _ _ _ _ hb
  · rcases h with rfl | h
    · exact hp
    · exact hg k h

end Go.Proofs.YtfmcngncaffloaaGreatDoor

namespace Go.Proofs.YtfmcngncaffloaaGreatDoor
open Go.RowKit
set_option maxRecDepth 100000

/-- A batch in memory: what it is, and where its lists lie. -/
structure Bm where
  b : Wv.Bt
  ca : Option Addr
  ea : Option Addr
  cc : Nat
  ec : Nat
  ms : List Em
def Bm.cells (m : Bm) : List Value := [I m.b.o, I m.b.s, I m.b.t, .slice m.ca m.b.clock.length m.cc, .slice m.ea m.b.effs.length m.ec]
theorem bmCells_len (m : Bm) : m.cells.length = 5 := rfl
abbrev bmV (m : Bm) : Value := bV m.b m.ca m.ea m.cc m.ec
theorem bm_one (ls : List Bm) : ∀ u ∈ flat Bm.cells ls, u.oneCell' = true := by
  induction ls with
  | nil => intro u hu; simp [flat] at hu
  | cons m ls ih =>
    intro u hu
    simp only [flat, Bm.cells, List.mem_append, List.mem_cons, List.mem_nil_iff, or_false] at hu
    rcases hu with (rfl | rfl | rfl | rfl | rfl) | hu
    · rfl
    · rfl
    · rfl
    · rfl
    · rfl
    · exact ih u hu
/-- These cells stand there, in a block that is never written again. -/
def At0 (w : World) (own : Clr) (a : Option Addr) (cs : List Value) : Prop := ∀ j u, cs[j]? = some u → ∃ b o, a = some ⟨b, o, none⟩ ∧ own b = 0 ∧ w.cell? ⟨b, o + j, none⟩ = some u
theorem At0.at {w : World} {own : Clr} {a : Option Addr} {cs : List Value} (h : At0 w own a cs) : At w a cs := fun j u hj => by
  obtain ⟨b, o, e, _, hc⟩ := h j u hj
  exact ⟨b, o, e, hc⟩
theorem At0.keep {w w' : World} {own own' : Clr} {a : Option Addr} {cs : List Value} (h : At0 w own a cs) (hs : Same own 0 w w') (he : Ext own own' w.heap.size) : At0 w' own' a cs := fun j u hj => by
  obtain ⟨b, o, e, h0, hc⟩ := h j u hj
  exact ⟨b, o, e, (he b (lt_of_cell hc)).trans h0, cell_same hc (hs b (lt_of_cell hc) h0)⟩
/-- A batch in memory that is never written again. -/
structure BatIn (w : World) (own : Clr) (m : Bm) : Prop where
  clock : At0 w own m.ca (m.b.clock.map I)
  effs : m.b.effs = m.ms.map (·.e)
  cells : At0 w own m.ea (flat Em.cells m.ms)
  dots : ∀ x ∈ m.ms, At0 w own x.da (flat dotCells x.e.dots)
theorem BatIn.at {w : World} {own : Clr} {m : Bm} (h : BatIn w own m) : BatAt w m.b m.ca m.ea m.ms := ⟨h.clock.at, h.effs, h.cells.at, fun x hx => (h.dots x hx).at⟩
theorem BatIn.keep {w w' : World} {own own' : Clr} {m : Bm} (h : BatIn w own m) (hs : Same own 0 w w') (he : Ext own own' w.heap.size) : BatIn w' own' m :=
  ⟨h.clock.keep hs he, h.effs, h.cells.keep hs he, fun x hx => (h.dots x hx).keep hs he⟩

/-- Which of two goes ahead: by the Time, then the Origin, then the Seq. -/
def earlierB (a b : Wv.Bt) : Bool := decide (orI (cmpI a.t b.t) (cmpI a.o b.o) (cmpI a.s b.s) < 0)
set_option maxHeartbeats 3200000 in
theorem earlier_any (x y : Bm) (w : World) :
    Calls Tryz.prog 62 #[bmV x, bmV y] w fun e w' => e = .returned (.bool (earlierB x.b y.b)) ∧ Below w.heap.size w w' := by
  obtain ⟨a, ca, ea, cc, ec, ms⟩ := x
  obtain ⟨b, da, fa, dc, fc, ns⟩ := y
  have k0 : Hid (((((w.alloc (.cells #[I a.o, I a.s, I a.t, .slice ca a.clock.length cc, .slice ea a.effs.length ec] 124)).alloc (.cells #[I b.o, I b.s, I b.t, .slice da b.clock.length dc, .slice fa b.effs.length fc] 124)).alloc (.cells #[I (cmpI a.t b.t), I (cmpI a.o b.o), I (cmpI a.s b.s)] 3)).drew).cell? ⟨w.heap.size + 1 + 1, 0, none⟩ = some (I (cmpI a.t b.t))) := new_at _ _ _ _ _ (by simp)
  have k1 : Hid (((((w.alloc (.cells #[I a.o, I a.s, I a.t, .slice ca a.clock.length cc, .slice ea a.effs.length ec] 124)).alloc (.cells #[I b.o, I b.s, I b.t, .slice da b.clock.length dc, .slice fa b.effs.length fc] 124)).alloc (.cells #[I (cmpI a.t b.t), I (cmpI a.o b.o), I (cmpI a.s b.s)] 3)).drew).cell? ⟨w.heap.size + 1 + 1, 1, none⟩ = some (I (cmpI a.o b.o))) := new_at _ _ _ _ _ (by simp)
  have k2 : Hid (((((w.alloc (.cells #[I a.o, I a.s, I a.t, .slice ca a.clock.length cc, .slice ea a.effs.length ec] 124)).alloc (.cells #[I b.o, I b.s, I b.t, .slice da b.clock.length dc, .slice fa b.effs.length fc] 124)).alloc (.cells #[I (cmpI a.t b.t), I (cmpI a.o b.o), I (cmpI a.s b.s)] 3)).drew).cell? ⟨w.heap.size + 1 + 1, 2, none⟩ = some (I (cmpI a.s b.s))) := new_at _ _ _ _ _ (by simp)
  go_enter Tryz.func62, Tryz.ntmps62
  go_wp2_with fail
  go_region_held3 (fun w' => w'.cell? ⟨w.heap.size, 0, none⟩ = some (I a.o) ∧ w'.cell? ⟨w.heap.size, 1, none⟩ = some (I a.s) ∧ w'.cell? ⟨w.heap.size, 2, none⟩ = some (I a.t) ∧ w'.cell? ⟨w.heap.size + 1, 0, none⟩ = some (I b.o) ∧ w'.cell? ⟨w.heap.size + 1, 1, none⟩ = some (I b.s) ∧ w'.cell? ⟨w.heap.size + 1, 2, none⟩ = some (I b.t)) (go_keep)
    (first | (go_at_call 113; refine (compare_any _ _ _).mono ?_; rintro e w' ⟨rfl, h⟩; subst h) | (go_at_call 112; refine (or_any (cmpI a.t b.t) (cmpI a.o b.o) (cmpI a.s b.s) _ _ ?_ ?_ ?_).mono ?_; exact k0.out; exact k1.out; exact k2.out; rintro e w' ⟨rfl, h⟩; subst h))
  go_wp2
  go_ret
  exact ⟨rfl, (((((Below.refl _ _).alloc (Nat.le_refl _) _).alloc (by simp) _)).alloc (by simp; omega) _).drew⟩

end Go.Proofs.YtfmcngncaffloaaGreatDoor
