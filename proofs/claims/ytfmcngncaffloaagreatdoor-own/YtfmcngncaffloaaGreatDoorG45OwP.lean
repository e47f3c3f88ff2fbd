import Derived.Test.YtfmcngncaffloaaGreatDoorG33StH
namespace Go.Proofs.YtfmcngncaffloaaGreatDoor
open Go.RowKit
set_option maxRecDepth 100000

/-! Messages where there may be no room. -/
def addM (ms : List Ms) (m : Ms) : List Ms := if ms.length < 40 then ms ++ [m] else ms
set_option maxHeartbeats 1600000 in
theorem padd_full (own : Clr) (c pp ch : Nat) (pv : Value) (ms : List Ms) (m : Ms) (w : World) (h : PoIn w own c pp ch pv ms) (hl : ¬ ms.length < 40) :
    Calls Tryz.prog 81 #[.pointer (some ⟨pp, 0, none⟩), msV m] w fun e w' => e = .returned (.tuple #[]) ∧ PoOk w own c pp ch ms w' := by
  obtain ⟨wA, hwA⟩ : ∃ wA, wA = w.alloc (.cells (msC m) 162) := ⟨_, rfl⟩
  have HBA : Hid (Below w.heap.size w wA) := by rw [hwA]; exact (Below.refl _ _).alloc (Nat.le_refl _) _
  have HP : Hid (PoIn wA own c pp ch pv ms) := h.keep (fun b hb _ => HBA.out.block b hb) (Ext.refl _ _)
  have HPW : Hid (PoIn w own c pp ch pv ms) := h
  have c0 : wA.cell? ⟨pp, 0, none⟩ = some (.chan (some ch)) := HP.out.blk.cell 0
  clear h
  refine calls_of_wpN Tryz.func81 rfl ?_
  simp only [Tryz.ntmps81, List.size_toArray, List.length_cons, List.length_nil, Nat.reduceAdd, Nat.reduceSub, Array.replicate_succ, Array.replicate_zero, List.push_toArray, List.append_toArray, List.nil_append, List.cons_append]
  refine wpN_seq (wpN_of ?_)
  go_wp2_with fail
  change wpN _ _ _ _ (w.alloc (.cells (msC m) 162))
  rw [← hwA]
  clear hwA
  refine wpN_seq (wpN_of ?_)
  go_wp2_with fail
  obtain ⟨buf, sn, rn, hch, hbuf⟩ := HP.out.chn
  refine wpN_seq (wpN_region ?_)
  change wpR _ _ _ [0, 1, 2] _ _
  refine wpR_comm (i := 0) (cases := #[Go.Conc.scase ch (.agg #[]) (.agg #[])]) (blocking := false) (shape := .select) (w1 := wA) rfl rfl (by simp [go_sem, execOp, Go.Conc.scase, Act.eval]) (fun fr cs es hs => Go.Conc.step_lone_select_send_full hs hch (by omega)) ?_
  simp only [Act.put, List.getElem_toArray, List.getElem_cons_zero, List.setIfInBounds_toArray, List.set_cons_succ, List.set_cons_zero]
  refine wpR_value (i := 1) rfl rfl (v := .int .i64 (-1)) (w' := wA) (by simp [go_sem, execOp, Act.eval]) ?_
  simp only [Act.put, List.getElem_toArray, List.getElem_cons_zero, List.getElem_cons_succ, List.setIfInBounds_toArray, List.set_cons_succ, List.set_cons_zero]
  refine wpR_value (i := 2) rfl rfl (v := .bool false) (w' := wA) (by simp [go_sem, execOp, Act.eval]) ?_
  simp only [Act.put, List.getElem_toArray, List.getElem_cons_zero, List.getElem_cons_succ, List.setIfInBounds_toArray, List.set_cons_succ, List.set_cons_zero]
  refine wpR_end (wpN_of ?_)
  have HE : Hid (PoOk w own c pp ch ms wA) := ⟨newTo own w.heap.size 0, pv, newTo_ext _ _ _, HPW.out.below HBA.out, Tch.below HBA.out⟩
  clear HP HPW hch hbuf c0
  go_wp2
  go_end0
  exact ⟨rfl, HE.out⟩
theorem padd_any (own : Clr) (c pp ch : Nat) (pv : Value) (ms : List Ms) (m : Ms) (w : World) (h : PoIn w own c pp ch pv ms) :
    Calls Tryz.prog 81 #[.pointer (some ⟨pp, 0, none⟩), msV m] w fun e w' => e = .returned (.tuple #[]) ∧ PoOk w own c pp ch (addM ms m) w' := by
  unfold addM
  by_cases hl : ms.length < 40
  · rw [if_pos hl]; exact padd_room own c pp ch pv ms m w h hl
  · rw [if_neg hl]; exact padd_full own c pp ch pv ms m w h hl
set_option maxHeartbeats 800000 in
theorem psend_any (own : Clr) (c pp ch : Nat) (pv : Value) (ms : List Ms) (k f t : Int) (bs : List UInt8) (w : World) (h : PoIn w own c pp ch pv ms) :
    Calls Tryz.prog 74 #[.pointer (some ⟨pp, 0, none⟩), I k, I f, I t, .string ⟨bs.toArray⟩] w fun e w' => e = .returned (.tuple #[]) ∧ PoOk w own c pp ch (addM ms ⟨k, f, t, bs, false⟩) w' := by
  have HP : Hid (PoIn w own c pp ch pv ms) := h
  clear h
  go_enter Tryz.func74, Tryz.ntmps74
  go_wp2_with fail
  refine (padd_any own c pp ch pv ms ⟨k, f, t, bs, false⟩ w HP.out).mono ?_
  rintro e w1 ⟨rfl, h1⟩
  have HE : Hid (PoOk w own c pp ch (addM ms ⟨k, f, t, bs, false⟩) w1) := h1
  clear h1
  go_wp2
  go_end0
  exact ⟨rfl, HE.out⟩
/-- What is under way when a frame was sent to the first k replicas but one. -/
def sprA (ms : List Ms) (f : Nat) (fr : List UInt8) : Nat → List Ms
  | 0 => ms
  | k + 1 => if k = f then sprA ms f fr k else addM (sprA ms f fr k) ⟨1, f, k, fr, false⟩
set_option maxHeartbeats 1600000 in
theorem wspread_any (own : Clr) (s rg cc pp ch : Nat) (pv : Value) (prs : List Nat) (S : Sto) (f : Nat) (fr : List UInt8) (w w0 : World) (eb ef : Addr) (hen : Env w0 w own eb ef) (h : StIn w own s rg cc pp ch pv prs S) :
    Calls Tryz.prog 47 #[.pointer (some ⟨s, 0, none⟩), I f, .string ⟨fr.toArray⟩] w fun e w' => e = .returned (.tuple #[]) ∧ StOk w0 w own s { S with msgs := sprA S.msgs f fr S.reps.length } eb ef w' := by
  have HS : Hid (StOk w0 w own s { S with msgs := sprA S.msgs f fr 0 } eb ef w) := ⟨own, rg, cc, pp, ch, pv, prs, Ext.refl _ _, h, hen, Tch.refl _ _⟩
  have c0 : w.cell? ⟨s, 0, none⟩ = some (.slice (some ⟨rg, 0, none⟩) S.reps.length cc) := h.blk.cell 0
  have HM : Hid (S.reps.length ≤ 4) := h.most
  clear h hen
  go_enter Tryz.func47, Tryz.ntmps47
  go_wp2_with fail
  go_loopw [12] (fun x wX => ∃ k : Nat, k ≤ S.reps.length ∧ x = I k ∧ Hid (StOk w0 w own s { S with msgs := sprA S.msgs f fr k } eb ef wX)) (fun x _ => S.reps.length - (intOf x).toNat)
  case atStart => exact ⟨0, Nat.zero_le _, rfl, HS⟩
  case round =>
    obtain ⟨k, hk, rfl, HK⟩ := hrel
    clear HS c0
    have hk4 : k ≤ 4 := by have := HM.out; omega
    by_cases hlt : k < S.reps.length
    · obtain ⟨own', rg', cc', pp', ch', pv', prs', hE, hS, hen', hT⟩ := HK.out
      have HS' : Hid (StIn wr own' s rg' cc' pp' ch' pv' prs' { S with msgs := sprA S.msgs f fr k }) := hS
      have HEN' : Hid (Env w0 wr own' eb ef) := hen'
      have HE' : Hid (Ext own own' w.heap.size) := hE
      have HT' : Hid (Tch (fun k => 1 ≤ own k ∧ own k ≤ 100) w wr) := hT
      have c1 : wr.cell? ⟨s, 1, none⟩ = some (.pointer (some ⟨pp', 0, none⟩)) := hS.blk.cell 1
      have hki : (k : Int) < S.reps.length := by omega
      clear hE hS hen' hT
      by_cases hkf : k = f
      · have HN : Hid (StOk w0 w own s { S with msgs := sprA S.msgs f fr (k + 1) } eb ef wr) := by
          have e : sprA S.msgs f fr (k + 1) = sprA S.msgs f fr k := by rw [sprA, if_pos hkf]
          show StOk _ _ _ _ _ _ _ _
          rw [e]
          exact HK.out
        have hb : ((k : Int) != (f : Int)) = false := by rw [hkf]; simp
        have hb2 : ((k : Int) == (f : Int)) = true := by rw [hkf]; simp
        clear hkf HK
        go_wp2_with fail
        go_roundw
        case rel => exact ⟨k + 1, hlt, by go_num, HN⟩
        case measure => simp [intOf]; omega
      · have hb : ((k : Int) != (f : Int)) = true := by simp; omega
        have hb2 : ((k : Int) == (f : Int)) = false := by simp; omega
        have hkfi : ¬ (k : Int) = (f : Int) := by omega
        have HSE : Hid (sprA S.msgs f fr (k + 1) = addM (sprA S.msgs f fr k) ⟨1, f, k, fr, false⟩) := by show _ = _; rw [sprA, if_neg hkf]
        clear HK
        go_wp2_with fail
        refine (psend_any own' 100 pp' ch' pv' (sprA S.msgs f fr k) 1 f k fr wr HS'.out.post).mono ?_
        rintro e w2 ⟨rfl, h2⟩
        have HN : Hid (StOk w0 w own s { S with msgs := sprA S.msgs f fr (k + 1) } eb ef w2) := by
          show StOk _ _ _ _ _ _ _ _
          rw [HSE.out]
          exact StOk.from HE'.out HT'.out (StOk.po HS'.out HEN'.out h2)
        clear h2
        go_wp2_with fail
        go_roundw
        case rel => exact ⟨k + 1, hlt, by go_num, HN⟩
        case measure => simp [intOf]; omega
    · have hki : ¬ (k : Int) < S.reps.length := by omega
      have HN : Hid (StOk w0 w own s { S with msgs := sprA S.msgs f fr S.reps.length } eb ef wr) := by
        have : k = S.reps.length := by omega
        rw [this] at HK
        exact HK
      clear HK
      go_wp2
      go_end0
      exact ⟨rfl, HN.out⟩

end Go.Proofs.YtfmcngncaffloaaGreatDoor
