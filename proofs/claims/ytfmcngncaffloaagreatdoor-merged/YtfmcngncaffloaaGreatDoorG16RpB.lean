import Derived.Test.YtfmcngncaffloaaGreatDoorG13PoF
import Derived.Test.YtfmcngncaffloaaGreatDoorG14TbA
import Derived.Test.YtfmcngncaffloaaGreatDoorG15BkJ
import Derived.Deep.RegionHeldLaw
import Derived.Conc.SmallLaws
namespace Go.Proofs.YtfmcngncaffloaaGreatDoor
open Go.RowKit
set_option maxRecDepth 100000

/-- A message with those bits of a byte turned. -/
def spoilM (m : Ms) (at_ mask : Nat) : Ms := { m with bs := Wv.chg m.bs at_ (fun _ => UInt8.ofNat mask) 1, sp := true }
end Go.Proofs.YtfmcngncaffloaaGreatDoor

namespace Go.Proofs.YtfmcngncaffloaaGreatDoor
open Go.RowKit
set_option maxRecDepth 100000

theorem infoU : (Tryz.prog.info? 164).map (·.bytes) = some 0 := by kernel_rfl
theorem mkchan (w : World) : (Instr.makeChan 116 (.int .i64 40)).run Tryz.prog w = .ok (.chan (some w.heap.size)) (w.alloc (.chan 40 #[] false 0 0 false)) := by
  obtain ⟨i, hi, hb⟩ := Option.map_eq_some_iff.1 infoU
  simpa using Go.Conc.run_makeChan (P := Tryz.prog) (w := w) Tryz.underlying116 hi .i64 40 (by omega) (by rw [hb]; omega)
def PnewOk (w : World) (own : Clr) (c : Nat) (e : Ending) (w' : World) : Prop := ∃ pp ch own', e = .returned (.pointer (some ⟨pp, 0, none⟩)) ∧ Below w.heap.size w w' ∧ Ext own own' w.heap.size ∧ PoIn w' own' c pp ch (.slice none 0 0) []
set_option maxHeartbeats 800000 in
theorem pnew_any (own : Clr) (c : Nat) (w : World) :
    Calls Tryz.prog 37 #[] w fun e w' => PnewOk w own c e w' := by
  have hmc := fun W => mkchan W
  go_enter Tryz.func37, Tryz.ntmps37
  go_wp2
  go_ret
  refine ⟨_, w.heap.size, newTo own w.heap.size c, rfl, ((Below.refl _ _).alloc (Nat.le_refl _) _).alloc (by simp) _, newTo_ext _ _ _, ⟨?_, ⟨#[], 0, 0, ?_, rfl⟩, ⟨rfl, .inl ⟨rfl, rfl⟩⟩, newTo_new _ _ _ _ (by simp), newTo_new _ _ _ _ (Nat.le_refl _), fun g e => (by simp [Value.ownBlock] at e), by simp⟩⟩
  · have := heap_alloc_new (w.alloc (.chan 40 #[] false 0 0 false)) (.cells #[.chan (some w.heap.size), .slice none 0 0] 119)
    rw [World.size_alloc] at this
    exact this
  · rw [Below.heap_alloc _ _ _ (by simp)]
    exact (MapKept.heap_alloc w _).1

end Go.Proofs.YtfmcngncaffloaaGreatDoor

namespace Go.Proofs.YtfmcngncaffloaaGreatDoor
open Go.RowKit
set_option maxRecDepth 100000

/-- The clock of the replica at p. -/
structure ClkAt (w : World) (p cg cc : Nat) (cl : List Int) : Prop where
  cell : w.cell? ⟨p, 2, none⟩ = some (.slice (some ⟨cg, 0, none⟩) cl.length cc)
  row : ∀ j (hj : j < cl.length), w.cell? ⟨cg, j, none⟩ = some (I cl[j])
theorem ClkAt.kept {w w' : World} {p cg cc : Nat} {cl : List Int} (h : ClkAt w p cg cc cl) (hb : Below w.heap.size w w') : ClkAt w' p cg cc cl := ⟨cell_kept hb h.cell, fun j hj => cell_kept hb (h.row j hj)⟩
theorem ClkAt.tch {w w' : World} {F : Nat → Prop} {p cg cc : Nat} {cl : List Int} (h : ClkAt w p cg cc cl) (hT : Tch F w w') (hp : ¬ F p) (hc : ¬ F cg) : ClkAt w' p cg cc cl := ⟨hT.cell h.cell hp, fun j hj => hT.cell (h.row j hj) hc⟩

set_option maxHeartbeats 800000 in
theorem fits_any (p cg cc : Nat) (cl : List Int) (x : Bm) (w : World) (h : ClkAt w p cg cc cl) :
    Calls Tryz.prog 121 #[.pointer (some ⟨p, 0, none⟩), bmV x] w fun e w' => e = .returned (.bool (decide (x.b.clock.length = cl.length))) ∧ Below w.heap.size w w' := by
  have HE : Hid (Below w.heap.size w (w.alloc (.cells (bmC x) 124))) := (Below.refl _ _).alloc (Nat.le_refl _) _
  have c0 : (w.alloc (.cells (bmC x) 124)).cell? ⟨p, 2, none⟩ = some (.slice (some ⟨cg, 0, none⟩) cl.length cc) := cell_kept HE.out h.cell
  unfold bmC at c0
  have HQ : Hid (decide (x.b.clock.length = cl.length) = ((x.b.clock.length : Int) == (cl.length : Int))) := by
    show _ = _
    by_cases hq : x.b.clock.length = cl.length
    · rw [hq]; simp
    · have : ¬ (x.b.clock.length : Int) = cl.length := by omega
      simp [hq, this]
  clear h
  go_enter Tryz.func121, Tryz.ntmps121
  go_wp2_with fail
  go_quiet (fail)
  go_wp2
  go_ret
  exact ⟨by rw [HQ.out]; rfl, belowN HE.out nq⟩

/-- Is all that b builds on there, and is it the next of its Origin? -/
def dueB (cl : List Int) (b : Wv.Bt) : Bool := decide (b.clock.length = cl.length) && ((List.range b.clock.length).all fun j => decide (b.clock.getD j 0 ≤ cl.getD j 0)) && decide (b.s = cl.getD b.o.toNat 0 + 1)
theorem due_no (cl : List Int) (b : Wv.Bt) (h : ¬ b.clock.length = cl.length) : dueB cl b = false := by simp [dueB, h]
theorem due_less (cl : List Int) (b : Wv.Bt) (k : Nat) (hk : k < b.clock.length) (h : ¬ b.clock.getD k 0 ≤ cl.getD k 0) : dueB cl b = false := by
  unfold dueB
  have : ((List.range b.clock.length).all fun j => decide (b.clock.getD j 0 ≤ cl.getD j 0)) = false := by
    rw [List.all_eq_false]
    exact ⟨k, List.mem_range.2 hk, by simpa using h⟩
  rw [this]
  simp
theorem due_yes (cl : List Int) (b : Wv.Bt) (h : b.clock.length = cl.length) (ha : ∀ j, j < b.clock.length → b.clock.getD j 0 ≤ cl.getD j 0) : dueB cl b = decide (b.s = cl.getD b.o.toNat 0 + 1) := by
  unfold dueB
  have : ((List.range b.clock.length).all fun j => decide (b.clock.getD j 0 ≤ cl.getD j 0)) = true := by
    rw [List.all_eq_true]
    exact fun j hj => by simpa using ha j (List.mem_range.1 hj)
  rw [this, h]
  simp

set_option maxHeartbeats 800000 in
theorem isdue_any (p cg cc : Nat) (cl : List Int) (x : Bm) (w : World) (h : ClkAt w p cg cc cl) (hx : At w x.ca (x.b.clock.map I)) (h0 : 0 ≤ x.b.o) (h1 : x.b.o < x.b.clock.length) (hl : cl.length ≤ 1000) (hc : ∀ j, cl.getD j 0 ≤ 1000000) (hc2 : ∀ j, -1000000 ≤ cl.getD j 0) :
    Calls Tryz.prog 122 #[.pointer (some ⟨p, 0, none⟩), bmV x] w fun e w' => e = .returned (.bool (dueB cl x.b)) ∧ Below w.heap.size w w' := by
  obtain ⟨wA, hwA⟩ : ∃ wA, wA = w.alloc (.cells (bmC x) 124) := ⟨_, rfl⟩
  have HBA : Hid (Below w.heap.size w wA) := by rw [hwA]; exact (Below.refl _ _).alloc (Nat.le_refl _) _
  have HX : Hid (Blk wA w.heap.size (bmC x) 124) := by rw [hwA]; exact heap_alloc_new w _
  have HC : Hid (ClkAt w p cg cc cl) := h
  have HA : Hid (At w x.ca (x.b.clock.map I)) := hx
  clear h hx
  go_enter Tryz.func122, Tryz.ntmps122
  go_wp2_with fail
  rw [show w.alloc (.cells #[I x.b.o, I x.b.s, I x.b.t, .slice x.ca x.b.clock.length x.cc, .slice x.ea x.b.effs.length x.ec] 124) = wA from hwA.symm]
  clear hwA
  refine (fits_any p cg cc cl x wA (HC.out.kept HBA.out)).mono ?_
  rintro e w1 ⟨rfl, hb1⟩
  have HB1 : Hid (Below w.heap.size w w1) := HBA.out.trans (hb1.mono HBA.out.size)
  have HX1 : Hid (Blk w1 w.heap.size (bmC x) 124) := HX.out.kept hb1 HX.out.lt
  clear hb1 HBA HX
  have x0 : w1.cell? ⟨w.heap.size, 0, none⟩ = some (I x.b.o) := HX1.out.cell 0
  have x1 : w1.cell? ⟨w.heap.size, 1, none⟩ = some (I x.b.s) := HX1.out.cell 1
  have x3 : w1.cell? ⟨w.heap.size, 3, none⟩ = some (.slice x.ca x.b.clock.length x.cc) := HX1.out.cell 3
  by_cases hq : x.b.clock.length = cl.length
  · have HD : Hid ((∀ j, j < x.b.clock.length → x.b.clock.getD j 0 ≤ cl.getD j 0) → dueB cl x.b = decide (x.b.s = cl.getD x.b.o.toNat 0 + 1)) := fun h => due_yes cl x.b hq h
    have HD2 : Hid (∀ k, k < x.b.clock.length → cl.getD k 0 < x.b.clock.getD k 0 → dueB cl x.b = false) := fun k hk h => due_less cl x.b k hk (by omega)
    have hdec : decide (x.b.clock.length = cl.length) = true := by simp [hq]
    rw [hdec]
    have HQ : Hid (x.b.clock.length = cl.length) := hq
    clear hq hdec
    go_wp2_with fail
    go_loopw [14] (fun v wr => ∃ k : Nat, k ≤ x.b.clock.length ∧ v = I k ∧ Hid (∀ j, j < k → x.b.clock.getD j 0 ≤ cl.getD j 0) ∧ Hid (Below w.heap.size w wr) ∧ Hid (Blk wr w.heap.size (bmC x) 124)) (fun v _ => x.b.clock.length - (intOf v).toNat)
    case atStart => exact ⟨0, Nat.zero_le _, rfl, fun j h => absurd h (by omega), HB1, HX1⟩
    case round =>
      obtain ⟨k, hk, rfl, HN, HB, HX⟩ := hrel
      clear HB1 HX1 x0 x1 x3
      have HCr : Hid (ClkAt wr p cg cc cl) := HC.out.kept HB.out
      have c2 : wr.cell? ⟨p, 2, none⟩ = some (.slice (some ⟨cg, 0, none⟩) cl.length cc) := HCr.out.cell
      by_cases hlt : k < x.b.clock.length
      · obtain ⟨cb, co, hca, _, hcell⟩ := clock_at (HA.out.kept HB.out) hlt
        have hqk : k < cl.length := by rw [← HQ.out]; exact hlt
        have d0 : wr.cell? ⟨cg, k, none⟩ = some (I (cl.getD k 0)) := by
          rw [HCr.out.row k hqk]
          simp [hqk]
        have HDk : Hid (cl.getD k 0 < x.b.clock.getD k 0 → dueB cl x.b = false) := HD2.out k hlt
        have hki : (k : Int) < x.b.clock.length := by omega
        have hkj : (k : Int) < cl.length := by omega
        rw [hca]
        obtain ⟨nk, HNK⟩ : ∃ nk, Hid (x.b.clock.getD k 0 = nk) := ⟨_, rfl⟩
        obtain ⟨dk, HDK⟩ : ∃ dk, Hid (cl.getD k 0 = dk) := ⟨_, rfl⟩
        rw [HNK.out] at hcell HDk
        rw [HDK.out] at d0 HDk
        by_cases hgt : dk < nk
        · have HF : Hid (dueB cl x.b = false) := HDk.out hgt
          clear HDk
          go_wp2
          go_ret
          exact ⟨by rw [HF.out]; rfl, HB.out⟩
        · clear HDk
          go_wp2_with fail
          go_roundw
          case rel =>
            refine ⟨k + 1, hlt, by go_num, fun j hj => ?_, HB, HX⟩
            by_cases hjk : j = k
            · subst hjk; rw [HNK.out, HDK.out]; omega
            · exact HN.out j (by omega)
          case measure => simp [intOf]; omega
      · have HV : Hid (dueB cl x.b = decide (x.b.s = cl.getD x.b.o.toNat 0 + 1)) := HD.out (fun j hj => HN.out j (by omega))
        have x0 : wr.cell? ⟨w.heap.size, 0, none⟩ = some (I x.b.o) := HX.out.cell 0
        have x1 : wr.cell? ⟨w.heap.size, 1, none⟩ = some (I x.b.s) := HX.out.cell 1
        have hki : ¬ (k : Int) < x.b.clock.length := by omega
        have hox : x.b.o.toNat < cl.length := by rw [← HQ.out]; omega
        have hoi : x.b.o < (cl.length : Int) := by rw [← HQ.out]; exact h1
        have d0 : wr.cell? ⟨cg, x.b.o.toNat, none⟩ = some (I (cl.getD x.b.o.toNat 0)) := by
          rw [HCr.out.row _ hox]
          simp [hox]
        have hw1 : IntKind.i64.wrap (cl.getD x.b.o.toNat 0 + 1) = cl.getD x.b.o.toNat 0 + 1 := by have := hc x.b.o.toNat; have := hc2 x.b.o.toNat; rw [IntKind.wrap_i64]; omega
        obtain ⟨dk, HDK⟩ : ∃ dk, Hid (cl.getD x.b.o.toNat 0 = dk) := ⟨_, rfl⟩
        rw [HDK.out] at d0 hw1 HV
        clear hc hc2 HD HD2 HN hlt h1
        go_wp2_with fail
        go_quiet (fail)
        go_wp2
        go_ret
        exact ⟨by rw [HV.out]; rfl, belowN HB.out nq⟩
  · have HD : Hid (dueB cl x.b = false) := due_no cl x.b hq
    have hdec : decide (x.b.clock.length = cl.length) = false := by simp [hq]
    rw [hdec]
    clear hq hdec
    go_wp2
    go_ret
    exact ⟨by rw [HD.out]; rfl, HB1.out⟩

end Go.Proofs.YtfmcngncaffloaaGreatDoor

namespace Go.Proofs.YtfmcngncaffloaaGreatDoor
open Go.RowKit
set_option maxRecDepth 100000

theorem mem_swapP {α : Type} (bs : List α) (i j : Nat) (m : α) (h : m ∈ swapP bs i j) : m ∈ bs := by
  unfold swapP at h
  split at h
  · rename_i x y hx hy
    rcases List.mem_or_eq_of_mem_set h with h | h
    · rcases List.mem_or_eq_of_mem_set h with h | h
      · exact h
      · rw [h]; exact List.mem_of_getElem? hy
    · rw [h]; exact List.mem_of_getElem? hx
  · exact h
theorem mem_sinkP {α : Type} (less : α → α → Bool) (bs : List α) (i : Nat) (m : α) (h : m ∈ sinkP less bs i) : m ∈ bs := by
  induction hn : bs.length - i using Nat.strongRecOn generalizing bs i with
  | _ n ih =>
    rw [sinkP] at h
    split at h
    · rename_i hq
      have h1 := leastP_ge less bs i
      have h2 := leastP_lt less bs i hq.2
      have h3 := hq.1
      exact mem_swapP bs i _ m (ih (bs.length - leastP less bs i) (by omega) (swapP bs i (leastP less bs i)) (leastP less bs i) h (by rw [swapP_len]))
    · exact h
theorem mem_popR {α : Type} (less : α → α → Bool) (bs : List α) (m : α) (h : m ∈ (popR less bs).1.toList ++ (popR less bs).2) : m ∈ bs := by
  unfold popR at h
  cases bs with
  | nil => simp [popP] at h
  | cons x l =>
    simp only [popP, Option.toList_some, List.singleton_append, List.mem_cons] at h
    rcases h with rfl | h
    · simp
    · have h := mem_sinkP less _ _ m h
      have h := List.mem_of_mem_take h
      rcases List.mem_or_eq_of_mem_set h with h | h
      · exact h
      · rw [h]; exact List.getElem_mem _

set_option maxHeartbeats 800000 in
theorem htake_due (hp : Nat) (v : Value) (bs : List Bm) (p cg cc : Nat) (cl : List Int) (w : World) (h : HpIn w hp v bs) (hl : bs.length ≤ 1000) (hb : ClkAt w p cg cc cl) (hg1 : p ≠ hp ∧ ¬ v.ownBlock = some p) (hg2 : cg ≠ hp ∧ ¬ v.ownBlock = some cg) (hcl : cl.length ≤ 1000) (hc1 : ∀ j, cl.getD j 0 ≤ 1000000) (hc2 : ∀ j, -1000000 ≤ cl.getD j 0) (hA : ∀ w', Tch (fun k => k = hp ∨ v.ownBlock = some k) w w' → ∀ x ∈ bs, At w' x.ca (x.b.clock.map I) ∧ 0 ≤ x.b.o ∧ x.b.o < x.b.clock.length) :
    Calls Tryz.prog 117 #[.pointer (some ⟨hp, 0, none⟩), .func (.func 122) #[.pointer (some ⟨p, 0, none⟩)] #[]] w fun e w' => TakeHp w hp v (takeP lessM (fun m => dueB cl m.b) bs) e w' := by
  have HP : Hid (HpIn w hp v bs) := h
  have HG : Hid (ClkAt w p cg cc cl) := hb
  have HAA : Hid (∀ w', Tch (fun k => k = hp ∨ v.ownBlock = some k) w w' → ∀ x ∈ bs, At w' x.ca (x.b.clock.map I) ∧ 0 ≤ x.b.o ∧ x.b.o < x.b.clock.length) := hA
  clear h hb hA
  go_enter Tryz.func117, Tryz.ntmps117
  go_wp2_with fail
  obtain ⟨w0, hw0⟩ : ∃ w0, w0 = w.alloc (.cells zB 124) := ⟨_, rfl⟩
  have HB0 : Hid (Below w.heap.size w w0) := by rw [hw0]; exact (Below.refl _ _).alloc (Nat.le_refl _) _
  have HR0 : Hid (Blk w0 w.heap.size zB 124) := by rw [hw0]; exact heap_alloc_new w _
  rw [show w.alloc (.cells #[.int .i64 0, .int .i64 0, .int .i64 0, .slice none 0 0, .slice none 0 0] 124) = w0 from hw0.symm]
  clear hw0
  refine (hpop_u hp v bs w0 (HP.out.kept HB0.out) (by omega)).mono ?_
  rintro e w1 ⟨rfl, v1, hp1, hT1, hv1⟩
  have HVB : Hid (∀ k, v.ownBlock = some k → k < w.heap.size) := fun k hk => (HP.out.row.lt k hk).2
  have hpw : hp < w.heap.size := HP.out.blk.lt
  have hs1 : w.heap.size < w1.heap.size := by have := hT1.size; have := HR0.out.lt; omega
  have HTF : Hid (takeP lessM (fun m => dueB cl m.b) bs = finP lessM (fun m => dueB cl m.b) bs.length (popR lessM bs).1 (popR lessM bs).2 []) := take_fin _ _ _
  have HM0 : Hid (∀ m, m ∈ (popR lessM bs).1.toList ++ (popR lessM bs).2 → m ∈ bs) := fun m h => mem_popR _ _ m h
  have HLE : Hid ((popR lessM bs).2.length + (popR lessM bs).1.toList.length ≤ bs.length) := popR_len _ _
  go_wp2_with fail
  generalize (popR lessM bs).2 = l0 at *
  generalize (popR lessM bs).1 = r0 at *
  have HK : Hid (Tk1 w (w1.alloc (.cells (bmC (r0.getD bmZ)) 124)) hp v v1 w1.heap.size (.slice none 0 0) (r0.getD bmZ) l0 []) := by
    have hTw : Tch (fun k => k = hp ∨ v.ownBlock = some k) w w1 := (Tch.below HB0.out).trans hT1 (fun _ _ h => h) (fun _ _ h => h)
    refine ⟨hp1.kept ((Below.refl _ _).alloc (Nat.le_refl _) _), fun b e => Or.inl (by rw [← hv1]; exact e), ⟨?_, ?_, fun b e => by simp [Value.ownBlock] at e⟩, ⟨rfl, .inl ⟨rfl, rfl⟩⟩, heap_alloc_new w1 _, ?_, hTw.alloc _, ⟨by simp [Value.ownBlock], by simp [Value.ownBlock]⟩, hs1, hpw⟩
    · intro e; rw [hv1] at e; have := HVB.out _ e; omega
    · intro e; rw [hv1] at e; have := HVB.out _ e; omega
    · exact (hT1.blk HR0.out (by rintro (h | h); omega; have := HVB.out _ h; omega)).alloc _
  clear hp1 hT1 hv1 HB0 HR0 HP
  obtain ⟨wS, hwS⟩ : ∃ wS, wS = w1.alloc (.cells (bmC (r0.getD bmZ)) 124) := ⟨_, rfl⟩
  obtain ⟨ib, hib⟩ : ∃ ib, ib = w1.heap.size := ⟨_, rfl⟩
  change Code.wp _ _ _ _ (w1.alloc (.cells (bmC (r0.getD bmZ)) 124))
  rw [← hwS, ← hib] at HK
  rw [← hwS, ← hib]
  clear hwS hib hs1
  go_loopw [6, 8] (fun v6 v8 wr => ∃ (n : Nat) (r : Option Bm) (l os : List Bm) (oa : Option Addr) (oc : Nat) (v' : Value), v6 = .slice oa os.length oc ∧ v8 = .bool r.isSome ∧ os.length + n = bs.length ∧ l.length + r.toList.length ≤ n ∧ Hid (∀ m, m ∈ r.toList ++ l → m ∈ bs) ∧ Hid (takeP lessM (fun m => dueB cl m.b) bs = finP lessM (fun m => dueB cl m.b) n r l os) ∧ Hid (Tk1 w wr hp v v' ib (.slice oa os.length oc) (r.getD bmZ) l os)) (fun v6 _ _ => match v6 with | .slice _ k _ => bs.length + 1 - k | _ => 0)
  case atStart => exact ⟨bs.length, r0, l0, [], none, 0, v1, rfl, rfl, by simp, HLE.out, HM0, HTF, HK⟩
  case round =>
    obtain ⟨n, r, l, os, oa, oc, v', rfl, rfl, hn, hln, HMEM, HF, HKr⟩ := hrel
    clear HK HTF HLE HM0
    cases r with
    | none =>
      have HKT := HKr
      have HFT : Hid (takeP lessM (fun m => dueB cl m.b) bs = backP lessM (none, l, os)) := HF.out
      clear HKr HF
      go_wp2_with fail
      go_loopw [34] (fun v34 wX => ∃ (k : Nat) (v2 : Value), k ≤ os.length ∧ v34 = I k ∧ Hid (Tk1 w wX hp v v2 ib (.slice oa os.length oc) bmZ ((os.take k).foldl (pushP lessM) l) os)) (fun v34 _ => os.length - (intOf v34).toNat)
      case atStart => exact ⟨0, v', Nat.zero_le _, rfl, HKT⟩
      case round =>
        obtain ⟨k, v2, hk, rfl, HKq⟩ := hrel
        clear HKT
        by_cases hlt : k < os.length
        · obtain ⟨go, rfl⟩ : ∃ go, oa = some ⟨go, 0, none⟩ := by
            rcases HKq.out.row.2 with ⟨_, hz⟩ | ⟨g, cap, cur, e, _⟩
            · omega
            · cases e; exact ⟨g, rfl⟩
          obtain ⟨e0, e1, e2, e3, e4⟩ := bats_of HKq.out.row k hlt
          have HNX : Hid ((os.take (k + 1)).foldl (pushP lessM) l = pushP lessM ((os.take k).foldl (pushP lessM) l) os[k]) := by
            show _ = _
            rw [List.take_succ_eq_append_getElem hlt, List.foldl_append]
            rfl
          have HLN : Hid (((os.take k).foldl (pushP lessM) l).length ≤ 1000000) := by
            show _ ≤ _
            rw [pushAll_len, List.length_take]
            omega
          have hki : (k : Int) < os.length := by omega
          generalize os[k] = z at *
          go_wp2_with fail
          have HKa : Hid (Tk1 w (wr.alloc (.cells (bmC z) 124)) hp v v2 ib (.slice (some ⟨go, 0, none⟩) os.length oc) bmZ ((os.take k).foldl (pushP lessM) l) os) := HKq.out.kept ((Below.refl _ _).alloc (Nat.le_refl _) _)
          refine (hpush_any hp v2 ((os.take k).foldl (pushP lessM) l) z (wr.alloc (.cells (bmC z) 124)) HKa.out.hpx HLN.out).mono ?_
          rintro e w5 ⟨rfl, v3, hp3, hT3, hv3⟩
          have HK5 : Hid (Tk1 w w5 hp v v3 ib (.slice (some ⟨go, 0, none⟩) os.length oc) bmZ ((os.take (k + 1)).foldl (pushP lessM) l) os) := by
            show Tk1 _ _ _ _ _ _ _ _ _ _
            rw [HNX.out]
            exact HKa.out.step hp3 hT3 hv3
          clear hp3 hT3 hv3 HKa HKq e0 e1 e2 e3 e4 HNX
          go_wp2_with fail
          go_roundw
          case rel => exact ⟨k + 1, v3, hlt, by go_num, HK5⟩
          case measure => simp [intOf]; omega
        · have HT9 : Hid (Tk1 w wr hp v v2 ib (.slice oa os.length oc) bmZ (os.foldl (pushP lessM) l) os) := by
            have := HKq.out
            rw [List.take_of_length_le (by omega)] at this
            exact this
          have hki : ¬ (k : Int) < os.length := by omega
          clear HKq
          have x0 : wr.cell? ⟨ib, 0, none⟩ = some (I (bmZ).b.o) := HT9.out.item.cell 0
          have x1 : wr.cell? ⟨ib, 1, none⟩ = some (I (bmZ).b.s) := HT9.out.item.cell 1
          have x2 : wr.cell? ⟨ib, 2, none⟩ = some (I (bmZ).b.t) := HT9.out.item.cell 2
          have x3 : wr.cell? ⟨ib, 3, none⟩ = some (.slice (bmZ).ca (bmZ).b.clock.length (bmZ).cc) := HT9.out.item.cell 3
          have x4 : wr.cell? ⟨ib, 4, none⟩ = some (.slice (bmZ).ea (bmZ).b.effs.length (bmZ).ec) := HT9.out.item.cell 4
          have r0 : wr.cell? ⟨w.heap.size, 0, none⟩ = some (.int .i64 0) := HT9.out.ans.cell 0
          have r1 : wr.cell? ⟨w.heap.size, 1, none⟩ = some (.int .i64 0) := HT9.out.ans.cell 1
          have r2 : wr.cell? ⟨w.heap.size, 2, none⟩ = some (.int .i64 0) := HT9.out.ans.cell 2
          have r3 : wr.cell? ⟨w.heap.size, 3, none⟩ = some (.slice none 0 0) := HT9.out.ans.cell 3
          have r4 : wr.cell? ⟨w.heap.size, 4, none⟩ = some (.slice none 0 0) := HT9.out.ans.cell 4
          have z0 := HT9.out.ans.frozen 0
          have z1 := HT9.out.ans.frozen 1
          have z2 := HT9.out.ans.frozen 2
          have z3 := HT9.out.ans.frozen 3
          have z4 := HT9.out.ans.frozen 4
          go_wp2_with fail
          obtain ⟨wF, hwF⟩ : ∃ wF, wF = put5b wr w.heap.size 0 bmZ := ⟨_, rfl⟩
          have HOK : Hid (HpOk w hp v (os.foldl (pushP lessM) l) wF) := (HT9.out.done hwF).1
          have HBF : Hid (Blk wF w.heap.size (bmC bmZ) 124) := (HT9.out.done hwF).2
          change bodyPost _ _ _ Exit.ret _ (put5b wr w.heap.size 0 bmZ)
          rw [← hwF]
          clear hwF HT9 x0 x1 x2 x3 x4 r0 r1 r2 r3 r4 z0 z1 z2 z3 z4
          have f0 : wF.cell? ⟨w.heap.size, 0, none⟩ = some (I (bmZ).b.o) := HBF.out.cell 0
          have f1 : wF.cell? ⟨w.heap.size, 1, none⟩ = some (I (bmZ).b.s) := HBF.out.cell 1
          have f2 : wF.cell? ⟨w.heap.size, 2, none⟩ = some (I (bmZ).b.t) := HBF.out.cell 2
          have f3 : wF.cell? ⟨w.heap.size, 3, none⟩ = some (.slice (bmZ).ca (bmZ).b.clock.length (bmZ).cc) := HBF.out.cell 3
          have f4 : wF.cell? ⟨w.heap.size, 4, none⟩ = some (.slice (bmZ).ea (bmZ).b.effs.length (bmZ).ec) := HBF.out.cell 4
          refine bodyPost_ret (v := .tuple #[bmV bmZ, .bool false]) (by simp [results, Tryz.results117, go_sem, f0, f1, f2, f3, f4]) rfl ?_
          rw [HFT.out]
          exact ⟨rfl, HOK.out⟩
    | some x =>
      have i0 : wr.cell? ⟨ib, 0, none⟩ = some (I x.b.o) := HKr.out.item.cell 0
      have i1 : wr.cell? ⟨ib, 1, none⟩ = some (I x.b.s) := HKr.out.item.cell 1
      have i2 : wr.cell? ⟨ib, 2, none⟩ = some (I x.b.t) := HKr.out.item.cell 2
      have i3 : wr.cell? ⟨ib, 3, none⟩ = some (.slice x.ca x.b.clock.length x.cc) := HKr.out.item.cell 3
      have i4 : wr.cell? ⟨ib, 4, none⟩ = some (.slice x.ea x.b.effs.length x.ec) := HKr.out.item.cell 4
      go_wp2_with fail
      have hax := HAA.out wr HKr.out.tch x (HMEM.out x (by simp))
      refine (isdue_any p cg cc cl x wr (HG.out.tch HKr.out.tch (by rintro (h | h); exact hg1.1 h; exact hg1.2 h) (by rintro (h | h); exact hg2.1 h; exact hg2.2 h)) hax.1 hax.2.1 hax.2.2 hcl hc1 hc2).mono ?_
      rintro e w2 ⟨rfl, hb2⟩
      have HK2 : Hid (Tk1 w w2 hp v v' ib (.slice oa os.length oc) x l os) := HKr.out.kept hb2
      have HF2 : Hid (takeP lessM (fun m => dueB cl m.b) bs = if dueB cl x.b then backP lessM (some x, l, os) else backP lessM (popAll lessM (fun m => dueB cl m.b) n l (os ++ [x]))) := HF.out
      clear HKr HF hb2 i0 i1 i2 i3 i4
      generalize dueB cl x.b = bl at *
      cases bl
      · have HFN : Hid (takeP lessM (fun m => dueB cl m.b) bs = backP lessM (popAll lessM (fun m => dueB cl m.b) n l (os ++ [x]))) := HF2.out
        clear HF2
        have i0 : w2.cell? ⟨ib, 0, none⟩ = some (I x.b.o) := HK2.out.item.cell 0
        have i1 : w2.cell? ⟨ib, 1, none⟩ = some (I x.b.s) := HK2.out.item.cell 1
        have i2 : w2.cell? ⟨ib, 2, none⟩ = some (I x.b.t) := HK2.out.item.cell 2
        have i3 : w2.cell? ⟨ib, 3, none⟩ = some (.slice x.ca x.b.clock.length x.cc) := HK2.out.item.cell 3
        have i4 : w2.cell? ⟨ib, 4, none⟩ = some (.slice x.ea x.b.effs.length x.ec) := HK2.out.item.cell 4
        obtain ⟨ii, HI⟩ : ∃ i, Hid (Tryz.prog.info? 124 = some i ∧ i.zero = some (.agg #[.int .i64 0, .int .i64 0, .int .i64 0, .slice none 0 0, .slice none 0 0]) ∧ i.size = 5 ∧ i.bytes = 72) := by obtain ⟨i, h⟩ := info_parts infoBt; exact ⟨i, h⟩
        have hone : ∀ u ∈ x.cells, u.oneCell' = true := by have := bm_one [x]; simpa [flat] using this
        have HRW : Hid ((w2.alloc (.cells (bmC x) 124)).ownsRow w.heap.size 124 5 (.slice oa os.length oc) os.length (flat Bm.cells os)) := HK2.out.row.alloc _
        have HLT : Hid (∀ j u, (x.cells)[j]? = some u → (w2.alloc (.cells (bmC x) 124)).cell? ((⟨w2.heap.size, 0, none⟩ : Addr).add j) = some u) := lit_any w2 x.cells _
        have hsz2 : w.heap.size ≤ (w2.alloc (.cells (bmC x) 124)).heap.size := by have := HK2.out.tch.size; simp; omega
        have HSZ2 : Hid (w.heap.size ≤ (w2.alloc (.cells (bmC x) 124)).heap.size) := hsz2
        clear hsz2
        have n1 : os.length + 1 ≤ maxLen := by unfold maxLen; omega
        have n2 : (os.length + 1) * 72 ≤ 140737488355328 := by omega
        go_wp2_with (first | (at_builtin; refine wpList_append_own_at _ rfl _ _ _ rfl w.heap.size 124 ii (.agg #[.int .i64 0, .int .i64 0, .int .i64 0, .slice none 0 0, .slice none 0 0]) 5 72 Tryz.underlying108 HI.out.1 HI.out.2.1 HI.out.2.2.1 HI.out.2.2.2 rfl (by decide) (.slice oa os.length oc) os.length (flat Bm.cells os) rfl HRW.out ⟨w2.heap.size, 0, none⟩ 1 1 x.cells rfl rfl HLT.out hone n1 n2 HSZ2.out ?_; intro ov3 w3 hown3 hgrow3 hnil3 hat3))
        have hln' : l.length + 1 ≤ n := by simpa using hln
        obtain ⟨n', rfl⟩ : ∃ n', n = n' + 1 := ⟨n - 1, by omega⟩
        have hsn : (os ++ [x]).length = os.length + 1 := by simp
        obtain ⟨og, oc3, rfl⟩ : ∃ g c, ov3 = .slice (some ⟨g, 0, none⟩) (os ++ [x]).length c := by
          rcases hown3.2 with ⟨_, hz⟩ | ⟨g, cap, cur, e, _⟩
          · omega
          · exact ⟨g, cap, by rw [hsn]; exact e⟩
        have HK3 : Hid (Tk1 w w3 hp v v' ib (.slice (some ⟨og, 0, none⟩) (os ++ [x]).length oc3) x l (os ++ [x])) := by
          refine (HK2.out.kept ((Below.refl _ _).alloc (Nat.le_refl _) (.cells (bmC x) 124))).pass ?_ (Tch.grown hgrow3) (fun b e => ?_)
          · rw [hsn, flat_snoc5]
            rw [hsn] at hown3
            exact hown3
          · rcases hat3 with h | h
            · rw [e] at h; exact Or.inl h.symm
            · rw [e] at h; cases h; exact Or.inr (Nat.le_refl _)
        have HFP : Hid (takeP lessM (fun m => dueB cl m.b) bs = finP lessM (fun m => dueB cl m.b) n' (popR lessM l).1 (popR lessM l).2 (os ++ [x])) := by
          show _ = _
          rw [HFN.out, fin_pop]
        have HMP : Hid (∀ m, m ∈ (popR lessM l).1.toList ++ (popR lessM l).2 → m ∈ bs) := fun m h => HMEM.out m (List.mem_append_right _ (mem_popR _ _ m h))
        have HLP : Hid ((popR lessM l).2.length + (popR lessM l).1.toList.length ≤ l.length) := popR_len _ _
        clear hown3 hgrow3 hnil3 hat3 HK2 HFN HRW HLT HSZ2 i0 i1 i2 i3 i4 HI hone n1 n2
        refine (hpop_u hp v' l w3 HK3.out.hpx (by omega)).mono ?_
        rintro e w4 ⟨rfl, v4, hp4, hT4, hv4⟩
        have HK4 : Hid (Tk1 w w4 hp v v4 ib (.slice (some ⟨og, 0, none⟩) (os ++ [x]).length oc3) x (popR lessM l).2 (os ++ [x])) := HK3.out.step hp4 hT4 (fun b e => Or.inl (by rw [← hv4]; exact e))
        clear hp4 hT4 hv4 HK3
        generalize (popR lessM l).2 = l4 at *
        generalize (popR lessM l).1 = r4 at *
        have i0 : w4.cell? ⟨ib, 0, none⟩ = some (I x.b.o) := HK4.out.item.cell 0
        have i1 : w4.cell? ⟨ib, 1, none⟩ = some (I x.b.s) := HK4.out.item.cell 1
        have i2 : w4.cell? ⟨ib, 2, none⟩ = some (I x.b.t) := HK4.out.item.cell 2
        have i3 : w4.cell? ⟨ib, 3, none⟩ = some (.slice x.ca x.b.clock.length x.cc) := HK4.out.item.cell 3
        have i4 : w4.cell? ⟨ib, 4, none⟩ = some (.slice x.ea x.b.effs.length x.ec) := HK4.out.item.cell 4
        have z0 := HK4.out.item.frozen 0
        have z1 := HK4.out.item.frozen 1
        have z2 := HK4.out.item.frozen 2
        have z3 := HK4.out.item.frozen 3
        have z4 := HK4.out.item.frozen 4
        have HK5 : Hid (Tk1 w (put5b w4 ib 0 (r4.getD bmZ)) hp v v4 ib (.slice (some ⟨og, 0, none⟩) (os ++ [x]).length oc3) (r4.getD bmZ) l4 (os ++ [x])) := HK4.out.setItem rfl
        clear HK4
        go_wp2_with fail
        go_roundw
        case rel => exact ⟨n', r4, l4, os ++ [x], some ⟨og, 0, none⟩, oc3, v4, by rw [hsn], rfl, by omega, Nat.le_trans HLP.out (by omega), HMP, HFP, HK5⟩
        case measure => simp; omega
      · have HKT := HK2
        have HFT : Hid (takeP lessM (fun m => dueB cl m.b) bs = backP lessM (some x, l, os)) := HF2.out
        clear HK2 HF2
        go_wp2_with fail
        go_loopw [34] (fun v34 wX => ∃ (k : Nat) (v2 : Value), k ≤ os.length ∧ v34 = I k ∧ Hid (Tk1 w wX hp v v2 ib (.slice oa os.length oc) x ((os.take k).foldl (pushP lessM) l) os)) (fun v34 _ => os.length - (intOf v34).toNat)
        case atStart => exact ⟨0, v', Nat.zero_le _, rfl, HKT⟩
        case round =>
          obtain ⟨k, v2, hk, rfl, HKq⟩ := hrel
          clear HKT
          by_cases hlt : k < os.length
          · obtain ⟨go, rfl⟩ : ∃ go, oa = some ⟨go, 0, none⟩ := by
              rcases HKq.out.row.2 with ⟨_, hz⟩ | ⟨g, cap, cur, e, _⟩
              · omega
              · cases e; exact ⟨g, rfl⟩
            obtain ⟨e0, e1, e2, e3, e4⟩ := bats_of HKq.out.row k hlt
            have HNX : Hid ((os.take (k + 1)).foldl (pushP lessM) l = pushP lessM ((os.take k).foldl (pushP lessM) l) os[k]) := by
              show _ = _
              rw [List.take_succ_eq_append_getElem hlt, List.foldl_append]
              rfl
            have HLN : Hid (((os.take k).foldl (pushP lessM) l).length ≤ 1000000) := by
              show _ ≤ _
              rw [pushAll_len, List.length_take]
              omega
            have hki : (k : Int) < os.length := by omega
            generalize os[k] = z at *
            go_wp2_with fail
            have HKa : Hid (Tk1 w (wr.alloc (.cells (bmC z) 124)) hp v v2 ib (.slice (some ⟨go, 0, none⟩) os.length oc) x ((os.take k).foldl (pushP lessM) l) os) := HKq.out.kept ((Below.refl _ _).alloc (Nat.le_refl _) _)
            refine (hpush_any hp v2 ((os.take k).foldl (pushP lessM) l) z (wr.alloc (.cells (bmC z) 124)) HKa.out.hpx HLN.out).mono ?_
            rintro e w5 ⟨rfl, v3, hp3, hT3, hv3⟩
            have HK5 : Hid (Tk1 w w5 hp v v3 ib (.slice (some ⟨go, 0, none⟩) os.length oc) x ((os.take (k + 1)).foldl (pushP lessM) l) os) := by
              show Tk1 _ _ _ _ _ _ _ _ _ _
              rw [HNX.out]
              exact HKa.out.step hp3 hT3 hv3
            clear hp3 hT3 hv3 HKa HKq e0 e1 e2 e3 e4 HNX
            go_wp2_with fail
            go_roundw
            case rel => exact ⟨k + 1, v3, hlt, by go_num, HK5⟩
            case measure => simp [intOf]; omega
          · have HT9 : Hid (Tk1 w wr hp v v2 ib (.slice oa os.length oc) x (os.foldl (pushP lessM) l) os) := by
              have := HKq.out
              rw [List.take_of_length_le (by omega)] at this
              exact this
            have hki : ¬ (k : Int) < os.length := by omega
            clear HKq
            have x0 : wr.cell? ⟨ib, 0, none⟩ = some (I (x).b.o) := HT9.out.item.cell 0
            have x1 : wr.cell? ⟨ib, 1, none⟩ = some (I (x).b.s) := HT9.out.item.cell 1
            have x2 : wr.cell? ⟨ib, 2, none⟩ = some (I (x).b.t) := HT9.out.item.cell 2
            have x3 : wr.cell? ⟨ib, 3, none⟩ = some (.slice (x).ca (x).b.clock.length (x).cc) := HT9.out.item.cell 3
            have x4 : wr.cell? ⟨ib, 4, none⟩ = some (.slice (x).ea (x).b.effs.length (x).ec) := HT9.out.item.cell 4
            have r0 : wr.cell? ⟨w.heap.size, 0, none⟩ = some (.int .i64 0) := HT9.out.ans.cell 0
            have r1 : wr.cell? ⟨w.heap.size, 1, none⟩ = some (.int .i64 0) := HT9.out.ans.cell 1
            have r2 : wr.cell? ⟨w.heap.size, 2, none⟩ = some (.int .i64 0) := HT9.out.ans.cell 2
            have r3 : wr.cell? ⟨w.heap.size, 3, none⟩ = some (.slice none 0 0) := HT9.out.ans.cell 3
            have r4 : wr.cell? ⟨w.heap.size, 4, none⟩ = some (.slice none 0 0) := HT9.out.ans.cell 4
            have z0 := HT9.out.ans.frozen 0
            have z1 := HT9.out.ans.frozen 1
            have z2 := HT9.out.ans.frozen 2
            have z3 := HT9.out.ans.frozen 3
            have z4 := HT9.out.ans.frozen 4
            go_wp2_with fail
            obtain ⟨wF, hwF⟩ : ∃ wF, wF = put5b wr w.heap.size 0 x := ⟨_, rfl⟩
            have HOK : Hid (HpOk w hp v (os.foldl (pushP lessM) l) wF) := (HT9.out.done hwF).1
            have HBF : Hid (Blk wF w.heap.size (bmC x) 124) := (HT9.out.done hwF).2
            change bodyPost _ _ _ Exit.ret _ (put5b wr w.heap.size 0 x)
            rw [← hwF]
            clear hwF HT9 x0 x1 x2 x3 x4 r0 r1 r2 r3 r4 z0 z1 z2 z3 z4
            have f0 : wF.cell? ⟨w.heap.size, 0, none⟩ = some (I (x).b.o) := HBF.out.cell 0
            have f1 : wF.cell? ⟨w.heap.size, 1, none⟩ = some (I (x).b.s) := HBF.out.cell 1
            have f2 : wF.cell? ⟨w.heap.size, 2, none⟩ = some (I (x).b.t) := HBF.out.cell 2
            have f3 : wF.cell? ⟨w.heap.size, 3, none⟩ = some (.slice (x).ca (x).b.clock.length (x).cc) := HBF.out.cell 3
            have f4 : wF.cell? ⟨w.heap.size, 4, none⟩ = some (.slice (x).ea (x).b.effs.length (x).ec) := HBF.out.cell 4
            refine bodyPost_ret (v := .tuple #[bmV x, .bool true]) (by simp [results, Tryz.results117, go_sem, f0, f1, f2, f3, f4]) rfl ?_
            rw [HFT.out]
            exact ⟨rfl, HOK.out⟩


end Go.Proofs.YtfmcngncaffloaaGreatDoor
