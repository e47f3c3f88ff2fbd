import Derived.Test.YtfmcngncaffloaaDoorTkA
namespace Go.Proofs.YtfmcngncaffloaaDoor
open Go.RowKit
set_option maxRecDepth 100000

set_option maxHeartbeats 1600000 in
theorem teff_plain (c : List UInt8) (q : Wv.St) (g : Nat) (w : World) (h : Tk w g c q) (hc : c.length ≤ 1048576) (ho : ¬ Wv.one c q = 3 ∧ ¬ Wv.one c q = 4 ∧ ¬ Wv.one c q = 5 ∧ ¬ Wv.one c q = 6) :
    Calls Tryd.prog 29 #[.pointer (some ⟨g, 0, none⟩)] w fun e w' => ∃ m : Em, e = .returned (effV m) ∧ m.e = (Wv.effF false c q).1 ∧ w'.ownsRow w.heap.size 40 3 m.dv m.e.dots.length (flat dotCells m.e.dots) ∧ Tk w' g c (Wv.effF false c q).2 ∧ w.grownBy w' (some g) := by
  have hlt := h.lt
  have hne : g ≠ w.heap.size := by omega
  have HA1 : Hid (Tk (w.alloc (.cells #[.int .i64 0, .int .i64 0, .int .i64 0, .int .i64 0, .int .i64 0, .int .i64 0, .slice none 0 0] 43)) g c q) := h.alloc _
  have HA3 : Hid (Blk (w.alloc (.cells #[.int .i64 0, .int .i64 0, .int .i64 0, .int .i64 0, .int .i64 0, .int .i64 0, .slice none 0 0] 43)) w.heap.size #[.int .i64 0, .int .i64 0, .int .i64 0, .int .i64 0, .int .i64 0, .int .i64 0, .slice none 0 0] 43) := heap_alloc_new w _
  have HA4 : Hid (w.grownBy (w.alloc (.cells #[.int .i64 0, .int .i64 0, .int .i64 0, .int .i64 0, .int .i64 0, .int .i64 0, .slice none 0 0] 43)) (some g)) := grown_new (grown_refl _ _)
  clear h
  go_enter Tryd.func29, Tryd.ntmps29
  go_wp2_with fail
  generalize w.alloc (.cells #[.int .i64 0, .int .i64 0, .int .i64 0, .int .i64 0, .int .i64 0, .int .i64 0, .slice none 0 0] 43) = wA at *
  refine (take1_any c _ g _ HA1.out hc).mono ?_
  rintro e w1 ⟨rfl, hR, hG⟩
  have HR1 : Hid (Tk w1 g c (Wv.nxt c q)) := hR
  have HG1 : Hid (w.grownBy w1 (some g)) := grown_trans HA4.out hG
  have HK1 : Hid (Blk w1 w.heap.size #[.int .i64 0, .int .i64 0, .int .i64 0, .int .i64 0, .int .i64 0, .int .i64 0, .slice none 0 0] 43) := HA3.out.grown hG (by simp; omega)
  clear hR hG HA1 HA3 HA4
  go_wp2_with fail
  refine (take1_any c _ g _ HR1.out hc).mono ?_
  rintro e w2 ⟨rfl, hR, hG⟩
  have HR2 : Hid (Tk w2 g c (Wv.nxt2 c q)) := hR
  have HG2 : Hid (w.grownBy w2 (some g)) := grown_trans HG1.out hG
  have HK2 : Hid (Blk w2 w.heap.size #[.int .i64 0, .int .i64 0, .int .i64 0, .int .i64 0, .int .i64 0, .int .i64 0, .slice none 0 0] 43) := HK1.out.grown hG (by simp; omega)
  clear hR hG HR1 HK1 HG1
  go_wp2_with fail
  refine (take2_any c _ g _ HR2.out hc).mono ?_
  rintro e w3 ⟨rfl, hR, hG⟩
  have HR3 : Hid (Tk w3 g c (Wv.nxt2 c (Wv.nxt2 c q))) := hR
  have HG3 : Hid (w.grownBy w3 (some g)) := grown_trans HG2.out hG
  have HK3 : Hid (Blk w3 w.heap.size #[.int .i64 0, .int .i64 0, .int .i64 0, .int .i64 0, .int .i64 0, .int .i64 0, .slice none 0 0] 43) := HK2.out.grown hG (by simp; omega)
  clear hR hG HR2 HK2 HG2
  have HE1 : Hid (Wv.effF false c q = (⟨Wv.one c q, Wv.one c (Wv.nxt c q), Wv.v16 (Wv.two false c (Wv.nxt2 c q)), if Wv.rRef (Wv.one c q) = 0 then ⟨0, 0, 0⟩ else Wv.dotR c (Wv.eff5 false c q), (Wv.effD false c q).1⟩, (Wv.effD false c q).2)) := rfl
  have HE5 : Hid (Wv.eff5 false c q = Wv.nxt2 c (Wv.nxt2 c q)) := rfl
  have HE6 : Hid (Wv.eff6 false c q = if Wv.rRef (Wv.one c q) = 0 then Wv.eff5 false c q else Wv.nxt3 c (Wv.eff5 false c q)) := rfl
  have HED : Hid (Wv.effD false c q = if 0 < Wv.rMostD (Wv.one c q) then Wv.run (Wv.dotF c) (Wv.one c (Wv.eff6 false c q)).toNat (Wv.nxt c (Wv.eff6 false c q)) else ([], Wv.eff6 false c q)) := rfl
  have hvl := Wv.two_lt false c (Wv.nxt2 c q)
  have HV : Hid (Wv.v16 (Wv.two false c (Wv.nxt2 c q)) = if 32768 ≤ Wv.two false c (Wv.nxt2 c q) then Wv.two false c (Wv.nxt2 c q) - 65536 else Wv.two false c (Wv.nxt2 c q)) := rfl
  generalize Wv.one c q = op at *
  generalize Wv.one c (Wv.nxt c q) = ob at *
  generalize Wv.two false c (Wv.nxt2 c q) = v at *
  generalize Wv.nxt2 c (Wv.nxt2 c q) = q4 at *
  have hr : Wv.rRef op = 0 := by unfold Wv.rRef; repeat' split <;> omega
  have hm : ¬ 0 < Wv.rMostD op := by unfold Wv.rMostD; repeat' split <;> omega
  obtain ⟨ho3, ho4, ho5, ho6⟩ := ho
  by_cases hv : 32768 ≤ v
  · have HVA : Hid (Wv.v16 v = v - 65536) := by show _ = _; rw [HV.out]; exact if_pos hv
    have HREF : Hid ((Wv.effF false c q).1.ref = ⟨0, 0, 0⟩) := by show _ = _; rw [HE1.out]; exact if_pos hr
    have H6 : Hid (Wv.eff6 false c q = q4) := by show _ = _; rw [HE6.out, if_pos hr, HE5.out]
    have HD : Hid (Wv.effD false c q = ([], q4)) := by show _ = _; rw [HED.out, if_neg hm, H6.out]
    have EW : Hid (Et w (w3.alloc (.cells #[I op, I ob, I (v - 65536), I 0, I 0, I 0, .slice none 0 0] 43)) g w3.heap.size c q4 #[I op, I ob, I (v - 65536), I 0, I 0, I 0, .slice none 0 0]) := Et.begin HR3.out HG3.out HK3.out hlt _
    clear HR3 HG3 HK3 HV hr hm
    have e0 : (w3.alloc (.cells #[I op, I ob, I (v - 65536), I 0, I 0, I 0, .slice none 0 0] 43)).cell? ⟨w3.heap.size, 0, none⟩ = some (I op) := EW.out.kE.cell 0
    have e1 : (w3.alloc (.cells #[I op, I ob, I (v - 65536), I 0, I 0, I 0, .slice none 0 0] 43)).cell? ⟨w3.heap.size, 1, none⟩ = some (I ob) := EW.out.kE.cell 1
    have e2 : (w3.alloc (.cells #[I op, I ob, I (v - 65536), I 0, I 0, I 0, .slice none 0 0] 43)).cell? ⟨w3.heap.size, 2, none⟩ = some (I (v - 65536)) := EW.out.kE.cell 2
    have e3 : (w3.alloc (.cells #[I op, I ob, I (v - 65536), I 0, I 0, I 0, .slice none 0 0] 43)).cell? ⟨w3.heap.size, 3, none⟩ = some (I 0) := EW.out.kE.cell 3
    have e4 : (w3.alloc (.cells #[I op, I ob, I (v - 65536), I 0, I 0, I 0, .slice none 0 0] 43)).cell? ⟨w3.heap.size, 4, none⟩ = some (I 0) := EW.out.kE.cell 4
    have e5 : (w3.alloc (.cells #[I op, I ob, I (v - 65536), I 0, I 0, I 0, .slice none 0 0] 43)).cell? ⟨w3.heap.size, 5, none⟩ = some (I 0) := EW.out.kE.cell 5
    have e6 : (w3.alloc (.cells #[I op, I ob, I (v - 65536), I 0, I 0, I 0, .slice none 0 0] 43)).cell? ⟨w3.heap.size, 6, none⟩ = some (.slice none 0 0) := EW.out.kE.cell 6
    have k0 : (w3.alloc (.cells #[I op, I ob, I (v - 65536), I 0, I 0, I 0, .slice none 0 0] 43)).cell? ⟨w.heap.size, 0, none⟩ = some (.int .i64 0) := EW.out.kR.cell 0
    have z0 := EW.out.kR.frozen 0
    have k1 : (w3.alloc (.cells #[I op, I ob, I (v - 65536), I 0, I 0, I 0, .slice none 0 0] 43)).cell? ⟨w.heap.size, 1, none⟩ = some (.int .i64 0) := EW.out.kR.cell 1
    have z1 := EW.out.kR.frozen 1
    have k2 : (w3.alloc (.cells #[I op, I ob, I (v - 65536), I 0, I 0, I 0, .slice none 0 0] 43)).cell? ⟨w.heap.size, 2, none⟩ = some (.int .i64 0) := EW.out.kR.cell 2
    have z2 := EW.out.kR.frozen 2
    have k3 : (w3.alloc (.cells #[I op, I ob, I (v - 65536), I 0, I 0, I 0, .slice none 0 0] 43)).cell? ⟨w.heap.size, 3, none⟩ = some (.int .i64 0) := EW.out.kR.cell 3
    have z3 := EW.out.kR.frozen 3
    have k4 : (w3.alloc (.cells #[I op, I ob, I (v - 65536), I 0, I 0, I 0, .slice none 0 0] 43)).cell? ⟨w.heap.size, 4, none⟩ = some (.int .i64 0) := EW.out.kR.cell 4
    have z4 := EW.out.kR.frozen 4
    have k5 : (w3.alloc (.cells #[I op, I ob, I (v - 65536), I 0, I 0, I 0, .slice none 0 0] 43)).cell? ⟨w.heap.size, 5, none⟩ = some (.int .i64 0) := EW.out.kR.cell 5
    have z5 := EW.out.kR.frozen 5
    have k6 : (w3.alloc (.cells #[I op, I ob, I (v - 65536), I 0, I 0, I 0, .slice none 0 0] 43)).cell? ⟨w.heap.size, 6, none⟩ = some (.slice none 0 0) := EW.out.kR.cell 6
    have z6 := EW.out.kR.frozen 6
    go_wp2
    have HF : Hid (Blk (put7 (w3.alloc (.cells #[I op, I ob, I (v - 65536), I 0, I 0, I 0, .slice none 0 0] 43)) w.heap.size (I op) (I ob) (I (v - 65536)) (I 0) (I 0) (I 0) (.slice none 0 0)) w.heap.size #[I op, I ob, I (v - 65536), I 0, I 0, I 0, .slice none 0 0] 43) := put7_blk EW.out.kR _ _ _ _ _ _ _
    have HY : Hid (Tk (put7 (w3.alloc (.cells #[I op, I ob, I (v - 65536), I 0, I 0, I 0, .slice none 0 0] 43)) w.heap.size (I op) (I ob) (I (v - 65536)) (I 0) (I 0) (I 0) (.slice none 0 0)) g c _ ∧ w.grownBy (put7 (w3.alloc (.cells #[I op, I ob, I (v - 65536), I 0, I 0, I 0, .slice none 0 0] 43)) w.heap.size (I op) (I ob) (I (v - 65536)) (I 0) (I 0) (I 0) (.slice none 0 0)) (some g)) := EW.out.fin _ _ _ _ _ _ _
    have HP : Hid (∀ bb, bb ≠ w.heap.size → (put7 (w3.alloc (.cells #[I op, I ob, I (v - 65536), I 0, I 0, I 0, .slice none 0 0] 43)) w.heap.size (I op) (I ob) (I (v - 65536)) (I 0) (I 0) (I 0) (.slice none 0 0)).heap[bb]? = (w3.alloc (.cells #[I op, I ob, I (v - 65536), I 0, I 0, I 0, .slice none 0 0] 43)).heap[bb]?) := fun bb hk => put7_heap _ _ _ _ _ _ _ _ _ bb hk
    unfold put7 at HF HY HP
    generalize ((((((((w3.alloc (.cells #[I op, I ob, I (v - 65536), I 0, I 0, I 0, .slice none 0 0] 43)).setCell ⟨w.heap.size, 0, none⟩ (I op)).setCell ⟨w.heap.size, 1, none⟩ (I ob)).setCell ⟨w.heap.size, 2, none⟩ (I (v - 65536))).setCell ⟨w.heap.size, 3, none⟩ (I 0)).setCell ⟨w.heap.size, 4, none⟩ (I 0)).setCell ⟨w.heap.size, 5, none⟩ (I 0)).setCell ⟨w.heap.size, 6, none⟩ (.slice none 0 0)) = wF at *
    have f0 : wF.cell? ⟨w.heap.size, 0, none⟩ = some (I op) := HF.out.cell 0
    have f1 : wF.cell? ⟨w.heap.size, 1, none⟩ = some (I ob) := HF.out.cell 1
    have f2 : wF.cell? ⟨w.heap.size, 2, none⟩ = some (I (v - 65536)) := HF.out.cell 2
    have f3 : wF.cell? ⟨w.heap.size, 3, none⟩ = some (I 0) := HF.out.cell 3
    have f4 : wF.cell? ⟨w.heap.size, 4, none⟩ = some (I 0) := HF.out.cell 4
    have f5 : wF.cell? ⟨w.heap.size, 5, none⟩ = some (I 0) := HF.out.cell 5
    have f6 : wF.cell? ⟨w.heap.size, 6, none⟩ = some (.slice none 0 0) := HF.out.cell 6
    refine bodyPost_ret (v := effV ⟨⟨op, ob, v - 65536, ⟨0, 0, 0⟩, []⟩, none, 0⟩) (by simp [results, Tryd.results29, go_sem, f0, f1, f2, f3, f4, f5, f6]) rfl ⟨⟨⟨op, ob, v - 65536, ⟨0, 0, 0⟩, []⟩, none, 0⟩, rfl, ?_, ?_, ?_, HY.out.2⟩
    · have := HREF.out
      rw [HE1.out, HVA.out] at this ⊢
      rw [HD.out] at this ⊢
      exact (congrArg (fun r => (⟨op, ob, v - 65536, r, []⟩ : Wv.Ef)) this).symm
    · exact ⟨rfl, .inl ⟨rfl, rfl⟩⟩
    · rw [HE1.out, HD.out]; exact HY.out.1
  · have HVA : Hid (Wv.v16 v = v) := by show _ = _; rw [HV.out]; exact if_neg hv
    have HREF : Hid ((Wv.effF false c q).1.ref = ⟨0, 0, 0⟩) := by show _ = _; rw [HE1.out]; exact if_pos hr
    have H6 : Hid (Wv.eff6 false c q = q4) := by show _ = _; rw [HE6.out, if_pos hr, HE5.out]
    have HD : Hid (Wv.effD false c q = ([], q4)) := by show _ = _; rw [HED.out, if_neg hm, H6.out]
    have EW : Hid (Et w (w3.alloc (.cells #[I op, I ob, I (v), I 0, I 0, I 0, .slice none 0 0] 43)) g w3.heap.size c q4 #[I op, I ob, I (v), I 0, I 0, I 0, .slice none 0 0]) := Et.begin HR3.out HG3.out HK3.out hlt _
    clear HR3 HG3 HK3 HV hr hm
    have e0 : (w3.alloc (.cells #[I op, I ob, I (v), I 0, I 0, I 0, .slice none 0 0] 43)).cell? ⟨w3.heap.size, 0, none⟩ = some (I op) := EW.out.kE.cell 0
    have e1 : (w3.alloc (.cells #[I op, I ob, I (v), I 0, I 0, I 0, .slice none 0 0] 43)).cell? ⟨w3.heap.size, 1, none⟩ = some (I ob) := EW.out.kE.cell 1
    have e2 : (w3.alloc (.cells #[I op, I ob, I (v), I 0, I 0, I 0, .slice none 0 0] 43)).cell? ⟨w3.heap.size, 2, none⟩ = some (I (v)) := EW.out.kE.cell 2
    have e3 : (w3.alloc (.cells #[I op, I ob, I (v), I 0, I 0, I 0, .slice none 0 0] 43)).cell? ⟨w3.heap.size, 3, none⟩ = some (I 0) := EW.out.kE.cell 3
    have e4 : (w3.alloc (.cells #[I op, I ob, I (v), I 0, I 0, I 0, .slice none 0 0] 43)).cell? ⟨w3.heap.size, 4, none⟩ = some (I 0) := EW.out.kE.cell 4
    have e5 : (w3.alloc (.cells #[I op, I ob, I (v), I 0, I 0, I 0, .slice none 0 0] 43)).cell? ⟨w3.heap.size, 5, none⟩ = some (I 0) := EW.out.kE.cell 5
    have e6 : (w3.alloc (.cells #[I op, I ob, I (v), I 0, I 0, I 0, .slice none 0 0] 43)).cell? ⟨w3.heap.size, 6, none⟩ = some (.slice none 0 0) := EW.out.kE.cell 6
    have k0 : (w3.alloc (.cells #[I op, I ob, I (v), I 0, I 0, I 0, .slice none 0 0] 43)).cell? ⟨w.heap.size, 0, none⟩ = some (.int .i64 0) := EW.out.kR.cell 0
    have z0 := EW.out.kR.frozen 0
    have k1 : (w3.alloc (.cells #[I op, I ob, I (v), I 0, I 0, I 0, .slice none 0 0] 43)).cell? ⟨w.heap.size, 1, none⟩ = some (.int .i64 0) := EW.out.kR.cell 1
    have z1 := EW.out.kR.frozen 1
    have k2 : (w3.alloc (.cells #[I op, I ob, I (v), I 0, I 0, I 0, .slice none 0 0] 43)).cell? ⟨w.heap.size, 2, none⟩ = some (.int .i64 0) := EW.out.kR.cell 2
    have z2 := EW.out.kR.frozen 2
    have k3 : (w3.alloc (.cells #[I op, I ob, I (v), I 0, I 0, I 0, .slice none 0 0] 43)).cell? ⟨w.heap.size, 3, none⟩ = some (.int .i64 0) := EW.out.kR.cell 3
    have z3 := EW.out.kR.frozen 3
    have k4 : (w3.alloc (.cells #[I op, I ob, I (v), I 0, I 0, I 0, .slice none 0 0] 43)).cell? ⟨w.heap.size, 4, none⟩ = some (.int .i64 0) := EW.out.kR.cell 4
    have z4 := EW.out.kR.frozen 4
    have k5 : (w3.alloc (.cells #[I op, I ob, I (v), I 0, I 0, I 0, .slice none 0 0] 43)).cell? ⟨w.heap.size, 5, none⟩ = some (.int .i64 0) := EW.out.kR.cell 5
    have z5 := EW.out.kR.frozen 5
    have k6 : (w3.alloc (.cells #[I op, I ob, I (v), I 0, I 0, I 0, .slice none 0 0] 43)).cell? ⟨w.heap.size, 6, none⟩ = some (.slice none 0 0) := EW.out.kR.cell 6
    have z6 := EW.out.kR.frozen 6
    go_wp2
    have HF : Hid (Blk (put7 (w3.alloc (.cells #[I op, I ob, I (v), I 0, I 0, I 0, .slice none 0 0] 43)) w.heap.size (I op) (I ob) (I (v)) (I 0) (I 0) (I 0) (.slice none 0 0)) w.heap.size #[I op, I ob, I (v), I 0, I 0, I 0, .slice none 0 0] 43) := put7_blk EW.out.kR _ _ _ _ _ _ _
    have HY : Hid (Tk (put7 (w3.alloc (.cells #[I op, I ob, I (v), I 0, I 0, I 0, .slice none 0 0] 43)) w.heap.size (I op) (I ob) (I (v)) (I 0) (I 0) (I 0) (.slice none 0 0)) g c _ ∧ w.grownBy (put7 (w3.alloc (.cells #[I op, I ob, I (v), I 0, I 0, I 0, .slice none 0 0] 43)) w.heap.size (I op) (I ob) (I (v)) (I 0) (I 0) (I 0) (.slice none 0 0)) (some g)) := EW.out.fin _ _ _ _ _ _ _
    have HP : Hid (∀ bb, bb ≠ w.heap.size → (put7 (w3.alloc (.cells #[I op, I ob, I (v), I 0, I 0, I 0, .slice none 0 0] 43)) w.heap.size (I op) (I ob) (I (v)) (I 0) (I 0) (I 0) (.slice none 0 0)).heap[bb]? = (w3.alloc (.cells #[I op, I ob, I (v), I 0, I 0, I 0, .slice none 0 0] 43)).heap[bb]?) := fun bb hk => put7_heap _ _ _ _ _ _ _ _ _ bb hk
    unfold put7 at HF HY HP
    generalize ((((((((w3.alloc (.cells #[I op, I ob, I (v), I 0, I 0, I 0, .slice none 0 0] 43)).setCell ⟨w.heap.size, 0, none⟩ (I op)).setCell ⟨w.heap.size, 1, none⟩ (I ob)).setCell ⟨w.heap.size, 2, none⟩ (I (v))).setCell ⟨w.heap.size, 3, none⟩ (I 0)).setCell ⟨w.heap.size, 4, none⟩ (I 0)).setCell ⟨w.heap.size, 5, none⟩ (I 0)).setCell ⟨w.heap.size, 6, none⟩ (.slice none 0 0)) = wF at *
    have f0 : wF.cell? ⟨w.heap.size, 0, none⟩ = some (I op) := HF.out.cell 0
    have f1 : wF.cell? ⟨w.heap.size, 1, none⟩ = some (I ob) := HF.out.cell 1
    have f2 : wF.cell? ⟨w.heap.size, 2, none⟩ = some (I (v)) := HF.out.cell 2
    have f3 : wF.cell? ⟨w.heap.size, 3, none⟩ = some (I 0) := HF.out.cell 3
    have f4 : wF.cell? ⟨w.heap.size, 4, none⟩ = some (I 0) := HF.out.cell 4
    have f5 : wF.cell? ⟨w.heap.size, 5, none⟩ = some (I 0) := HF.out.cell 5
    have f6 : wF.cell? ⟨w.heap.size, 6, none⟩ = some (.slice none 0 0) := HF.out.cell 6
    refine bodyPost_ret (v := effV ⟨⟨op, ob, v, ⟨0, 0, 0⟩, []⟩, none, 0⟩) (by simp [results, Tryd.results29, go_sem, f0, f1, f2, f3, f4, f5, f6]) rfl ⟨⟨⟨op, ob, v, ⟨0, 0, 0⟩, []⟩, none, 0⟩, rfl, ?_, ?_, ?_, HY.out.2⟩
    · have := HREF.out
      rw [HE1.out, HVA.out] at this ⊢
      rw [HD.out] at this ⊢
      exact (congrArg (fun r => (⟨op, ob, v, r, []⟩ : Wv.Ef)) this).symm
    · exact ⟨rfl, .inl ⟨rfl, rfl⟩⟩
    · rw [HE1.out, HD.out]; exact HY.out.1

end Go.Proofs.YtfmcngncaffloaaDoor

namespace Go.Proofs.YtfmcngncaffloaaDoor
open Go.RowKit
set_option maxRecDepth 100000

set_option maxHeartbeats 1600000 in
theorem teff_5 (c : List UInt8) (q : Wv.St) (g : Nat) (w : World) (h : Tk w g c q) (hc : c.length ≤ 1048576) (ho : Wv.one c q = 5) :
    Calls Tryd.prog 29 #[.pointer (some ⟨g, 0, none⟩)] w fun e w' => ∃ m : Em, e = .returned (effV m) ∧ m.e = (Wv.effF false c q).1 ∧ w'.ownsRow w.heap.size 40 3 m.dv m.e.dots.length (flat dotCells m.e.dots) ∧ Tk w' g c (Wv.effF false c q).2 ∧ w.grownBy w' (some g) := by
  have hlt := h.lt
  have hne : g ≠ w.heap.size := by omega
  have HA1 : Hid (Tk (w.alloc (.cells #[.int .i64 0, .int .i64 0, .int .i64 0, .int .i64 0, .int .i64 0, .int .i64 0, .slice none 0 0] 43)) g c q) := h.alloc _
  have HA3 : Hid (Blk (w.alloc (.cells #[.int .i64 0, .int .i64 0, .int .i64 0, .int .i64 0, .int .i64 0, .int .i64 0, .slice none 0 0] 43)) w.heap.size #[.int .i64 0, .int .i64 0, .int .i64 0, .int .i64 0, .int .i64 0, .int .i64 0, .slice none 0 0] 43) := heap_alloc_new w _
  have HA4 : Hid (w.grownBy (w.alloc (.cells #[.int .i64 0, .int .i64 0, .int .i64 0, .int .i64 0, .int .i64 0, .int .i64 0, .slice none 0 0] 43)) (some g)) := grown_new (grown_refl _ _)
  clear h
  go_enter Tryd.func29, Tryd.ntmps29
  go_wp2_with fail
  generalize w.alloc (.cells #[.int .i64 0, .int .i64 0, .int .i64 0, .int .i64 0, .int .i64 0, .int .i64 0, .slice none 0 0] 43) = wA at *
  refine (take1_any c _ g _ HA1.out hc).mono ?_
  rintro e w1 ⟨rfl, hR, hG⟩
  have HR1 : Hid (Tk w1 g c (Wv.nxt c q)) := hR
  have HG1 : Hid (w.grownBy w1 (some g)) := grown_trans HA4.out hG
  have HK1 : Hid (Blk w1 w.heap.size #[.int .i64 0, .int .i64 0, .int .i64 0, .int .i64 0, .int .i64 0, .int .i64 0, .slice none 0 0] 43) := HA3.out.grown hG (by simp; omega)
  clear hR hG HA1 HA3 HA4
  go_wp2_with fail
  refine (take1_any c _ g _ HR1.out hc).mono ?_
  rintro e w2 ⟨rfl, hR, hG⟩
  have HR2 : Hid (Tk w2 g c (Wv.nxt2 c q)) := hR
  have HG2 : Hid (w.grownBy w2 (some g)) := grown_trans HG1.out hG
  have HK2 : Hid (Blk w2 w.heap.size #[.int .i64 0, .int .i64 0, .int .i64 0, .int .i64 0, .int .i64 0, .int .i64 0, .slice none 0 0] 43) := HK1.out.grown hG (by simp; omega)
  clear hR hG HR1 HK1 HG1
  go_wp2_with fail
  refine (take2_any c _ g _ HR2.out hc).mono ?_
  rintro e w3 ⟨rfl, hR, hG⟩
  have HR3 : Hid (Tk w3 g c (Wv.nxt2 c (Wv.nxt2 c q))) := hR
  have HG3 : Hid (w.grownBy w3 (some g)) := grown_trans HG2.out hG
  have HK3 : Hid (Blk w3 w.heap.size #[.int .i64 0, .int .i64 0, .int .i64 0, .int .i64 0, .int .i64 0, .int .i64 0, .slice none 0 0] 43) := HK2.out.grown hG (by simp; omega)
  clear hR hG HR2 HK2 HG2
  have HE1 : Hid (Wv.effF false c q = (⟨Wv.one c q, Wv.one c (Wv.nxt c q), Wv.v16 (Wv.two false c (Wv.nxt2 c q)), if Wv.rRef (Wv.one c q) = 0 then ⟨0, 0, 0⟩ else Wv.dotR c (Wv.eff5 false c q), (Wv.effD false c q).1⟩, (Wv.effD false c q).2)) := rfl
  have HE5 : Hid (Wv.eff5 false c q = Wv.nxt2 c (Wv.nxt2 c q)) := rfl
  have HE6 : Hid (Wv.eff6 false c q = if Wv.rRef (Wv.one c q) = 0 then Wv.eff5 false c q else Wv.nxt3 c (Wv.eff5 false c q)) := rfl
  have HED : Hid (Wv.effD false c q = if 0 < Wv.rMostD (Wv.one c q) then Wv.run (Wv.dotF c) (Wv.one c (Wv.eff6 false c q)).toNat (Wv.nxt c (Wv.eff6 false c q)) else ([], Wv.eff6 false c q)) := rfl
  have hvl := Wv.two_lt false c (Wv.nxt2 c q)
  have HV : Hid (Wv.v16 (Wv.two false c (Wv.nxt2 c q)) = if 32768 ≤ Wv.two false c (Wv.nxt2 c q) then Wv.two false c (Wv.nxt2 c q) - 65536 else Wv.two false c (Wv.nxt2 c q)) := rfl
  have HREF : Hid ((Wv.effF false c q).1.ref = Wv.dotR c (Wv.nxt2 c (Wv.nxt2 c q))) := effF_ref1 ho (by decide)
  rw [ho] at HE1 HE6 HED
  generalize Wv.one c (Wv.nxt c q) = ob at *
  generalize Wv.two false c (Wv.nxt2 c q) = v at *
  generalize Wv.nxt2 c (Wv.nxt2 c q) = q4 at *
  clear ho
  by_cases hv : 32768 ≤ v
  · have HVA : Hid (Wv.v16 v = v - 65536) := by show _ = _; rw [HV.out]; exact if_pos hv
    have hr : ¬ Wv.rRef 5 = 0 := by decide
    have hm : ¬ 0 < Wv.rMostD 5 := by decide
    have H6 : Hid (Wv.eff6 false c q = Wv.nxt3 c q4) := by show _ = _; rw [HE6.out, if_neg hr, HE5.out]
    have HD : Hid (Wv.effD false c q = ([], Wv.nxt3 c q4)) := by show _ = _; rw [HED.out, if_neg hm, H6.out]
    have EW : Hid (Et w (w3.alloc (.cells #[I 5, I ob, I (v - 65536), I 0, I 0, I 0, .slice none 0 0] 43)) g w3.heap.size c q4 #[I 5, I ob, I (v - 65536), I 0, I 0, I 0, .slice none 0 0]) := Et.begin HR3.out HG3.out HK3.out hlt _
    clear HR3 HG3 HK3 HV hr hm
    go_wp2_with fail
    refine (tdot_any c q4 g _ EW.out.rd hc).mono ?_
    rintro e w5 ⟨rfl, hR5, hG5⟩
    have EW5 : Hid (Et w w5 g w3.heap.size c (Wv.nxt3 c q4) #[I 5, I ob, I (v - 65536), I 0, I 0, I 0, .slice none 0 0]) := EW.out.read hG5 hR5
    clear EW hR5 hG5
    generalize Wv.dotR c q4 = d at *
    have EW6 : Hid (Et w (((w5.setCell ⟨w3.heap.size, 3, none⟩ (I d.o)).setCell ⟨w3.heap.size, 4, none⟩ (I d.s)).setCell ⟨w3.heap.size, 5, none⟩ (I d.i)) g w3.heap.size c (Wv.nxt3 c q4) #[I 5, I ob, I (v - 65536), I d.o, I d.s, I d.i, .slice none 0 0]) := ((EW5.out.set 3 _).set 4 _).set 5 _
    have y3 : w5.cell? ⟨w3.heap.size, 3, none⟩ = some (.int .i64 0) := EW5.out.kE.cell 3
    have x3 := EW5.out.kE.frozen 3
    have y4 : w5.cell? ⟨w3.heap.size, 4, none⟩ = some (.int .i64 0) := EW5.out.kE.cell 4
    have x4 := EW5.out.kE.frozen 4
    have y5 : w5.cell? ⟨w3.heap.size, 5, none⟩ = some (.int .i64 0) := EW5.out.kE.cell 5
    have x5 := EW5.out.kE.frozen 5
    have e0 : (((w5.setCell ⟨w3.heap.size, 3, none⟩ (I d.o)).setCell ⟨w3.heap.size, 4, none⟩ (I d.s)).setCell ⟨w3.heap.size, 5, none⟩ (I d.i)).cell? ⟨w3.heap.size, 0, none⟩ = some (I 5) := EW6.out.kE.cell 0
    have e1 : (((w5.setCell ⟨w3.heap.size, 3, none⟩ (I d.o)).setCell ⟨w3.heap.size, 4, none⟩ (I d.s)).setCell ⟨w3.heap.size, 5, none⟩ (I d.i)).cell? ⟨w3.heap.size, 1, none⟩ = some (I ob) := EW6.out.kE.cell 1
    have e2 : (((w5.setCell ⟨w3.heap.size, 3, none⟩ (I d.o)).setCell ⟨w3.heap.size, 4, none⟩ (I d.s)).setCell ⟨w3.heap.size, 5, none⟩ (I d.i)).cell? ⟨w3.heap.size, 2, none⟩ = some (I (v - 65536)) := EW6.out.kE.cell 2
    have e3 : (((w5.setCell ⟨w3.heap.size, 3, none⟩ (I d.o)).setCell ⟨w3.heap.size, 4, none⟩ (I d.s)).setCell ⟨w3.heap.size, 5, none⟩ (I d.i)).cell? ⟨w3.heap.size, 3, none⟩ = some (I d.o) := EW6.out.kE.cell 3
    have e4 : (((w5.setCell ⟨w3.heap.size, 3, none⟩ (I d.o)).setCell ⟨w3.heap.size, 4, none⟩ (I d.s)).setCell ⟨w3.heap.size, 5, none⟩ (I d.i)).cell? ⟨w3.heap.size, 4, none⟩ = some (I d.s) := EW6.out.kE.cell 4
    have e5 : (((w5.setCell ⟨w3.heap.size, 3, none⟩ (I d.o)).setCell ⟨w3.heap.size, 4, none⟩ (I d.s)).setCell ⟨w3.heap.size, 5, none⟩ (I d.i)).cell? ⟨w3.heap.size, 5, none⟩ = some (I d.i) := EW6.out.kE.cell 5
    have e6 : (((w5.setCell ⟨w3.heap.size, 3, none⟩ (I d.o)).setCell ⟨w3.heap.size, 4, none⟩ (I d.s)).setCell ⟨w3.heap.size, 5, none⟩ (I d.i)).cell? ⟨w3.heap.size, 6, none⟩ = some (.slice none 0 0) := EW6.out.kE.cell 6
    have k0 : (((w5.setCell ⟨w3.heap.size, 3, none⟩ (I d.o)).setCell ⟨w3.heap.size, 4, none⟩ (I d.s)).setCell ⟨w3.heap.size, 5, none⟩ (I d.i)).cell? ⟨w.heap.size, 0, none⟩ = some (.int .i64 0) := EW6.out.kR.cell 0
    have z0 := EW6.out.kR.frozen 0
    have k1 : (((w5.setCell ⟨w3.heap.size, 3, none⟩ (I d.o)).setCell ⟨w3.heap.size, 4, none⟩ (I d.s)).setCell ⟨w3.heap.size, 5, none⟩ (I d.i)).cell? ⟨w.heap.size, 1, none⟩ = some (.int .i64 0) := EW6.out.kR.cell 1
    have z1 := EW6.out.kR.frozen 1
    have k2 : (((w5.setCell ⟨w3.heap.size, 3, none⟩ (I d.o)).setCell ⟨w3.heap.size, 4, none⟩ (I d.s)).setCell ⟨w3.heap.size, 5, none⟩ (I d.i)).cell? ⟨w.heap.size, 2, none⟩ = some (.int .i64 0) := EW6.out.kR.cell 2
    have z2 := EW6.out.kR.frozen 2
    have k3 : (((w5.setCell ⟨w3.heap.size, 3, none⟩ (I d.o)).setCell ⟨w3.heap.size, 4, none⟩ (I d.s)).setCell ⟨w3.heap.size, 5, none⟩ (I d.i)).cell? ⟨w.heap.size, 3, none⟩ = some (.int .i64 0) := EW6.out.kR.cell 3
    have z3 := EW6.out.kR.frozen 3
    have k4 : (((w5.setCell ⟨w3.heap.size, 3, none⟩ (I d.o)).setCell ⟨w3.heap.size, 4, none⟩ (I d.s)).setCell ⟨w3.heap.size, 5, none⟩ (I d.i)).cell? ⟨w.heap.size, 4, none⟩ = some (.int .i64 0) := EW6.out.kR.cell 4
    have z4 := EW6.out.kR.frozen 4
    have k5 : (((w5.setCell ⟨w3.heap.size, 3, none⟩ (I d.o)).setCell ⟨w3.heap.size, 4, none⟩ (I d.s)).setCell ⟨w3.heap.size, 5, none⟩ (I d.i)).cell? ⟨w.heap.size, 5, none⟩ = some (.int .i64 0) := EW6.out.kR.cell 5
    have z5 := EW6.out.kR.frozen 5
    have k6 : (((w5.setCell ⟨w3.heap.size, 3, none⟩ (I d.o)).setCell ⟨w3.heap.size, 4, none⟩ (I d.s)).setCell ⟨w3.heap.size, 5, none⟩ (I d.i)).cell? ⟨w.heap.size, 6, none⟩ = some (.slice none 0 0) := EW6.out.kR.cell 6
    have z6 := EW6.out.kR.frozen 6
    go_wp2
    have HF : Hid (Blk (put7 (((w5.setCell ⟨w3.heap.size, 3, none⟩ (I d.o)).setCell ⟨w3.heap.size, 4, none⟩ (I d.s)).setCell ⟨w3.heap.size, 5, none⟩ (I d.i)) w.heap.size (I 5) (I ob) (I (v - 65536)) (I d.o) (I d.s) (I d.i) (.slice none 0 0)) w.heap.size #[I 5, I ob, I (v - 65536), I d.o, I d.s, I d.i, .slice none 0 0] 43) := put7_blk EW6.out.kR _ _ _ _ _ _ _
    have HY : Hid (Tk (put7 (((w5.setCell ⟨w3.heap.size, 3, none⟩ (I d.o)).setCell ⟨w3.heap.size, 4, none⟩ (I d.s)).setCell ⟨w3.heap.size, 5, none⟩ (I d.i)) w.heap.size (I 5) (I ob) (I (v - 65536)) (I d.o) (I d.s) (I d.i) (.slice none 0 0)) g c _ ∧ w.grownBy (put7 (((w5.setCell ⟨w3.heap.size, 3, none⟩ (I d.o)).setCell ⟨w3.heap.size, 4, none⟩ (I d.s)).setCell ⟨w3.heap.size, 5, none⟩ (I d.i)) w.heap.size (I 5) (I ob) (I (v - 65536)) (I d.o) (I d.s) (I d.i) (.slice none 0 0)) (some g)) := EW6.out.fin _ _ _ _ _ _ _
    have HP : Hid (∀ bb, bb ≠ w.heap.size → (put7 (((w5.setCell ⟨w3.heap.size, 3, none⟩ (I d.o)).setCell ⟨w3.heap.size, 4, none⟩ (I d.s)).setCell ⟨w3.heap.size, 5, none⟩ (I d.i)) w.heap.size (I 5) (I ob) (I (v - 65536)) (I d.o) (I d.s) (I d.i) (.slice none 0 0)).heap[bb]? = (((w5.setCell ⟨w3.heap.size, 3, none⟩ (I d.o)).setCell ⟨w3.heap.size, 4, none⟩ (I d.s)).setCell ⟨w3.heap.size, 5, none⟩ (I d.i)).heap[bb]?) := fun bb hk => put7_heap _ _ _ _ _ _ _ _ _ bb hk
    unfold put7 at HF HY HP
    generalize ((((((((((w5.setCell ⟨w3.heap.size, 3, none⟩ (I d.o)).setCell ⟨w3.heap.size, 4, none⟩ (I d.s)).setCell ⟨w3.heap.size, 5, none⟩ (I d.i)).setCell ⟨w.heap.size, 0, none⟩ (I 5)).setCell ⟨w.heap.size, 1, none⟩ (I ob)).setCell ⟨w.heap.size, 2, none⟩ (I (v - 65536))).setCell ⟨w.heap.size, 3, none⟩ (I d.o)).setCell ⟨w.heap.size, 4, none⟩ (I d.s)).setCell ⟨w.heap.size, 5, none⟩ (I d.i)).setCell ⟨w.heap.size, 6, none⟩ (.slice none 0 0)) = wF at *
    have f0 : wF.cell? ⟨w.heap.size, 0, none⟩ = some (I 5) := HF.out.cell 0
    have f1 : wF.cell? ⟨w.heap.size, 1, none⟩ = some (I ob) := HF.out.cell 1
    have f2 : wF.cell? ⟨w.heap.size, 2, none⟩ = some (I (v - 65536)) := HF.out.cell 2
    have f3 : wF.cell? ⟨w.heap.size, 3, none⟩ = some (I d.o) := HF.out.cell 3
    have f4 : wF.cell? ⟨w.heap.size, 4, none⟩ = some (I d.s) := HF.out.cell 4
    have f5 : wF.cell? ⟨w.heap.size, 5, none⟩ = some (I d.i) := HF.out.cell 5
    have f6 : wF.cell? ⟨w.heap.size, 6, none⟩ = some (.slice none 0 0) := HF.out.cell 6
    refine bodyPost_ret (v := effV ⟨⟨5, ob, v - 65536, d, []⟩, none, 0⟩) (by simp [results, Tryd.results29, go_sem, f0, f1, f2, f3, f4, f5, f6]) rfl ⟨⟨⟨5, ob, v - 65536, d, []⟩, none, 0⟩, rfl, ?_, ?_, ?_, HY.out.2⟩
    · have := HREF.out
      rw [HE1.out, HVA.out] at this ⊢
      rw [HD.out] at this ⊢
      exact (congrArg (fun r => (⟨5, ob, v - 65536, r, []⟩ : Wv.Ef)) this).symm
    · exact ⟨rfl, .inl ⟨rfl, rfl⟩⟩
    · rw [HE1.out, HD.out]; exact HY.out.1
  · have HVA : Hid (Wv.v16 v = v) := by show _ = _; rw [HV.out]; exact if_neg hv
    have hr : ¬ Wv.rRef 5 = 0 := by decide
    have hm : ¬ 0 < Wv.rMostD 5 := by decide
    have H6 : Hid (Wv.eff6 false c q = Wv.nxt3 c q4) := by show _ = _; rw [HE6.out, if_neg hr, HE5.out]
    have HD : Hid (Wv.effD false c q = ([], Wv.nxt3 c q4)) := by show _ = _; rw [HED.out, if_neg hm, H6.out]
    have EW : Hid (Et w (w3.alloc (.cells #[I 5, I ob, I (v), I 0, I 0, I 0, .slice none 0 0] 43)) g w3.heap.size c q4 #[I 5, I ob, I (v), I 0, I 0, I 0, .slice none 0 0]) := Et.begin HR3.out HG3.out HK3.out hlt _
    clear HR3 HG3 HK3 HV hr hm
    go_wp2_with fail
    refine (tdot_any c q4 g _ EW.out.rd hc).mono ?_
    rintro e w5 ⟨rfl, hR5, hG5⟩
    have EW5 : Hid (Et w w5 g w3.heap.size c (Wv.nxt3 c q4) #[I 5, I ob, I (v), I 0, I 0, I 0, .slice none 0 0]) := EW.out.read hG5 hR5
    clear EW hR5 hG5
    generalize Wv.dotR c q4 = d at *
    have EW6 : Hid (Et w (((w5.setCell ⟨w3.heap.size, 3, none⟩ (I d.o)).setCell ⟨w3.heap.size, 4, none⟩ (I d.s)).setCell ⟨w3.heap.size, 5, none⟩ (I d.i)) g w3.heap.size c (Wv.nxt3 c q4) #[I 5, I ob, I (v), I d.o, I d.s, I d.i, .slice none 0 0]) := ((EW5.out.set 3 _).set 4 _).set 5 _
    have y3 : w5.cell? ⟨w3.heap.size, 3, none⟩ = some (.int .i64 0) := EW5.out.kE.cell 3
    have x3 := EW5.out.kE.frozen 3
    have y4 : w5.cell? ⟨w3.heap.size, 4, none⟩ = some (.int .i64 0) := EW5.out.kE.cell 4
    have x4 := EW5.out.kE.frozen 4
    have y5 : w5.cell? ⟨w3.heap.size, 5, none⟩ = some (.int .i64 0) := EW5.out.kE.cell 5
    have x5 := EW5.out.kE.frozen 5
    have e0 : (((w5.setCell ⟨w3.heap.size, 3, none⟩ (I d.o)).setCell ⟨w3.heap.size, 4, none⟩ (I d.s)).setCell ⟨w3.heap.size, 5, none⟩ (I d.i)).cell? ⟨w3.heap.size, 0, none⟩ = some (I 5) := EW6.out.kE.cell 0
    have e1 : (((w5.setCell ⟨w3.heap.size, 3, none⟩ (I d.o)).setCell ⟨w3.heap.size, 4, none⟩ (I d.s)).setCell ⟨w3.heap.size, 5, none⟩ (I d.i)).cell? ⟨w3.heap.size, 1, none⟩ = some (I ob) := EW6.out.kE.cell 1
    have e2 : (((w5.setCell ⟨w3.heap.size, 3, none⟩ (I d.o)).setCell ⟨w3.heap.size, 4, none⟩ (I d.s)).setCell ⟨w3.heap.size, 5, none⟩ (I d.i)).cell? ⟨w3.heap.size, 2, none⟩ = some (I (v)) := EW6.out.kE.cell 2
    have e3 : (((w5.setCell ⟨w3.heap.size, 3, none⟩ (I d.o)).setCell ⟨w3.heap.size, 4, none⟩ (I d.s)).setCell ⟨w3.heap.size, 5, none⟩ (I d.i)).cell? ⟨w3.heap.size, 3, none⟩ = some (I d.o) := EW6.out.kE.cell 3
    have e4 : (((w5.setCell ⟨w3.heap.size, 3, none⟩ (I d.o)).setCell ⟨w3.heap.size, 4, none⟩ (I d.s)).setCell ⟨w3.heap.size, 5, none⟩ (I d.i)).cell? ⟨w3.heap.size, 4, none⟩ = some (I d.s) := EW6.out.kE.cell 4
    have e5 : (((w5.setCell ⟨w3.heap.size, 3, none⟩ (I d.o)).setCell ⟨w3.heap.size, 4, none⟩ (I d.s)).setCell ⟨w3.heap.size, 5, none⟩ (I d.i)).cell? ⟨w3.heap.size, 5, none⟩ = some (I d.i) := EW6.out.kE.cell 5
    have e6 : (((w5.setCell ⟨w3.heap.size, 3, none⟩ (I d.o)).setCell ⟨w3.heap.size, 4, none⟩ (I d.s)).setCell ⟨w3.heap.size, 5, none⟩ (I d.i)).cell? ⟨w3.heap.size, 6, none⟩ = some (.slice none 0 0) := EW6.out.kE.cell 6
    have k0 : (((w5.setCell ⟨w3.heap.size, 3, none⟩ (I d.o)).setCell ⟨w3.heap.size, 4, none⟩ (I d.s)).setCell ⟨w3.heap.size, 5, none⟩ (I d.i)).cell? ⟨w.heap.size, 0, none⟩ = some (.int .i64 0) := EW6.out.kR.cell 0
    have z0 := EW6.out.kR.frozen 0
    have k1 : (((w5.setCell ⟨w3.heap.size, 3, none⟩ (I d.o)).setCell ⟨w3.heap.size, 4, none⟩ (I d.s)).setCell ⟨w3.heap.size, 5, none⟩ (I d.i)).cell? ⟨w.heap.size, 1, none⟩ = some (.int .i64 0) := EW6.out.kR.cell 1
    have z1 := EW6.out.kR.frozen 1
    have k2 : (((w5.setCell ⟨w3.heap.size, 3, none⟩ (I d.o)).setCell ⟨w3.heap.size, 4, none⟩ (I d.s)).setCell ⟨w3.heap.size, 5, none⟩ (I d.i)).cell? ⟨w.heap.size, 2, none⟩ = some (.int .i64 0) := EW6.out.kR.cell 2
    have z2 := EW6.out.kR.frozen 2
    have k3 : (((w5.setCell ⟨w3.heap.size, 3, none⟩ (I d.o)).setCell ⟨w3.heap.size, 4, none⟩ (I d.s)).setCell ⟨w3.heap.size, 5, none⟩ (I d.i)).cell? ⟨w.heap.size, 3, none⟩ = some (.int .i64 0) := EW6.out.kR.cell 3
    have z3 := EW6.out.kR.frozen 3
    have k4 : (((w5.setCell ⟨w3.heap.size, 3, none⟩ (I d.o)).setCell ⟨w3.heap.size, 4, none⟩ (I d.s)).setCell ⟨w3.heap.size, 5, none⟩ (I d.i)).cell? ⟨w.heap.size, 4, none⟩ = some (.int .i64 0) := EW6.out.kR.cell 4
    have z4 := EW6.out.kR.frozen 4
    have k5 : (((w5.setCell ⟨w3.heap.size, 3, none⟩ (I d.o)).setCell ⟨w3.heap.size, 4, none⟩ (I d.s)).setCell ⟨w3.heap.size, 5, none⟩ (I d.i)).cell? ⟨w.heap.size, 5, none⟩ = some (.int .i64 0) := EW6.out.kR.cell 5
    have z5 := EW6.out.kR.frozen 5
    have k6 : (((w5.setCell ⟨w3.heap.size, 3, none⟩ (I d.o)).setCell ⟨w3.heap.size, 4, none⟩ (I d.s)).setCell ⟨w3.heap.size, 5, none⟩ (I d.i)).cell? ⟨w.heap.size, 6, none⟩ = some (.slice none 0 0) := EW6.out.kR.cell 6
    have z6 := EW6.out.kR.frozen 6
    go_wp2
    have HF : Hid (Blk (put7 (((w5.setCell ⟨w3.heap.size, 3, none⟩ (I d.o)).setCell ⟨w3.heap.size, 4, none⟩ (I d.s)).setCell ⟨w3.heap.size, 5, none⟩ (I d.i)) w.heap.size (I 5) (I ob) (I (v)) (I d.o) (I d.s) (I d.i) (.slice none 0 0)) w.heap.size #[I 5, I ob, I (v), I d.o, I d.s, I d.i, .slice none 0 0] 43) := put7_blk EW6.out.kR _ _ _ _ _ _ _
    have HY : Hid (Tk (put7 (((w5.setCell ⟨w3.heap.size, 3, none⟩ (I d.o)).setCell ⟨w3.heap.size, 4, none⟩ (I d.s)).setCell ⟨w3.heap.size, 5, none⟩ (I d.i)) w.heap.size (I 5) (I ob) (I (v)) (I d.o) (I d.s) (I d.i) (.slice none 0 0)) g c _ ∧ w.grownBy (put7 (((w5.setCell ⟨w3.heap.size, 3, none⟩ (I d.o)).setCell ⟨w3.heap.size, 4, none⟩ (I d.s)).setCell ⟨w3.heap.size, 5, none⟩ (I d.i)) w.heap.size (I 5) (I ob) (I (v)) (I d.o) (I d.s) (I d.i) (.slice none 0 0)) (some g)) := EW6.out.fin _ _ _ _ _ _ _
    have HP : Hid (∀ bb, bb ≠ w.heap.size → (put7 (((w5.setCell ⟨w3.heap.size, 3, none⟩ (I d.o)).setCell ⟨w3.heap.size, 4, none⟩ (I d.s)).setCell ⟨w3.heap.size, 5, none⟩ (I d.i)) w.heap.size (I 5) (I ob) (I (v)) (I d.o) (I d.s) (I d.i) (.slice none 0 0)).heap[bb]? = (((w5.setCell ⟨w3.heap.size, 3, none⟩ (I d.o)).setCell ⟨w3.heap.size, 4, none⟩ (I d.s)).setCell ⟨w3.heap.size, 5, none⟩ (I d.i)).heap[bb]?) := fun bb hk => put7_heap _ _ _ _ _ _ _ _ _ bb hk
    unfold put7 at HF HY HP
    generalize ((((((((((w5.setCell ⟨w3.heap.size, 3, none⟩ (I d.o)).setCell ⟨w3.heap.size, 4, none⟩ (I d.s)).setCell ⟨w3.heap.size, 5, none⟩ (I d.i)).setCell ⟨w.heap.size, 0, none⟩ (I 5)).setCell ⟨w.heap.size, 1, none⟩ (I ob)).setCell ⟨w.heap.size, 2, none⟩ (I (v))).setCell ⟨w.heap.size, 3, none⟩ (I d.o)).setCell ⟨w.heap.size, 4, none⟩ (I d.s)).setCell ⟨w.heap.size, 5, none⟩ (I d.i)).setCell ⟨w.heap.size, 6, none⟩ (.slice none 0 0)) = wF at *
    have f0 : wF.cell? ⟨w.heap.size, 0, none⟩ = some (I 5) := HF.out.cell 0
    have f1 : wF.cell? ⟨w.heap.size, 1, none⟩ = some (I ob) := HF.out.cell 1
    have f2 : wF.cell? ⟨w.heap.size, 2, none⟩ = some (I (v)) := HF.out.cell 2
    have f3 : wF.cell? ⟨w.heap.size, 3, none⟩ = some (I d.o) := HF.out.cell 3
    have f4 : wF.cell? ⟨w.heap.size, 4, none⟩ = some (I d.s) := HF.out.cell 4
    have f5 : wF.cell? ⟨w.heap.size, 5, none⟩ = some (I d.i) := HF.out.cell 5
    have f6 : wF.cell? ⟨w.heap.size, 6, none⟩ = some (.slice none 0 0) := HF.out.cell 6
    refine bodyPost_ret (v := effV ⟨⟨5, ob, v, d, []⟩, none, 0⟩) (by simp [results, Tryd.results29, go_sem, f0, f1, f2, f3, f4, f5, f6]) rfl ⟨⟨⟨5, ob, v, d, []⟩, none, 0⟩, rfl, ?_, ?_, ?_, HY.out.2⟩
    · have := HREF.out
      rw [HE1.out, HVA.out] at this ⊢
      rw [HD.out] at this ⊢
      exact (congrArg (fun r => (⟨5, ob, v, r, []⟩ : Wv.Ef)) this).symm
    · exact ⟨rfl, .inl ⟨rfl, rfl⟩⟩
    · rw [HE1.out, HD.out]; exact HY.out.1

end Go.Proofs.YtfmcngncaffloaaDoor

namespace Go.Proofs.YtfmcngncaffloaaDoor
open Go.RowKit
set_option maxRecDepth 100000

set_option maxHeartbeats 1600000 in
theorem teff_6 (c : List UInt8) (q : Wv.St) (g : Nat) (w : World) (h : Tk w g c q) (hc : c.length ≤ 1048576) (ho : Wv.one c q = 6) :
    Calls Tryd.prog 29 #[.pointer (some ⟨g, 0, none⟩)] w fun e w' => ∃ m : Em, e = .returned (effV m) ∧ m.e = (Wv.effF false c q).1 ∧ w'.ownsRow w.heap.size 40 3 m.dv m.e.dots.length (flat dotCells m.e.dots) ∧ Tk w' g c (Wv.effF false c q).2 ∧ w.grownBy w' (some g) := by
  have hlt := h.lt
  have hne : g ≠ w.heap.size := by omega
  have HA1 : Hid (Tk (w.alloc (.cells #[.int .i64 0, .int .i64 0, .int .i64 0, .int .i64 0, .int .i64 0, .int .i64 0, .slice none 0 0] 43)) g c q) := h.alloc _
  have HA3 : Hid (Blk (w.alloc (.cells #[.int .i64 0, .int .i64 0, .int .i64 0, .int .i64 0, .int .i64 0, .int .i64 0, .slice none 0 0] 43)) w.heap.size #[.int .i64 0, .int .i64 0, .int .i64 0, .int .i64 0, .int .i64 0, .int .i64 0, .slice none 0 0] 43) := heap_alloc_new w _
  have HA4 : Hid (w.grownBy (w.alloc (.cells #[.int .i64 0, .int .i64 0, .int .i64 0, .int .i64 0, .int .i64 0, .int .i64 0, .slice none 0 0] 43)) (some g)) := grown_new (grown_refl _ _)
  clear h
  go_enter Tryd.func29, Tryd.ntmps29
  go_wp2_with fail
  generalize w.alloc (.cells #[.int .i64 0, .int .i64 0, .int .i64 0, .int .i64 0, .int .i64 0, .int .i64 0, .slice none 0 0] 43) = wA at *
  refine (take1_any c _ g _ HA1.out hc).mono ?_
  rintro e w1 ⟨rfl, hR, hG⟩
  have HR1 : Hid (Tk w1 g c (Wv.nxt c q)) := hR
  have HG1 : Hid (w.grownBy w1 (some g)) := grown_trans HA4.out hG
  have HK1 : Hid (Blk w1 w.heap.size #[.int .i64 0, .int .i64 0, .int .i64 0, .int .i64 0, .int .i64 0, .int .i64 0, .slice none 0 0] 43) := HA3.out.grown hG (by simp; omega)
  clear hR hG HA1 HA3 HA4
  go_wp2_with fail
  refine (take1_any c _ g _ HR1.out hc).mono ?_
  rintro e w2 ⟨rfl, hR, hG⟩
  have HR2 : Hid (Tk w2 g c (Wv.nxt2 c q)) := hR
  have HG2 : Hid (w.grownBy w2 (some g)) := grown_trans HG1.out hG
  have HK2 : Hid (Blk w2 w.heap.size #[.int .i64 0, .int .i64 0, .int .i64 0, .int .i64 0, .int .i64 0, .int .i64 0, .slice none 0 0] 43) := HK1.out.grown hG (by simp; omega)
  clear hR hG HR1 HK1 HG1
  go_wp2_with fail
  refine (take2_any c _ g _ HR2.out hc).mono ?_
  rintro e w3 ⟨rfl, hR, hG⟩
  have HR3 : Hid (Tk w3 g c (Wv.nxt2 c (Wv.nxt2 c q))) := hR
  have HG3 : Hid (w.grownBy w3 (some g)) := grown_trans HG2.out hG
  have HK3 : Hid (Blk w3 w.heap.size #[.int .i64 0, .int .i64 0, .int .i64 0, .int .i64 0, .int .i64 0, .int .i64 0, .slice none 0 0] 43) := HK2.out.grown hG (by simp; omega)
  clear hR hG HR2 HK2 HG2
  have HE1 : Hid (Wv.effF false c q = (⟨Wv.one c q, Wv.one c (Wv.nxt c q), Wv.v16 (Wv.two false c (Wv.nxt2 c q)), if Wv.rRef (Wv.one c q) = 0 then ⟨0, 0, 0⟩ else Wv.dotR c (Wv.eff5 false c q), (Wv.effD false c q).1⟩, (Wv.effD false c q).2)) := rfl
  have HE5 : Hid (Wv.eff5 false c q = Wv.nxt2 c (Wv.nxt2 c q)) := rfl
  have HE6 : Hid (Wv.eff6 false c q = if Wv.rRef (Wv.one c q) = 0 then Wv.eff5 false c q else Wv.nxt3 c (Wv.eff5 false c q)) := rfl
  have HED : Hid (Wv.effD false c q = if 0 < Wv.rMostD (Wv.one c q) then Wv.run (Wv.dotF c) (Wv.one c (Wv.eff6 false c q)).toNat (Wv.nxt c (Wv.eff6 false c q)) else ([], Wv.eff6 false c q)) := rfl
  have hvl := Wv.two_lt false c (Wv.nxt2 c q)
  have HV : Hid (Wv.v16 (Wv.two false c (Wv.nxt2 c q)) = if 32768 ≤ Wv.two false c (Wv.nxt2 c q) then Wv.two false c (Wv.nxt2 c q) - 65536 else Wv.two false c (Wv.nxt2 c q)) := rfl
  have HREF : Hid ((Wv.effF false c q).1.ref = Wv.dotR c (Wv.nxt2 c (Wv.nxt2 c q))) := effF_ref1 ho (by decide)
  rw [ho] at HE1 HE6 HED
  generalize Wv.one c (Wv.nxt c q) = ob at *
  generalize Wv.two false c (Wv.nxt2 c q) = v at *
  generalize Wv.nxt2 c (Wv.nxt2 c q) = q4 at *
  clear ho
  by_cases hv : 32768 ≤ v
  · have HVA : Hid (Wv.v16 v = v - 65536) := by show _ = _; rw [HV.out]; exact if_pos hv
    have hr : ¬ Wv.rRef 6 = 0 := by decide
    have hm : ¬ 0 < Wv.rMostD 6 := by decide
    have H6 : Hid (Wv.eff6 false c q = Wv.nxt3 c q4) := by show _ = _; rw [HE6.out, if_neg hr, HE5.out]
    have HD : Hid (Wv.effD false c q = ([], Wv.nxt3 c q4)) := by show _ = _; rw [HED.out, if_neg hm, H6.out]
    have EW : Hid (Et w (w3.alloc (.cells #[I 6, I ob, I (v - 65536), I 0, I 0, I 0, .slice none 0 0] 43)) g w3.heap.size c q4 #[I 6, I ob, I (v - 65536), I 0, I 0, I 0, .slice none 0 0]) := Et.begin HR3.out HG3.out HK3.out hlt _
    clear HR3 HG3 HK3 HV hr hm
    go_wp2_with fail
    refine (tdot_any c q4 g _ EW.out.rd hc).mono ?_
    rintro e w5 ⟨rfl, hR5, hG5⟩
    have EW5 : Hid (Et w w5 g w3.heap.size c (Wv.nxt3 c q4) #[I 6, I ob, I (v - 65536), I 0, I 0, I 0, .slice none 0 0]) := EW.out.read hG5 hR5
    clear EW hR5 hG5
    generalize Wv.dotR c q4 = d at *
    have EW6 : Hid (Et w (((w5.setCell ⟨w3.heap.size, 3, none⟩ (I d.o)).setCell ⟨w3.heap.size, 4, none⟩ (I d.s)).setCell ⟨w3.heap.size, 5, none⟩ (I d.i)) g w3.heap.size c (Wv.nxt3 c q4) #[I 6, I ob, I (v - 65536), I d.o, I d.s, I d.i, .slice none 0 0]) := ((EW5.out.set 3 _).set 4 _).set 5 _
    have y3 : w5.cell? ⟨w3.heap.size, 3, none⟩ = some (.int .i64 0) := EW5.out.kE.cell 3
    have x3 := EW5.out.kE.frozen 3
    have y4 : w5.cell? ⟨w3.heap.size, 4, none⟩ = some (.int .i64 0) := EW5.out.kE.cell 4
    have x4 := EW5.out.kE.frozen 4
    have y5 : w5.cell? ⟨w3.heap.size, 5, none⟩ = some (.int .i64 0) := EW5.out.kE.cell 5
    have x5 := EW5.out.kE.frozen 5
    have e0 : (((w5.setCell ⟨w3.heap.size, 3, none⟩ (I d.o)).setCell ⟨w3.heap.size, 4, none⟩ (I d.s)).setCell ⟨w3.heap.size, 5, none⟩ (I d.i)).cell? ⟨w3.heap.size, 0, none⟩ = some (I 6) := EW6.out.kE.cell 0
    have e1 : (((w5.setCell ⟨w3.heap.size, 3, none⟩ (I d.o)).setCell ⟨w3.heap.size, 4, none⟩ (I d.s)).setCell ⟨w3.heap.size, 5, none⟩ (I d.i)).cell? ⟨w3.heap.size, 1, none⟩ = some (I ob) := EW6.out.kE.cell 1
    have e2 : (((w5.setCell ⟨w3.heap.size, 3, none⟩ (I d.o)).setCell ⟨w3.heap.size, 4, none⟩ (I d.s)).setCell ⟨w3.heap.size, 5, none⟩ (I d.i)).cell? ⟨w3.heap.size, 2, none⟩ = some (I (v - 65536)) := EW6.out.kE.cell 2
    have e3 : (((w5.setCell ⟨w3.heap.size, 3, none⟩ (I d.o)).setCell ⟨w3.heap.size, 4, none⟩ (I d.s)).setCell ⟨w3.heap.size, 5, none⟩ (I d.i)).cell? ⟨w3.heap.size, 3, none⟩ = some (I d.o) := EW6.out.kE.cell 3
    have e4 : (((w5.setCell ⟨w3.heap.size, 3, none⟩ (I d.o)).setCell ⟨w3.heap.size, 4, none⟩ (I d.s)).setCell ⟨w3.heap.size, 5, none⟩ (I d.i)).cell? ⟨w3.heap.size, 4, none⟩ = some (I d.s) := EW6.out.kE.cell 4
    have e5 : (((w5.setCell ⟨w3.heap.size, 3, none⟩ (I d.o)).setCell ⟨w3.heap.size, 4, none⟩ (I d.s)).setCell ⟨w3.heap.size, 5, none⟩ (I d.i)).cell? ⟨w3.heap.size, 5, none⟩ = some (I d.i) := EW6.out.kE.cell 5
    have e6 : (((w5.setCell ⟨w3.heap.size, 3, none⟩ (I d.o)).setCell ⟨w3.heap.size, 4, none⟩ (I d.s)).setCell ⟨w3.heap.size, 5, none⟩ (I d.i)).cell? ⟨w3.heap.size, 6, none⟩ = some (.slice none 0 0) := EW6.out.kE.cell 6
    have k0 : (((w5.setCell ⟨w3.heap.size, 3, none⟩ (I d.o)).setCell ⟨w3.heap.size, 4, none⟩ (I d.s)).setCell ⟨w3.heap.size, 5, none⟩ (I d.i)).cell? ⟨w.heap.size, 0, none⟩ = some (.int .i64 0) := EW6.out.kR.cell 0
    have z0 := EW6.out.kR.frozen 0
    have k1 : (((w5.setCell ⟨w3.heap.size, 3, none⟩ (I d.o)).setCell ⟨w3.heap.size, 4, none⟩ (I d.s)).setCell ⟨w3.heap.size, 5, none⟩ (I d.i)).cell? ⟨w.heap.size, 1, none⟩ = some (.int .i64 0) := EW6.out.kR.cell 1
    have z1 := EW6.out.kR.frozen 1
    have k2 : (((w5.setCell ⟨w3.heap.size, 3, none⟩ (I d.o)).setCell ⟨w3.heap.size, 4, none⟩ (I d.s)).setCell ⟨w3.heap.size, 5, none⟩ (I d.i)).cell? ⟨w.heap.size, 2, none⟩ = some (.int .i64 0) := EW6.out.kR.cell 2
    have z2 := EW6.out.kR.frozen 2
    have k3 : (((w5.setCell ⟨w3.heap.size, 3, none⟩ (I d.o)).setCell ⟨w3.heap.size, 4, none⟩ (I d.s)).setCell ⟨w3.heap.size, 5, none⟩ (I d.i)).cell? ⟨w.heap.size, 3, none⟩ = some (.int .i64 0) := EW6.out.kR.cell 3
    have z3 := EW6.out.kR.frozen 3
    have k4 : (((w5.setCell ⟨w3.heap.size, 3, none⟩ (I d.o)).setCell ⟨w3.heap.size, 4, none⟩ (I d.s)).setCell ⟨w3.heap.size, 5, none⟩ (I d.i)).cell? ⟨w.heap.size, 4, none⟩ = some (.int .i64 0) := EW6.out.kR.cell 4
    have z4 := EW6.out.kR.frozen 4
    have k5 : (((w5.setCell ⟨w3.heap.size, 3, none⟩ (I d.o)).setCell ⟨w3.heap.size, 4, none⟩ (I d.s)).setCell ⟨w3.heap.size, 5, none⟩ (I d.i)).cell? ⟨w.heap.size, 5, none⟩ = some (.int .i64 0) := EW6.out.kR.cell 5
    have z5 := EW6.out.kR.frozen 5
    have k6 : (((w5.setCell ⟨w3.heap.size, 3, none⟩ (I d.o)).setCell ⟨w3.heap.size, 4, none⟩ (I d.s)).setCell ⟨w3.heap.size, 5, none⟩ (I d.i)).cell? ⟨w.heap.size, 6, none⟩ = some (.slice none 0 0) := EW6.out.kR.cell 6
    have z6 := EW6.out.kR.frozen 6
    go_wp2
    have HF : Hid (Blk (put7 (((w5.setCell ⟨w3.heap.size, 3, none⟩ (I d.o)).setCell ⟨w3.heap.size, 4, none⟩ (I d.s)).setCell ⟨w3.heap.size, 5, none⟩ (I d.i)) w.heap.size (I 6) (I ob) (I (v - 65536)) (I d.o) (I d.s) (I d.i) (.slice none 0 0)) w.heap.size #[I 6, I ob, I (v - 65536), I d.o, I d.s, I d.i, .slice none 0 0] 43) := put7_blk EW6.out.kR _ _ _ _ _ _ _
    have HY : Hid (Tk (put7 (((w5.setCell ⟨w3.heap.size, 3, none⟩ (I d.o)).setCell ⟨w3.heap.size, 4, none⟩ (I d.s)).setCell ⟨w3.heap.size, 5, none⟩ (I d.i)) w.heap.size (I 6) (I ob) (I (v - 65536)) (I d.o) (I d.s) (I d.i) (.slice none 0 0)) g c _ ∧ w.grownBy (put7 (((w5.setCell ⟨w3.heap.size, 3, none⟩ (I d.o)).setCell ⟨w3.heap.size, 4, none⟩ (I d.s)).setCell ⟨w3.heap.size, 5, none⟩ (I d.i)) w.heap.size (I 6) (I ob) (I (v - 65536)) (I d.o) (I d.s) (I d.i) (.slice none 0 0)) (some g)) := EW6.out.fin _ _ _ _ _ _ _
    have HP : Hid (∀ bb, bb ≠ w.heap.size → (put7 (((w5.setCell ⟨w3.heap.size, 3, none⟩ (I d.o)).setCell ⟨w3.heap.size, 4, none⟩ (I d.s)).setCell ⟨w3.heap.size, 5, none⟩ (I d.i)) w.heap.size (I 6) (I ob) (I (v - 65536)) (I d.o) (I d.s) (I d.i) (.slice none 0 0)).heap[bb]? = (((w5.setCell ⟨w3.heap.size, 3, none⟩ (I d.o)).setCell ⟨w3.heap.size, 4, none⟩ (I d.s)).setCell ⟨w3.heap.size, 5, none⟩ (I d.i)).heap[bb]?) := fun bb hk => put7_heap _ _ _ _ _ _ _ _ _ bb hk
    unfold put7 at HF HY HP
    generalize ((((((((((w5.setCell ⟨w3.heap.size, 3, none⟩ (I d.o)).setCell ⟨w3.heap.size, 4, none⟩ (I d.s)).setCell ⟨w3.heap.size, 5, none⟩ (I d.i)).setCell ⟨w.heap.size, 0, none⟩ (I 6)).setCell ⟨w.heap.size, 1, none⟩ (I ob)).setCell ⟨w.heap.size, 2, none⟩ (I (v - 65536))).setCell ⟨w.heap.size, 3, none⟩ (I d.o)).setCell ⟨w.heap.size, 4, none⟩ (I d.s)).setCell ⟨w.heap.size, 5, none⟩ (I d.i)).setCell ⟨w.heap.size, 6, none⟩ (.slice none 0 0)) = wF at *
    have f0 : wF.cell? ⟨w.heap.size, 0, none⟩ = some (I 6) := HF.out.cell 0
    have f1 : wF.cell? ⟨w.heap.size, 1, none⟩ = some (I ob) := HF.out.cell 1
    have f2 : wF.cell? ⟨w.heap.size, 2, none⟩ = some (I (v - 65536)) := HF.out.cell 2
    have f3 : wF.cell? ⟨w.heap.size, 3, none⟩ = some (I d.o) := HF.out.cell 3
    have f4 : wF.cell? ⟨w.heap.size, 4, none⟩ = some (I d.s) := HF.out.cell 4
    have f5 : wF.cell? ⟨w.heap.size, 5, none⟩ = some (I d.i) := HF.out.cell 5
    have f6 : wF.cell? ⟨w.heap.size, 6, none⟩ = some (.slice none 0 0) := HF.out.cell 6
    refine bodyPost_ret (v := effV ⟨⟨6, ob, v - 65536, d, []⟩, none, 0⟩) (by simp [results, Tryd.results29, go_sem, f0, f1, f2, f3, f4, f5, f6]) rfl ⟨⟨⟨6, ob, v - 65536, d, []⟩, none, 0⟩, rfl, ?_, ?_, ?_, HY.out.2⟩
    · have := HREF.out
      rw [HE1.out, HVA.out] at this ⊢
      rw [HD.out] at this ⊢
      exact (congrArg (fun r => (⟨6, ob, v - 65536, r, []⟩ : Wv.Ef)) this).symm
    · exact ⟨rfl, .inl ⟨rfl, rfl⟩⟩
    · rw [HE1.out, HD.out]; exact HY.out.1
  · have HVA : Hid (Wv.v16 v = v) := by show _ = _; rw [HV.out]; exact if_neg hv
    have hr : ¬ Wv.rRef 6 = 0 := by decide
    have hm : ¬ 0 < Wv.rMostD 6 := by decide
    have H6 : Hid (Wv.eff6 false c q = Wv.nxt3 c q4) := by show _ = _; rw [HE6.out, if_neg hr, HE5.out]
    have HD : Hid (Wv.effD false c q = ([], Wv.nxt3 c q4)) := by show _ = _; rw [HED.out, if_neg hm, H6.out]
    have EW : Hid (Et w (w3.alloc (.cells #[I 6, I ob, I (v), I 0, I 0, I 0, .slice none 0 0] 43)) g w3.heap.size c q4 #[I 6, I ob, I (v), I 0, I 0, I 0, .slice none 0 0]) := Et.begin HR3.out HG3.out HK3.out hlt _
    clear HR3 HG3 HK3 HV hr hm
    go_wp2_with fail
    refine (tdot_any c q4 g _ EW.out.rd hc).mono ?_
    rintro e w5 ⟨rfl, hR5, hG5⟩
    have EW5 : Hid (Et w w5 g w3.heap.size c (Wv.nxt3 c q4) #[I 6, I ob, I (v), I 0, I 0, I 0, .slice none 0 0]) := EW.out.read hG5 hR5
    clear EW hR5 hG5
    generalize Wv.dotR c q4 = d at *
    have EW6 : Hid (Et w (((w5.setCell ⟨w3.heap.size, 3, none⟩ (I d.o)).setCell ⟨w3.heap.size, 4, none⟩ (I d.s)).setCell ⟨w3.heap.size, 5, none⟩ (I d.i)) g w3.heap.size c (Wv.nxt3 c q4) #[I 6, I ob, I (v), I d.o, I d.s, I d.i, .slice none 0 0]) := ((EW5.out.set 3 _).set 4 _).set 5 _
    have y3 : w5.cell? ⟨w3.heap.size, 3, none⟩ = some (.int .i64 0) := EW5.out.kE.cell 3
    have x3 := EW5.out.kE.frozen 3
    have y4 : w5.cell? ⟨w3.heap.size, 4, none⟩ = some (.int .i64 0) := EW5.out.kE.cell 4
    have x4 := EW5.out.kE.frozen 4
    have y5 : w5.cell? ⟨w3.heap.size, 5, none⟩ = some (.int .i64 0) := EW5.out.kE.cell 5
    have x5 := EW5.out.kE.frozen 5
    have e0 : (((w5.setCell ⟨w3.heap.size, 3, none⟩ (I d.o)).setCell ⟨w3.heap.size, 4, none⟩ (I d.s)).setCell ⟨w3.heap.size, 5, none⟩ (I d.i)).cell? ⟨w3.heap.size, 0, none⟩ = some (I 6) := EW6.out.kE.cell 0
    have e1 : (((w5.setCell ⟨w3.heap.size, 3, none⟩ (I d.o)).setCell ⟨w3.heap.size, 4, none⟩ (I d.s)).setCell ⟨w3.heap.size, 5, none⟩ (I d.i)).cell? ⟨w3.heap.size, 1, none⟩ = some (I ob) := EW6.out.kE.cell 1
    have e2 : (((w5.setCell ⟨w3.heap.size, 3, none⟩ (I d.o)).setCell ⟨w3.heap.size, 4, none⟩ (I d.s)).setCell ⟨w3.heap.size, 5, none⟩ (I d.i)).cell? ⟨w3.heap.size, 2, none⟩ = some (I (v)) := EW6.out.kE.cell 2
    have e3 : (((w5.setCell ⟨w3.heap.size, 3, none⟩ (I d.o)).setCell ⟨w3.heap.size, 4, none⟩ (I d.s)).setCell ⟨w3.heap.size, 5, none⟩ (I d.i)).cell? ⟨w3.heap.size, 3, none⟩ = some (I d.o) := EW6.out.kE.cell 3
    have e4 : (((w5.setCell ⟨w3.heap.size, 3, none⟩ (I d.o)).setCell ⟨w3.heap.size, 4, none⟩ (I d.s)).setCell ⟨w3.heap.size, 5, none⟩ (I d.i)).cell? ⟨w3.heap.size, 4, none⟩ = some (I d.s) := EW6.out.kE.cell 4
    have e5 : (((w5.setCell ⟨w3.heap.size, 3, none⟩ (I d.o)).setCell ⟨w3.heap.size, 4, none⟩ (I d.s)).setCell ⟨w3.heap.size, 5, none⟩ (I d.i)).cell? ⟨w3.heap.size, 5, none⟩ = some (I d.i) := EW6.out.kE.cell 5
    have e6 : (((w5.setCell ⟨w3.heap.size, 3, none⟩ (I d.o)).setCell ⟨w3.heap.size, 4, none⟩ (I d.s)).setCell ⟨w3.heap.size, 5, none⟩ (I d.i)).cell? ⟨w3.heap.size, 6, none⟩ = some (.slice none 0 0) := EW6.out.kE.cell 6
    have k0 : (((w5.setCell ⟨w3.heap.size, 3, none⟩ (I d.o)).setCell ⟨w3.heap.size, 4, none⟩ (I d.s)).setCell ⟨w3.heap.size, 5, none⟩ (I d.i)).cell? ⟨w.heap.size, 0, none⟩ = some (.int .i64 0) := EW6.out.kR.cell 0
    have z0 := EW6.out.kR.frozen 0
    have k1 : (((w5.setCell ⟨w3.heap.size, 3, none⟩ (I d.o)).setCell ⟨w3.heap.size, 4, none⟩ (I d.s)).setCell ⟨w3.heap.size, 5, none⟩ (I d.i)).cell? ⟨w.heap.size, 1, none⟩ = some (.int .i64 0) := EW6.out.kR.cell 1
    have z1 := EW6.out.kR.frozen 1
    have k2 : (((w5.setCell ⟨w3.heap.size, 3, none⟩ (I d.o)).setCell ⟨w3.heap.size, 4, none⟩ (I d.s)).setCell ⟨w3.heap.size, 5, none⟩ (I d.i)).cell? ⟨w.heap.size, 2, none⟩ = some (.int .i64 0) := EW6.out.kR.cell 2
    have z2 := EW6.out.kR.frozen 2
    have k3 : (((w5.setCell ⟨w3.heap.size, 3, none⟩ (I d.o)).setCell ⟨w3.heap.size, 4, none⟩ (I d.s)).setCell ⟨w3.heap.size, 5, none⟩ (I d.i)).cell? ⟨w.heap.size, 3, none⟩ = some (.int .i64 0) := EW6.out.kR.cell 3
    have z3 := EW6.out.kR.frozen 3
    have k4 : (((w5.setCell ⟨w3.heap.size, 3, none⟩ (I d.o)).setCell ⟨w3.heap.size, 4, none⟩ (I d.s)).setCell ⟨w3.heap.size, 5, none⟩ (I d.i)).cell? ⟨w.heap.size, 4, none⟩ = some (.int .i64 0) := EW6.out.kR.cell 4
    have z4 := EW6.out.kR.frozen 4
    have k5 : (((w5.setCell ⟨w3.heap.size, 3, none⟩ (I d.o)).setCell ⟨w3.heap.size, 4, none⟩ (I d.s)).setCell ⟨w3.heap.size, 5, none⟩ (I d.i)).cell? ⟨w.heap.size, 5, none⟩ = some (.int .i64 0) := EW6.out.kR.cell 5
    have z5 := EW6.out.kR.frozen 5
    have k6 : (((w5.setCell ⟨w3.heap.size, 3, none⟩ (I d.o)).setCell ⟨w3.heap.size, 4, none⟩ (I d.s)).setCell ⟨w3.heap.size, 5, none⟩ (I d.i)).cell? ⟨w.heap.size, 6, none⟩ = some (.slice none 0 0) := EW6.out.kR.cell 6
    have z6 := EW6.out.kR.frozen 6
    go_wp2
    have HF : Hid (Blk (put7 (((w5.setCell ⟨w3.heap.size, 3, none⟩ (I d.o)).setCell ⟨w3.heap.size, 4, none⟩ (I d.s)).setCell ⟨w3.heap.size, 5, none⟩ (I d.i)) w.heap.size (I 6) (I ob) (I (v)) (I d.o) (I d.s) (I d.i) (.slice none 0 0)) w.heap.size #[I 6, I ob, I (v), I d.o, I d.s, I d.i, .slice none 0 0] 43) := put7_blk EW6.out.kR _ _ _ _ _ _ _
    have HY : Hid (Tk (put7 (((w5.setCell ⟨w3.heap.size, 3, none⟩ (I d.o)).setCell ⟨w3.heap.size, 4, none⟩ (I d.s)).setCell ⟨w3.heap.size, 5, none⟩ (I d.i)) w.heap.size (I 6) (I ob) (I (v)) (I d.o) (I d.s) (I d.i) (.slice none 0 0)) g c _ ∧ w.grownBy (put7 (((w5.setCell ⟨w3.heap.size, 3, none⟩ (I d.o)).setCell ⟨w3.heap.size, 4, none⟩ (I d.s)).setCell ⟨w3.heap.size, 5, none⟩ (I d.i)) w.heap.size (I 6) (I ob) (I (v)) (I d.o) (I d.s) (I d.i) (.slice none 0 0)) (some g)) := EW6.out.fin _ _ _ _ _ _ _
    have HP : Hid (∀ bb, bb ≠ w.heap.size → (put7 (((w5.setCell ⟨w3.heap.size, 3, none⟩ (I d.o)).setCell ⟨w3.heap.size, 4, none⟩ (I d.s)).setCell ⟨w3.heap.size, 5, none⟩ (I d.i)) w.heap.size (I 6) (I ob) (I (v)) (I d.o) (I d.s) (I d.i) (.slice none 0 0)).heap[bb]? = (((w5.setCell ⟨w3.heap.size, 3, none⟩ (I d.o)).setCell ⟨w3.heap.size, 4, none⟩ (I d.s)).setCell ⟨w3.heap.size, 5, none⟩ (I d.i)).heap[bb]?) := fun bb hk => put7_heap _ _ _ _ _ _ _ _ _ bb hk
    unfold put7 at HF HY HP
    generalize ((((((((((w5.setCell ⟨w3.heap.size, 3, none⟩ (I d.o)).setCell ⟨w3.heap.size, 4, none⟩ (I d.s)).setCell ⟨w3.heap.size, 5, none⟩ (I d.i)).setCell ⟨w.heap.size, 0, none⟩ (I 6)).setCell ⟨w.heap.size, 1, none⟩ (I ob)).setCell ⟨w.heap.size, 2, none⟩ (I (v))).setCell ⟨w.heap.size, 3, none⟩ (I d.o)).setCell ⟨w.heap.size, 4, none⟩ (I d.s)).setCell ⟨w.heap.size, 5, none⟩ (I d.i)).setCell ⟨w.heap.size, 6, none⟩ (.slice none 0 0)) = wF at *
    have f0 : wF.cell? ⟨w.heap.size, 0, none⟩ = some (I 6) := HF.out.cell 0
    have f1 : wF.cell? ⟨w.heap.size, 1, none⟩ = some (I ob) := HF.out.cell 1
    have f2 : wF.cell? ⟨w.heap.size, 2, none⟩ = some (I (v)) := HF.out.cell 2
    have f3 : wF.cell? ⟨w.heap.size, 3, none⟩ = some (I d.o) := HF.out.cell 3
    have f4 : wF.cell? ⟨w.heap.size, 4, none⟩ = some (I d.s) := HF.out.cell 4
    have f5 : wF.cell? ⟨w.heap.size, 5, none⟩ = some (I d.i) := HF.out.cell 5
    have f6 : wF.cell? ⟨w.heap.size, 6, none⟩ = some (.slice none 0 0) := HF.out.cell 6
    refine bodyPost_ret (v := effV ⟨⟨6, ob, v, d, []⟩, none, 0⟩) (by simp [results, Tryd.results29, go_sem, f0, f1, f2, f3, f4, f5, f6]) rfl ⟨⟨⟨6, ob, v, d, []⟩, none, 0⟩, rfl, ?_, ?_, ?_, HY.out.2⟩
    · have := HREF.out
      rw [HE1.out, HVA.out] at this ⊢
      rw [HD.out] at this ⊢
      exact (congrArg (fun r => (⟨6, ob, v, r, []⟩ : Wv.Ef)) this).symm
    · exact ⟨rfl, .inl ⟨rfl, rfl⟩⟩
    · rw [HE1.out, HD.out]; exact HY.out.1

end Go.Proofs.YtfmcngncaffloaaDoor

namespace Go.Proofs.YtfmcngncaffloaaDoor
open Go.RowKit
set_option maxRecDepth 100000

set_option maxHeartbeats 1600000 in
theorem teff_3 (c : List UInt8) (q : Wv.St) (g : Nat) (w : World) (h : Tk w g c q) (hc : c.length ≤ 1048576) (ho : Wv.one c q = 3) :
    Calls Tryd.prog 29 #[.pointer (some ⟨g, 0, none⟩)] w fun e w' => ∃ m : Em, e = .returned (effV m) ∧ m.e = (Wv.effF false c q).1 ∧ w'.ownsRow w.heap.size 40 3 m.dv m.e.dots.length (flat dotCells m.e.dots) ∧ Tk w' g c (Wv.effF false c q).2 ∧ w.grownBy w' (some g) := by
  have hlt := h.lt
  have hne : g ≠ w.heap.size := by omega
  have HA1 : Hid (Tk (w.alloc (.cells #[.int .i64 0, .int .i64 0, .int .i64 0, .int .i64 0, .int .i64 0, .int .i64 0, .slice none 0 0] 43)) g c q) := h.alloc _
  have HA3 : Hid (Blk (w.alloc (.cells #[.int .i64 0, .int .i64 0, .int .i64 0, .int .i64 0, .int .i64 0, .int .i64 0, .slice none 0 0] 43)) w.heap.size #[.int .i64 0, .int .i64 0, .int .i64 0, .int .i64 0, .int .i64 0, .int .i64 0, .slice none 0 0] 43) := heap_alloc_new w _
  have HA4 : Hid (w.grownBy (w.alloc (.cells #[.int .i64 0, .int .i64 0, .int .i64 0, .int .i64 0, .int .i64 0, .int .i64 0, .slice none 0 0] 43)) (some g)) := grown_new (grown_refl _ _)
  clear h
  go_enter Tryd.func29, Tryd.ntmps29
  go_wp2_with fail
  generalize w.alloc (.cells #[.int .i64 0, .int .i64 0, .int .i64 0, .int .i64 0, .int .i64 0, .int .i64 0, .slice none 0 0] 43) = wA at *
  refine (take1_any c _ g _ HA1.out hc).mono ?_
  rintro e w1 ⟨rfl, hR, hG⟩
  have HR1 : Hid (Tk w1 g c (Wv.nxt c q)) := hR
  have HG1 : Hid (w.grownBy w1 (some g)) := grown_trans HA4.out hG
  have HK1 : Hid (Blk w1 w.heap.size #[.int .i64 0, .int .i64 0, .int .i64 0, .int .i64 0, .int .i64 0, .int .i64 0, .slice none 0 0] 43) := HA3.out.grown hG (by simp; omega)
  clear hR hG HA1 HA3 HA4
  go_wp2_with fail
  refine (take1_any c _ g _ HR1.out hc).mono ?_
  rintro e w2 ⟨rfl, hR, hG⟩
  have HR2 : Hid (Tk w2 g c (Wv.nxt2 c q)) := hR
  have HG2 : Hid (w.grownBy w2 (some g)) := grown_trans HG1.out hG
  have HK2 : Hid (Blk w2 w.heap.size #[.int .i64 0, .int .i64 0, .int .i64 0, .int .i64 0, .int .i64 0, .int .i64 0, .slice none 0 0] 43) := HK1.out.grown hG (by simp; omega)
  clear hR hG HR1 HK1 HG1
  go_wp2_with fail
  refine (take2_any c _ g _ HR2.out hc).mono ?_
  rintro e w3 ⟨rfl, hR, hG⟩
  have HR3 : Hid (Tk w3 g c (Wv.nxt2 c (Wv.nxt2 c q))) := hR
  have HG3 : Hid (w.grownBy w3 (some g)) := grown_trans HG2.out hG
  have HK3 : Hid (Blk w3 w.heap.size #[.int .i64 0, .int .i64 0, .int .i64 0, .int .i64 0, .int .i64 0, .int .i64 0, .slice none 0 0] 43) := HK2.out.grown hG (by simp; omega)
  clear hR hG HR2 HK2 HG2
  have HE1 : Hid (Wv.effF false c q = (⟨Wv.one c q, Wv.one c (Wv.nxt c q), Wv.v16 (Wv.two false c (Wv.nxt2 c q)), if Wv.rRef (Wv.one c q) = 0 then ⟨0, 0, 0⟩ else Wv.dotR c (Wv.eff5 false c q), (Wv.effD false c q).1⟩, (Wv.effD false c q).2)) := rfl
  have HE5 : Hid (Wv.eff5 false c q = Wv.nxt2 c (Wv.nxt2 c q)) := rfl
  have HE6 : Hid (Wv.eff6 false c q = if Wv.rRef (Wv.one c q) = 0 then Wv.eff5 false c q else Wv.nxt3 c (Wv.eff5 false c q)) := rfl
  have HED : Hid (Wv.effD false c q = if 0 < Wv.rMostD (Wv.one c q) then Wv.run (Wv.dotF c) (Wv.one c (Wv.eff6 false c q)).toNat (Wv.nxt c (Wv.eff6 false c q)) else ([], Wv.eff6 false c q)) := rfl
  have hvl := Wv.two_lt false c (Wv.nxt2 c q)
  have HV : Hid (Wv.v16 (Wv.two false c (Wv.nxt2 c q)) = if 32768 ≤ Wv.two false c (Wv.nxt2 c q) then Wv.two false c (Wv.nxt2 c q) - 65536 else Wv.two false c (Wv.nxt2 c q)) := rfl
  have HREF : Hid ((Wv.effF false c q).1.ref = ⟨0, 0, 0⟩) := effF_ref0 ho (by decide)
  rw [ho] at HE1 HE6 HED
  generalize Wv.one c (Wv.nxt c q) = ob at *
  generalize Wv.two false c (Wv.nxt2 c q) = v at *
  generalize Wv.nxt2 c (Wv.nxt2 c q) = q4 at *
  clear ho
  by_cases hv : 32768 ≤ v
  · have HVA : Hid (Wv.v16 v = v - 65536) := by show _ = _; rw [HV.out]; exact if_pos hv
    have hr : Wv.rRef 3 = 0 := by decide
    have hm : 0 < Wv.rMostD 3 := by decide
    have H6 : Hid (Wv.eff6 false c q = q4) := by show _ = _; rw [HE6.out, if_pos hr, HE5.out]
    have HD : Hid (Wv.effD false c q = Wv.run (Wv.dotF c) (Wv.one c q4).toNat (Wv.nxt c q4)) := by show _ = _; rw [HED.out, if_pos hm, H6.out]
    have EW : Hid (Et w (w3.alloc (.cells #[I 3, I ob, I (v - 65536), I 0, I 0, I 0, .slice none 0 0] 43)) g w3.heap.size c q4 #[I 3, I ob, I (v - 65536), I 0, I 0, I 0, .slice none 0 0]) := Et.begin HR3.out HG3.out HK3.out hlt _
    clear HR3 HG3 HK3 HV hr hm
    go_wp2_with fail
    refine (take1_any c q4 g _ EW.out.rd hc).mono ?_
    rintro e w9 ⟨rfl, hR9, hG9⟩
    have EW9 : Hid (Et w w9 g w3.heap.size c (Wv.nxt c q4) #[I 3, I ob, I (v - 65536), I 0, I 0, I 0, .slice none 0 0]) := EW.out.read hG9 hR9
    clear EW hR9 hG9
    obtain ⟨n1, n2⟩ := Wv.one_lt c q4
    obtain ⟨N, hN⟩ := Int.eq_ofNat_of_zero_le n1
    have HNN : Hid ((Wv.one c q4).toNat = N) := by show _ = _; omega
    rw [hN] at n2 ⊢
    clear hN n1
    have O9 : Hid (w9.ownsRow (w3.heap.size + 1) 40 3 (.slice none 0 0) 0 (flat dotCells [])) := ⟨rfl, .inl ⟨rfl, rfl⟩⟩
    obtain ⟨i, hi, hz0, hz1, hz2⟩ := info_parts infoDt
    go_wp2_with fail
    go_loopw [8] (fun x wr => ∃ (k : Nat) (da : Option Addr) (dc : Nat), k ≤ N ∧ x = I k ∧ Hid (Et w wr g w3.heap.size c (Wv.run (Wv.dotF c) k (Wv.nxt c q4)).2 #[I 3, I ob, I (v - 65536), I 0, I 0, I 0, .slice da k dc]) ∧ Hid (wr.ownsRow (w3.heap.size + 1) 40 3 (.slice da k dc) k (flat dotCells (Wv.run (Wv.dotF c) k (Wv.nxt c q4)).1))) (fun x _ => N - (intOf x).toNat)
    case atStart => exact ⟨0, none, 0, Nat.zero_le _, rfl, EW9, O9⟩
    case round =>
      obtain ⟨k, da, dc, hk, rfl, HE, HO2⟩ := hrel
      clear EW9 O9
      by_cases hlt2 : k < N
      · have HRN : Hid ((Wv.run (Wv.dotF c) (k + 1) (Wv.nxt c q4)) = ((Wv.run (Wv.dotF c) k (Wv.nxt c q4)).1 ++ [Wv.dotR c (Wv.run (Wv.dotF c) k (Wv.nxt c q4)).2], Wv.nxt3 c (Wv.run (Wv.dotF c) k (Wv.nxt c q4)).2)) := rfl
        generalize (Wv.run (Wv.dotF c) k (Wv.nxt c q4)) = rr at *
        go_wp2_with fail
        refine (tdot_any c rr.2 g _ HE.out.rd hc).mono ?_
        rintro e w10 ⟨rfl, hR10, hG10⟩
        have hEl : w3.heap.size < wr.heap.size := HE.out.kE.lt
        have E10 : Hid (Et w w10 g w3.heap.size c (Wv.nxt3 c rr.2) #[I 3, I ob, I (v - 65536), I 0, I 0, I 0, .slice da k dc]) := HE.out.read hG10 hR10
        have O10 : Hid (w10.ownsRow (w3.heap.size + 1) 40 3 (.slice da k dc) k (flat dotCells rr.1)) := own_kept HO2.out (fun b hb => hG10.block b (HO2.out.lt b hb).2 (fun e => by cases e; have := (HO2.out.lt _ hb).1; have := HE.out.lt; have := HE.out.lg; omega))
        clear hR10 hG10 HE HO2
        generalize Wv.dotR c rr.2 = d at *
        have e6a : w10.cell? ⟨w3.heap.size, 6, none⟩ = some (.slice da k dc) := E10.out.kE.cell 6
        have e6c : (w10.alloc (.cells #[I d.o, I d.s, I d.i] 40)).cell? ⟨w3.heap.size, 6, none⟩ = some (.slice da k dc) := (E10.out.alloc _).kE.cell 6
        go_wp2_with (first | (at_builtin; go_must (refine wpList_append_lies _ rfl _ _ _ rfl (w3.heap.size + 1) 40 i (.agg #[.int .i64 0, .int .i64 0, .int .i64 0]) 3 24 Tryd.underlying41 hi hz0 hz1 hz2 rfl (by omega) (.slice da k dc) k (flat dotCells rr.1) rfl ((O10.out.alloc _).alloc _) ⟨w10.heap.size + 1, 0, none⟩ 1 1 [I d.o, I d.s, I d.i] rfl rfl (lit_second w10 _ _ _) (dot_one d) (by omega) (by unfold maxLen; omega) (by omega) (by have := E10.out.kE.lt; simp; omega) (w10.heap.size + 1 + 1) (by simp) ?_; intro g5 cap5 w11 hown5 hgrow5 hat5 hlt5; have E11 : Hid (Et w w11 g w3.heap.size c (Wv.nxt3 c rr.2) #[I 3, I ob, I (v - 65536), I 0, I 0, I 0, .slice da k dc]) := ((E10.out.alloc _).alloc _).grow hgrow5 (fun b hb => by have := (O10.out.lt b hb).1; omega); have e6b : w11.cell? ⟨w3.heap.size, 6, none⟩ = some (.slice da k dc) := E11.out.kE.cell 6; have x6b := E11.out.kE.frozen 6)))
        have LF : Hid (Et w (w11.setCell ⟨w3.heap.size, 6, none⟩ (.slice (some ⟨g5, 0, none⟩) (k + 1) cap5)) g w3.heap.size c (Wv.nxt3 c rr.2) #[I 3, I ob, I (v - 65536), I 0, I 0, I 0, .slice (some ⟨g5, 0, none⟩) (k + 1) cap5]) := E11.out.set 6 _
        have LO : Hid ((w11.setCell ⟨w3.heap.size, 6, none⟩ (.slice (some ⟨g5, 0, none⟩) (k + 1) cap5)).ownsRow (w3.heap.size + 1) 40 3 (.slice (some ⟨g5, 0, none⟩) (k + 1) cap5) (k + 1) (flat dotCells (rr.1 ++ [d]))) := by
          rw [flat_snoc]
          refine own_kept hown5 fun b hb => heap_setCell_other _ ⟨w3.heap.size, 6, none⟩ _ _ ?_
          have := (hown5.lt b hb).1
          show b ≠ w3.heap.size
          omega
        clear E11 E10 O10 e6a e6b e6c x6b hown5 hgrow5 hat5 hlt5
        go_roundw
        case rel =>
          refine ⟨k + 1, some ⟨g5, 0, none⟩, cap5, by omega, by go_num, ?_, ?_⟩
          · rw [HRN.out]; exact LF
          · rw [HRN.out]; exact LO
        case measure => simp [intOf]; omega
      · obtain rfl : k = N := by omega
        have hlen : (Wv.run (Wv.dotF c) k (Wv.nxt c q4)).1.length = k := Wv.run_len _ _ _
        have hE3 := HE.out.lt
        have HD2 : Hid (Wv.effD false c q = (Wv.run (Wv.dotF c) k (Wv.nxt c q4))) := by show _ = _; rw [HD.out, HNN.out]
        clear HNN HD
        generalize (Wv.run (Wv.dotF c) k (Wv.nxt c q4)) = rr at *
        have e0 : wr.cell? ⟨w3.heap.size, 0, none⟩ = some (I 3) := HE.out.kE.cell 0
        have e1 : wr.cell? ⟨w3.heap.size, 1, none⟩ = some (I ob) := HE.out.kE.cell 1
        have e2 : wr.cell? ⟨w3.heap.size, 2, none⟩ = some (I (v - 65536)) := HE.out.kE.cell 2
        have e3 : wr.cell? ⟨w3.heap.size, 3, none⟩ = some (I 0) := HE.out.kE.cell 3
        have e4 : wr.cell? ⟨w3.heap.size, 4, none⟩ = some (I 0) := HE.out.kE.cell 4
        have e5 : wr.cell? ⟨w3.heap.size, 5, none⟩ = some (I 0) := HE.out.kE.cell 5
        have e6 : wr.cell? ⟨w3.heap.size, 6, none⟩ = some (.slice da k dc) := HE.out.kE.cell 6
        have k0 : wr.cell? ⟨w.heap.size, 0, none⟩ = some (.int .i64 0) := HE.out.kR.cell 0
        have z0 := HE.out.kR.frozen 0
        have k1 : wr.cell? ⟨w.heap.size, 1, none⟩ = some (.int .i64 0) := HE.out.kR.cell 1
        have z1 := HE.out.kR.frozen 1
        have k2 : wr.cell? ⟨w.heap.size, 2, none⟩ = some (.int .i64 0) := HE.out.kR.cell 2
        have z2 := HE.out.kR.frozen 2
        have k3 : wr.cell? ⟨w.heap.size, 3, none⟩ = some (.int .i64 0) := HE.out.kR.cell 3
        have z3 := HE.out.kR.frozen 3
        have k4 : wr.cell? ⟨w.heap.size, 4, none⟩ = some (.int .i64 0) := HE.out.kR.cell 4
        have z4 := HE.out.kR.frozen 4
        have k5 : wr.cell? ⟨w.heap.size, 5, none⟩ = some (.int .i64 0) := HE.out.kR.cell 5
        have z5 := HE.out.kR.frozen 5
        have k6 : wr.cell? ⟨w.heap.size, 6, none⟩ = some (.slice none 0 0) := HE.out.kR.cell 6
        have z6 := HE.out.kR.frozen 6
        go_wp2
        have HF : Hid (Blk (put7 wr w.heap.size (I 3) (I ob) (I (v - 65536)) (I 0) (I 0) (I 0) (.slice da k dc)) w.heap.size #[I 3, I ob, I (v - 65536), I 0, I 0, I 0, .slice da k dc] 43) := put7_blk HE.out.kR _ _ _ _ _ _ _
        have HY : Hid (Tk (put7 wr w.heap.size (I 3) (I ob) (I (v - 65536)) (I 0) (I 0) (I 0) (.slice da k dc)) g c _ ∧ w.grownBy (put7 wr w.heap.size (I 3) (I ob) (I (v - 65536)) (I 0) (I 0) (I 0) (.slice da k dc)) (some g)) := HE.out.fin _ _ _ _ _ _ _
        have HP : Hid (∀ bb, bb ≠ w.heap.size → (put7 wr w.heap.size (I 3) (I ob) (I (v - 65536)) (I 0) (I 0) (I 0) (.slice da k dc)).heap[bb]? = wr.heap[bb]?) := fun bb hk => put7_heap _ _ _ _ _ _ _ _ _ bb hk
        unfold put7 at HF HY HP
        generalize (((((((wr.setCell ⟨w.heap.size, 0, none⟩ (I 3)).setCell ⟨w.heap.size, 1, none⟩ (I ob)).setCell ⟨w.heap.size, 2, none⟩ (I (v - 65536))).setCell ⟨w.heap.size, 3, none⟩ (I 0)).setCell ⟨w.heap.size, 4, none⟩ (I 0)).setCell ⟨w.heap.size, 5, none⟩ (I 0)).setCell ⟨w.heap.size, 6, none⟩ (.slice da k dc)) = wF at *
        have f0 : wF.cell? ⟨w.heap.size, 0, none⟩ = some (I 3) := HF.out.cell 0
        have f1 : wF.cell? ⟨w.heap.size, 1, none⟩ = some (I ob) := HF.out.cell 1
        have f2 : wF.cell? ⟨w.heap.size, 2, none⟩ = some (I (v - 65536)) := HF.out.cell 2
        have f3 : wF.cell? ⟨w.heap.size, 3, none⟩ = some (I 0) := HF.out.cell 3
        have f4 : wF.cell? ⟨w.heap.size, 4, none⟩ = some (I 0) := HF.out.cell 4
        have f5 : wF.cell? ⟨w.heap.size, 5, none⟩ = some (I 0) := HF.out.cell 5
        have f6 : wF.cell? ⟨w.heap.size, 6, none⟩ = some (.slice da k dc) := HF.out.cell 6
        refine bodyPost_ret (v := effV ⟨⟨3, ob, v - 65536, ⟨0, 0, 0⟩, rr.1⟩, da, dc⟩) (by simp [results, Tryd.results29, go_sem, f0, f1, f2, f3, f4, f5, f6, hlen]) rfl ⟨⟨⟨3, ob, v - 65536, ⟨0, 0, 0⟩, rr.1⟩, da, dc⟩, rfl, ?_, ?_, ?_, HY.out.2⟩
        · have := HREF.out
          rw [HE1.out, HVA.out] at this ⊢
          rw [HD2.out] at this ⊢
          exact (congrArg (fun r => (⟨3, ob, v - 65536, r, rr.1⟩ : Wv.Ef)) this).symm
        · have hp2 : ∀ b, b ≠ w.heap.size → wF.heap[b]? = wr.heap[b]? := HP.out
          have := own_kept (w' := wF) HO2.out (fun b hb => hp2 b (fun e => by have h1 := (HO2.out.lt b hb).1; omega))
          refine own_mono (base := w3.heap.size + 1) ?_ (by omega)
          show wF.ownsRow _ _ _ (.slice da rr.1.length dc) rr.1.length _
          rw [hlen]
          exact this
        · rw [HE1.out, HD2.out]; exact HY.out.1
  · have HVA : Hid (Wv.v16 v = v) := by show _ = _; rw [HV.out]; exact if_neg hv
    have hr : Wv.rRef 3 = 0 := by decide
    have hm : 0 < Wv.rMostD 3 := by decide
    have H6 : Hid (Wv.eff6 false c q = q4) := by show _ = _; rw [HE6.out, if_pos hr, HE5.out]
    have HD : Hid (Wv.effD false c q = Wv.run (Wv.dotF c) (Wv.one c q4).toNat (Wv.nxt c q4)) := by show _ = _; rw [HED.out, if_pos hm, H6.out]
    have EW : Hid (Et w (w3.alloc (.cells #[I 3, I ob, I (v), I 0, I 0, I 0, .slice none 0 0] 43)) g w3.heap.size c q4 #[I 3, I ob, I (v), I 0, I 0, I 0, .slice none 0 0]) := Et.begin HR3.out HG3.out HK3.out hlt _
    clear HR3 HG3 HK3 HV hr hm
    go_wp2_with fail
    refine (take1_any c q4 g _ EW.out.rd hc).mono ?_
    rintro e w9 ⟨rfl, hR9, hG9⟩
    have EW9 : Hid (Et w w9 g w3.heap.size c (Wv.nxt c q4) #[I 3, I ob, I (v), I 0, I 0, I 0, .slice none 0 0]) := EW.out.read hG9 hR9
    clear EW hR9 hG9
    obtain ⟨n1, n2⟩ := Wv.one_lt c q4
    obtain ⟨N, hN⟩ := Int.eq_ofNat_of_zero_le n1
    have HNN : Hid ((Wv.one c q4).toNat = N) := by show _ = _; omega
    rw [hN] at n2 ⊢
    clear hN n1
    have O9 : Hid (w9.ownsRow (w3.heap.size + 1) 40 3 (.slice none 0 0) 0 (flat dotCells [])) := ⟨rfl, .inl ⟨rfl, rfl⟩⟩
    obtain ⟨i, hi, hz0, hz1, hz2⟩ := info_parts infoDt
    go_wp2_with fail
    go_loopw [8] (fun x wr => ∃ (k : Nat) (da : Option Addr) (dc : Nat), k ≤ N ∧ x = I k ∧ Hid (Et w wr g w3.heap.size c (Wv.run (Wv.dotF c) k (Wv.nxt c q4)).2 #[I 3, I ob, I (v), I 0, I 0, I 0, .slice da k dc]) ∧ Hid (wr.ownsRow (w3.heap.size + 1) 40 3 (.slice da k dc) k (flat dotCells (Wv.run (Wv.dotF c) k (Wv.nxt c q4)).1))) (fun x _ => N - (intOf x).toNat)
    case atStart => exact ⟨0, none, 0, Nat.zero_le _, rfl, EW9, O9⟩
    case round =>
      obtain ⟨k, da, dc, hk, rfl, HE, HO2⟩ := hrel
      clear EW9 O9
      by_cases hlt2 : k < N
      · have HRN : Hid ((Wv.run (Wv.dotF c) (k + 1) (Wv.nxt c q4)) = ((Wv.run (Wv.dotF c) k (Wv.nxt c q4)).1 ++ [Wv.dotR c (Wv.run (Wv.dotF c) k (Wv.nxt c q4)).2], Wv.nxt3 c (Wv.run (Wv.dotF c) k (Wv.nxt c q4)).2)) := rfl
        generalize (Wv.run (Wv.dotF c) k (Wv.nxt c q4)) = rr at *
        go_wp2_with fail
        refine (tdot_any c rr.2 g _ HE.out.rd hc).mono ?_
        rintro e w10 ⟨rfl, hR10, hG10⟩
        have hEl : w3.heap.size < wr.heap.size := HE.out.kE.lt
        have E10 : Hid (Et w w10 g w3.heap.size c (Wv.nxt3 c rr.2) #[I 3, I ob, I (v), I 0, I 0, I 0, .slice da k dc]) := HE.out.read hG10 hR10
        have O10 : Hid (w10.ownsRow (w3.heap.size + 1) 40 3 (.slice da k dc) k (flat dotCells rr.1)) := own_kept HO2.out (fun b hb => hG10.block b (HO2.out.lt b hb).2 (fun e => by cases e; have := (HO2.out.lt _ hb).1; have := HE.out.lt; have := HE.out.lg; omega))
        clear hR10 hG10 HE HO2
        generalize Wv.dotR c rr.2 = d at *
        have e6a : w10.cell? ⟨w3.heap.size, 6, none⟩ = some (.slice da k dc) := E10.out.kE.cell 6
        have e6c : (w10.alloc (.cells #[I d.o, I d.s, I d.i] 40)).cell? ⟨w3.heap.size, 6, none⟩ = some (.slice da k dc) := (E10.out.alloc _).kE.cell 6
        go_wp2_with (first | (at_builtin; go_must (refine wpList_append_lies _ rfl _ _ _ rfl (w3.heap.size + 1) 40 i (.agg #[.int .i64 0, .int .i64 0, .int .i64 0]) 3 24 Tryd.underlying41 hi hz0 hz1 hz2 rfl (by omega) (.slice da k dc) k (flat dotCells rr.1) rfl ((O10.out.alloc _).alloc _) ⟨w10.heap.size + 1, 0, none⟩ 1 1 [I d.o, I d.s, I d.i] rfl rfl (lit_second w10 _ _ _) (dot_one d) (by omega) (by unfold maxLen; omega) (by omega) (by have := E10.out.kE.lt; simp; omega) (w10.heap.size + 1 + 1) (by simp) ?_; intro g5 cap5 w11 hown5 hgrow5 hat5 hlt5; have E11 : Hid (Et w w11 g w3.heap.size c (Wv.nxt3 c rr.2) #[I 3, I ob, I (v), I 0, I 0, I 0, .slice da k dc]) := ((E10.out.alloc _).alloc _).grow hgrow5 (fun b hb => by have := (O10.out.lt b hb).1; omega); have e6b : w11.cell? ⟨w3.heap.size, 6, none⟩ = some (.slice da k dc) := E11.out.kE.cell 6; have x6b := E11.out.kE.frozen 6)))
        have LF : Hid (Et w (w11.setCell ⟨w3.heap.size, 6, none⟩ (.slice (some ⟨g5, 0, none⟩) (k + 1) cap5)) g w3.heap.size c (Wv.nxt3 c rr.2) #[I 3, I ob, I (v), I 0, I 0, I 0, .slice (some ⟨g5, 0, none⟩) (k + 1) cap5]) := E11.out.set 6 _
        have LO : Hid ((w11.setCell ⟨w3.heap.size, 6, none⟩ (.slice (some ⟨g5, 0, none⟩) (k + 1) cap5)).ownsRow (w3.heap.size + 1) 40 3 (.slice (some ⟨g5, 0, none⟩) (k + 1) cap5) (k + 1) (flat dotCells (rr.1 ++ [d]))) := by
          rw [flat_snoc]
          refine own_kept hown5 fun b hb => heap_setCell_other _ ⟨w3.heap.size, 6, none⟩ _ _ ?_
          have := (hown5.lt b hb).1
          show b ≠ w3.heap.size
          omega
        clear E11 E10 O10 e6a e6b e6c x6b hown5 hgrow5 hat5 hlt5
        go_roundw
        case rel =>
          refine ⟨k + 1, some ⟨g5, 0, none⟩, cap5, by omega, by go_num, ?_, ?_⟩
          · rw [HRN.out]; exact LF
          · rw [HRN.out]; exact LO
        case measure => simp [intOf]; omega
      · obtain rfl : k = N := by omega
        have hlen : (Wv.run (Wv.dotF c) k (Wv.nxt c q4)).1.length = k := Wv.run_len _ _ _
        have hE3 := HE.out.lt
        have HD2 : Hid (Wv.effD false c q = (Wv.run (Wv.dotF c) k (Wv.nxt c q4))) := by show _ = _; rw [HD.out, HNN.out]
        clear HNN HD
        generalize (Wv.run (Wv.dotF c) k (Wv.nxt c q4)) = rr at *
        have e0 : wr.cell? ⟨w3.heap.size, 0, none⟩ = some (I 3) := HE.out.kE.cell 0
        have e1 : wr.cell? ⟨w3.heap.size, 1, none⟩ = some (I ob) := HE.out.kE.cell 1
        have e2 : wr.cell? ⟨w3.heap.size, 2, none⟩ = some (I (v)) := HE.out.kE.cell 2
        have e3 : wr.cell? ⟨w3.heap.size, 3, none⟩ = some (I 0) := HE.out.kE.cell 3
        have e4 : wr.cell? ⟨w3.heap.size, 4, none⟩ = some (I 0) := HE.out.kE.cell 4
        have e5 : wr.cell? ⟨w3.heap.size, 5, none⟩ = some (I 0) := HE.out.kE.cell 5
        have e6 : wr.cell? ⟨w3.heap.size, 6, none⟩ = some (.slice da k dc) := HE.out.kE.cell 6
        have k0 : wr.cell? ⟨w.heap.size, 0, none⟩ = some (.int .i64 0) := HE.out.kR.cell 0
        have z0 := HE.out.kR.frozen 0
        have k1 : wr.cell? ⟨w.heap.size, 1, none⟩ = some (.int .i64 0) := HE.out.kR.cell 1
        have z1 := HE.out.kR.frozen 1
        have k2 : wr.cell? ⟨w.heap.size, 2, none⟩ = some (.int .i64 0) := HE.out.kR.cell 2
        have z2 := HE.out.kR.frozen 2
        have k3 : wr.cell? ⟨w.heap.size, 3, none⟩ = some (.int .i64 0) := HE.out.kR.cell 3
        have z3 := HE.out.kR.frozen 3
        have k4 : wr.cell? ⟨w.heap.size, 4, none⟩ = some (.int .i64 0) := HE.out.kR.cell 4
        have z4 := HE.out.kR.frozen 4
        have k5 : wr.cell? ⟨w.heap.size, 5, none⟩ = some (.int .i64 0) := HE.out.kR.cell 5
        have z5 := HE.out.kR.frozen 5
        have k6 : wr.cell? ⟨w.heap.size, 6, none⟩ = some (.slice none 0 0) := HE.out.kR.cell 6
        have z6 := HE.out.kR.frozen 6
        go_wp2
        have HF : Hid (Blk (put7 wr w.heap.size (I 3) (I ob) (I (v)) (I 0) (I 0) (I 0) (.slice da k dc)) w.heap.size #[I 3, I ob, I (v), I 0, I 0, I 0, .slice da k dc] 43) := put7_blk HE.out.kR _ _ _ _ _ _ _
        have HY : Hid (Tk (put7 wr w.heap.size (I 3) (I ob) (I (v)) (I 0) (I 0) (I 0) (.slice da k dc)) g c _ ∧ w.grownBy (put7 wr w.heap.size (I 3) (I ob) (I (v)) (I 0) (I 0) (I 0) (.slice da k dc)) (some g)) := HE.out.fin _ _ _ _ _ _ _
        have HP : Hid (∀ bb, bb ≠ w.heap.size → (put7 wr w.heap.size (I 3) (I ob) (I (v)) (I 0) (I 0) (I 0) (.slice da k dc)).heap[bb]? = wr.heap[bb]?) := fun bb hk => put7_heap _ _ _ _ _ _ _ _ _ bb hk
        unfold put7 at HF HY HP
        generalize (((((((wr.setCell ⟨w.heap.size, 0, none⟩ (I 3)).setCell ⟨w.heap.size, 1, none⟩ (I ob)).setCell ⟨w.heap.size, 2, none⟩ (I (v))).setCell ⟨w.heap.size, 3, none⟩ (I 0)).setCell ⟨w.heap.size, 4, none⟩ (I 0)).setCell ⟨w.heap.size, 5, none⟩ (I 0)).setCell ⟨w.heap.size, 6, none⟩ (.slice da k dc)) = wF at *
        have f0 : wF.cell? ⟨w.heap.size, 0, none⟩ = some (I 3) := HF.out.cell 0
        have f1 : wF.cell? ⟨w.heap.size, 1, none⟩ = some (I ob) := HF.out.cell 1
        have f2 : wF.cell? ⟨w.heap.size, 2, none⟩ = some (I (v)) := HF.out.cell 2
        have f3 : wF.cell? ⟨w.heap.size, 3, none⟩ = some (I 0) := HF.out.cell 3
        have f4 : wF.cell? ⟨w.heap.size, 4, none⟩ = some (I 0) := HF.out.cell 4
        have f5 : wF.cell? ⟨w.heap.size, 5, none⟩ = some (I 0) := HF.out.cell 5
        have f6 : wF.cell? ⟨w.heap.size, 6, none⟩ = some (.slice da k dc) := HF.out.cell 6
        refine bodyPost_ret (v := effV ⟨⟨3, ob, v, ⟨0, 0, 0⟩, rr.1⟩, da, dc⟩) (by simp [results, Tryd.results29, go_sem, f0, f1, f2, f3, f4, f5, f6, hlen]) rfl ⟨⟨⟨3, ob, v, ⟨0, 0, 0⟩, rr.1⟩, da, dc⟩, rfl, ?_, ?_, ?_, HY.out.2⟩
        · have := HREF.out
          rw [HE1.out, HVA.out] at this ⊢
          rw [HD2.out] at this ⊢
          exact (congrArg (fun r => (⟨3, ob, v, r, rr.1⟩ : Wv.Ef)) this).symm
        · have hp2 : ∀ b, b ≠ w.heap.size → wF.heap[b]? = wr.heap[b]? := HP.out
          have := own_kept (w' := wF) HO2.out (fun b hb => hp2 b (fun e => by have h1 := (HO2.out.lt b hb).1; omega))
          refine own_mono (base := w3.heap.size + 1) ?_ (by omega)
          show wF.ownsRow _ _ _ (.slice da rr.1.length dc) rr.1.length _
          rw [hlen]
          exact this
        · rw [HE1.out, HD2.out]; exact HY.out.1

end Go.Proofs.YtfmcngncaffloaaDoor

namespace Go.Proofs.YtfmcngncaffloaaDoor
open Go.RowKit
set_option maxRecDepth 100000

set_option maxHeartbeats 1600000 in
theorem teff_4 (c : List UInt8) (q : Wv.St) (g : Nat) (w : World) (h : Tk w g c q) (hc : c.length ≤ 1048576) (ho : Wv.one c q = 4) :
    Calls Tryd.prog 29 #[.pointer (some ⟨g, 0, none⟩)] w fun e w' => ∃ m : Em, e = .returned (effV m) ∧ m.e = (Wv.effF false c q).1 ∧ w'.ownsRow w.heap.size 40 3 m.dv m.e.dots.length (flat dotCells m.e.dots) ∧ Tk w' g c (Wv.effF false c q).2 ∧ w.grownBy w' (some g) := by
  have hlt := h.lt
  have hne : g ≠ w.heap.size := by omega
  have HA1 : Hid (Tk (w.alloc (.cells #[.int .i64 0, .int .i64 0, .int .i64 0, .int .i64 0, .int .i64 0, .int .i64 0, .slice none 0 0] 43)) g c q) := h.alloc _
  have HA3 : Hid (Blk (w.alloc (.cells #[.int .i64 0, .int .i64 0, .int .i64 0, .int .i64 0, .int .i64 0, .int .i64 0, .slice none 0 0] 43)) w.heap.size #[.int .i64 0, .int .i64 0, .int .i64 0, .int .i64 0, .int .i64 0, .int .i64 0, .slice none 0 0] 43) := heap_alloc_new w _
  have HA4 : Hid (w.grownBy (w.alloc (.cells #[.int .i64 0, .int .i64 0, .int .i64 0, .int .i64 0, .int .i64 0, .int .i64 0, .slice none 0 0] 43)) (some g)) := grown_new (grown_refl _ _)
  clear h
  go_enter Tryd.func29, Tryd.ntmps29
  go_wp2_with fail
  generalize w.alloc (.cells #[.int .i64 0, .int .i64 0, .int .i64 0, .int .i64 0, .int .i64 0, .int .i64 0, .slice none 0 0] 43) = wA at *
  refine (take1_any c _ g _ HA1.out hc).mono ?_
  rintro e w1 ⟨rfl, hR, hG⟩
  have HR1 : Hid (Tk w1 g c (Wv.nxt c q)) := hR
  have HG1 : Hid (w.grownBy w1 (some g)) := grown_trans HA4.out hG
  have HK1 : Hid (Blk w1 w.heap.size #[.int .i64 0, .int .i64 0, .int .i64 0, .int .i64 0, .int .i64 0, .int .i64 0, .slice none 0 0] 43) := HA3.out.grown hG (by simp; omega)
  clear hR hG HA1 HA3 HA4
  go_wp2_with fail
  refine (take1_any c _ g _ HR1.out hc).mono ?_
  rintro e w2 ⟨rfl, hR, hG⟩
  have HR2 : Hid (Tk w2 g c (Wv.nxt2 c q)) := hR
  have HG2 : Hid (w.grownBy w2 (some g)) := grown_trans HG1.out hG
  have HK2 : Hid (Blk w2 w.heap.size #[.int .i64 0, .int .i64 0, .int .i64 0, .int .i64 0, .int .i64 0, .int .i64 0, .slice none 0 0] 43) := HK1.out.grown hG (by simp; omega)
  clear hR hG HR1 HK1 HG1
  go_wp2_with fail
  refine (take2_any c _ g _ HR2.out hc).mono ?_
  rintro e w3 ⟨rfl, hR, hG⟩
  have HR3 : Hid (Tk w3 g c (Wv.nxt2 c (Wv.nxt2 c q))) := hR
  have HG3 : Hid (w.grownBy w3 (some g)) := grown_trans HG2.out hG
  have HK3 : Hid (Blk w3 w.heap.size #[.int .i64 0, .int .i64 0, .int .i64 0, .int .i64 0, .int .i64 0, .int .i64 0, .slice none 0 0] 43) := HK2.out.grown hG (by simp; omega)
  clear hR hG HR2 HK2 HG2
  have HE1 : Hid (Wv.effF false c q = (⟨Wv.one c q, Wv.one c (Wv.nxt c q), Wv.v16 (Wv.two false c (Wv.nxt2 c q)), if Wv.rRef (Wv.one c q) = 0 then ⟨0, 0, 0⟩ else Wv.dotR c (Wv.eff5 false c q), (Wv.effD false c q).1⟩, (Wv.effD false c q).2)) := rfl
  have HE5 : Hid (Wv.eff5 false c q = Wv.nxt2 c (Wv.nxt2 c q)) := rfl
  have HE6 : Hid (Wv.eff6 false c q = if Wv.rRef (Wv.one c q) = 0 then Wv.eff5 false c q else Wv.nxt3 c (Wv.eff5 false c q)) := rfl
  have HED : Hid (Wv.effD false c q = if 0 < Wv.rMostD (Wv.one c q) then Wv.run (Wv.dotF c) (Wv.one c (Wv.eff6 false c q)).toNat (Wv.nxt c (Wv.eff6 false c q)) else ([], Wv.eff6 false c q)) := rfl
  have hvl := Wv.two_lt false c (Wv.nxt2 c q)
  have HV : Hid (Wv.v16 (Wv.two false c (Wv.nxt2 c q)) = if 32768 ≤ Wv.two false c (Wv.nxt2 c q) then Wv.two false c (Wv.nxt2 c q) - 65536 else Wv.two false c (Wv.nxt2 c q)) := rfl
  have HREF : Hid ((Wv.effF false c q).1.ref = ⟨0, 0, 0⟩) := effF_ref0 ho (by decide)
  rw [ho] at HE1 HE6 HED
  generalize Wv.one c (Wv.nxt c q) = ob at *
  generalize Wv.two false c (Wv.nxt2 c q) = v at *
  generalize Wv.nxt2 c (Wv.nxt2 c q) = q4 at *
  clear ho
  by_cases hv : 32768 ≤ v
  · have HVA : Hid (Wv.v16 v = v - 65536) := by show _ = _; rw [HV.out]; exact if_pos hv
    have hr : Wv.rRef 4 = 0 := by decide
    have hm : 0 < Wv.rMostD 4 := by decide
    have H6 : Hid (Wv.eff6 false c q = q4) := by show _ = _; rw [HE6.out, if_pos hr, HE5.out]
    have HD : Hid (Wv.effD false c q = Wv.run (Wv.dotF c) (Wv.one c q4).toNat (Wv.nxt c q4)) := by show _ = _; rw [HED.out, if_pos hm, H6.out]
    have EW : Hid (Et w (w3.alloc (.cells #[I 4, I ob, I (v - 65536), I 0, I 0, I 0, .slice none 0 0] 43)) g w3.heap.size c q4 #[I 4, I ob, I (v - 65536), I 0, I 0, I 0, .slice none 0 0]) := Et.begin HR3.out HG3.out HK3.out hlt _
    clear HR3 HG3 HK3 HV hr hm
    go_wp2_with fail
    refine (take1_any c q4 g _ EW.out.rd hc).mono ?_
    rintro e w9 ⟨rfl, hR9, hG9⟩
    have EW9 : Hid (Et w w9 g w3.heap.size c (Wv.nxt c q4) #[I 4, I ob, I (v - 65536), I 0, I 0, I 0, .slice none 0 0]) := EW.out.read hG9 hR9
    clear EW hR9 hG9
    obtain ⟨n1, n2⟩ := Wv.one_lt c q4
    obtain ⟨N, hN⟩ := Int.eq_ofNat_of_zero_le n1
    have HNN : Hid ((Wv.one c q4).toNat = N) := by show _ = _; omega
    rw [hN] at n2 ⊢
    clear hN n1
    have O9 : Hid (w9.ownsRow (w3.heap.size + 1) 40 3 (.slice none 0 0) 0 (flat dotCells [])) := ⟨rfl, .inl ⟨rfl, rfl⟩⟩
    obtain ⟨i, hi, hz0, hz1, hz2⟩ := info_parts infoDt
    go_wp2_with fail
    go_loopw [8] (fun x wr => ∃ (k : Nat) (da : Option Addr) (dc : Nat), k ≤ N ∧ x = I k ∧ Hid (Et w wr g w3.heap.size c (Wv.run (Wv.dotF c) k (Wv.nxt c q4)).2 #[I 4, I ob, I (v - 65536), I 0, I 0, I 0, .slice da k dc]) ∧ Hid (wr.ownsRow (w3.heap.size + 1) 40 3 (.slice da k dc) k (flat dotCells (Wv.run (Wv.dotF c) k (Wv.nxt c q4)).1))) (fun x _ => N - (intOf x).toNat)
    case atStart => exact ⟨0, none, 0, Nat.zero_le _, rfl, EW9, O9⟩
    case round =>
      obtain ⟨k, da, dc, hk, rfl, HE, HO2⟩ := hrel
      clear EW9 O9
      by_cases hlt2 : k < N
      · have HRN : Hid ((Wv.run (Wv.dotF c) (k + 1) (Wv.nxt c q4)) = ((Wv.run (Wv.dotF c) k (Wv.nxt c q4)).1 ++ [Wv.dotR c (Wv.run (Wv.dotF c) k (Wv.nxt c q4)).2], Wv.nxt3 c (Wv.run (Wv.dotF c) k (Wv.nxt c q4)).2)) := rfl
        generalize (Wv.run (Wv.dotF c) k (Wv.nxt c q4)) = rr at *
        go_wp2_with fail
        refine (tdot_any c rr.2 g _ HE.out.rd hc).mono ?_
        rintro e w10 ⟨rfl, hR10, hG10⟩
        have hEl : w3.heap.size < wr.heap.size := HE.out.kE.lt
        have E10 : Hid (Et w w10 g w3.heap.size c (Wv.nxt3 c rr.2) #[I 4, I ob, I (v - 65536), I 0, I 0, I 0, .slice da k dc]) := HE.out.read hG10 hR10
        have O10 : Hid (w10.ownsRow (w3.heap.size + 1) 40 3 (.slice da k dc) k (flat dotCells rr.1)) := own_kept HO2.out (fun b hb => hG10.block b (HO2.out.lt b hb).2 (fun e => by cases e; have := (HO2.out.lt _ hb).1; have := HE.out.lt; have := HE.out.lg; omega))
        clear hR10 hG10 HE HO2
        generalize Wv.dotR c rr.2 = d at *
        have e6a : w10.cell? ⟨w3.heap.size, 6, none⟩ = some (.slice da k dc) := E10.out.kE.cell 6
        have e6c : (w10.alloc (.cells #[I d.o, I d.s, I d.i] 40)).cell? ⟨w3.heap.size, 6, none⟩ = some (.slice da k dc) := (E10.out.alloc _).kE.cell 6
        go_wp2_with (first | (at_builtin; go_must (refine wpList_append_lies _ rfl _ _ _ rfl (w3.heap.size + 1) 40 i (.agg #[.int .i64 0, .int .i64 0, .int .i64 0]) 3 24 Tryd.underlying41 hi hz0 hz1 hz2 rfl (by omega) (.slice da k dc) k (flat dotCells rr.1) rfl ((O10.out.alloc _).alloc _) ⟨w10.heap.size + 1, 0, none⟩ 1 1 [I d.o, I d.s, I d.i] rfl rfl (lit_second w10 _ _ _) (dot_one d) (by omega) (by unfold maxLen; omega) (by omega) (by have := E10.out.kE.lt; simp; omega) (w10.heap.size + 1 + 1) (by simp) ?_; intro g5 cap5 w11 hown5 hgrow5 hat5 hlt5; have E11 : Hid (Et w w11 g w3.heap.size c (Wv.nxt3 c rr.2) #[I 4, I ob, I (v - 65536), I 0, I 0, I 0, .slice da k dc]) := ((E10.out.alloc _).alloc _).grow hgrow5 (fun b hb => by have := (O10.out.lt b hb).1; omega); have e6b : w11.cell? ⟨w3.heap.size, 6, none⟩ = some (.slice da k dc) := E11.out.kE.cell 6; have x6b := E11.out.kE.frozen 6)))
        have LF : Hid (Et w (w11.setCell ⟨w3.heap.size, 6, none⟩ (.slice (some ⟨g5, 0, none⟩) (k + 1) cap5)) g w3.heap.size c (Wv.nxt3 c rr.2) #[I 4, I ob, I (v - 65536), I 0, I 0, I 0, .slice (some ⟨g5, 0, none⟩) (k + 1) cap5]) := E11.out.set 6 _
        have LO : Hid ((w11.setCell ⟨w3.heap.size, 6, none⟩ (.slice (some ⟨g5, 0, none⟩) (k + 1) cap5)).ownsRow (w3.heap.size + 1) 40 3 (.slice (some ⟨g5, 0, none⟩) (k + 1) cap5) (k + 1) (flat dotCells (rr.1 ++ [d]))) := by
          rw [flat_snoc]
          refine own_kept hown5 fun b hb => heap_setCell_other _ ⟨w3.heap.size, 6, none⟩ _ _ ?_
          have := (hown5.lt b hb).1
          show b ≠ w3.heap.size
          omega
        clear E11 E10 O10 e6a e6b e6c x6b hown5 hgrow5 hat5 hlt5
        go_roundw
        case rel =>
          refine ⟨k + 1, some ⟨g5, 0, none⟩, cap5, by omega, by go_num, ?_, ?_⟩
          · rw [HRN.out]; exact LF
          · rw [HRN.out]; exact LO
        case measure => simp [intOf]; omega
      · obtain rfl : k = N := by omega
        have hlen : (Wv.run (Wv.dotF c) k (Wv.nxt c q4)).1.length = k := Wv.run_len _ _ _
        have hE3 := HE.out.lt
        have HD2 : Hid (Wv.effD false c q = (Wv.run (Wv.dotF c) k (Wv.nxt c q4))) := by show _ = _; rw [HD.out, HNN.out]
        clear HNN HD
        generalize (Wv.run (Wv.dotF c) k (Wv.nxt c q4)) = rr at *
        have e0 : wr.cell? ⟨w3.heap.size, 0, none⟩ = some (I 4) := HE.out.kE.cell 0
        have e1 : wr.cell? ⟨w3.heap.size, 1, none⟩ = some (I ob) := HE.out.kE.cell 1
        have e2 : wr.cell? ⟨w3.heap.size, 2, none⟩ = some (I (v - 65536)) := HE.out.kE.cell 2
        have e3 : wr.cell? ⟨w3.heap.size, 3, none⟩ = some (I 0) := HE.out.kE.cell 3
        have e4 : wr.cell? ⟨w3.heap.size, 4, none⟩ = some (I 0) := HE.out.kE.cell 4
        have e5 : wr.cell? ⟨w3.heap.size, 5, none⟩ = some (I 0) := HE.out.kE.cell 5
        have e6 : wr.cell? ⟨w3.heap.size, 6, none⟩ = some (.slice da k dc) := HE.out.kE.cell 6
        have k0 : wr.cell? ⟨w.heap.size, 0, none⟩ = some (.int .i64 0) := HE.out.kR.cell 0
        have z0 := HE.out.kR.frozen 0
        have k1 : wr.cell? ⟨w.heap.size, 1, none⟩ = some (.int .i64 0) := HE.out.kR.cell 1
        have z1 := HE.out.kR.frozen 1
        have k2 : wr.cell? ⟨w.heap.size, 2, none⟩ = some (.int .i64 0) := HE.out.kR.cell 2
        have z2 := HE.out.kR.frozen 2
        have k3 : wr.cell? ⟨w.heap.size, 3, none⟩ = some (.int .i64 0) := HE.out.kR.cell 3
        have z3 := HE.out.kR.frozen 3
        have k4 : wr.cell? ⟨w.heap.size, 4, none⟩ = some (.int .i64 0) := HE.out.kR.cell 4
        have z4 := HE.out.kR.frozen 4
        have k5 : wr.cell? ⟨w.heap.size, 5, none⟩ = some (.int .i64 0) := HE.out.kR.cell 5
        have z5 := HE.out.kR.frozen 5
        have k6 : wr.cell? ⟨w.heap.size, 6, none⟩ = some (.slice none 0 0) := HE.out.kR.cell 6
        have z6 := HE.out.kR.frozen 6
        go_wp2
        have HF : Hid (Blk (put7 wr w.heap.size (I 4) (I ob) (I (v - 65536)) (I 0) (I 0) (I 0) (.slice da k dc)) w.heap.size #[I 4, I ob, I (v - 65536), I 0, I 0, I 0, .slice da k dc] 43) := put7_blk HE.out.kR _ _ _ _ _ _ _
        have HY : Hid (Tk (put7 wr w.heap.size (I 4) (I ob) (I (v - 65536)) (I 0) (I 0) (I 0) (.slice da k dc)) g c _ ∧ w.grownBy (put7 wr w.heap.size (I 4) (I ob) (I (v - 65536)) (I 0) (I 0) (I 0) (.slice da k dc)) (some g)) := HE.out.fin _ _ _ _ _ _ _
        have HP : Hid (∀ bb, bb ≠ w.heap.size → (put7 wr w.heap.size (I 4) (I ob) (I (v - 65536)) (I 0) (I 0) (I 0) (.slice da k dc)).heap[bb]? = wr.heap[bb]?) := fun bb hk => put7_heap _ _ _ _ _ _ _ _ _ bb hk
        unfold put7 at HF HY HP
        generalize (((((((wr.setCell ⟨w.heap.size, 0, none⟩ (I 4)).setCell ⟨w.heap.size, 1, none⟩ (I ob)).setCell ⟨w.heap.size, 2, none⟩ (I (v - 65536))).setCell ⟨w.heap.size, 3, none⟩ (I 0)).setCell ⟨w.heap.size, 4, none⟩ (I 0)).setCell ⟨w.heap.size, 5, none⟩ (I 0)).setCell ⟨w.heap.size, 6, none⟩ (.slice da k dc)) = wF at *
        have f0 : wF.cell? ⟨w.heap.size, 0, none⟩ = some (I 4) := HF.out.cell 0
        have f1 : wF.cell? ⟨w.heap.size, 1, none⟩ = some (I ob) := HF.out.cell 1
        have f2 : wF.cell? ⟨w.heap.size, 2, none⟩ = some (I (v - 65536)) := HF.out.cell 2
        have f3 : wF.cell? ⟨w.heap.size, 3, none⟩ = some (I 0) := HF.out.cell 3
        have f4 : wF.cell? ⟨w.heap.size, 4, none⟩ = some (I 0) := HF.out.cell 4
        have f5 : wF.cell? ⟨w.heap.size, 5, none⟩ = some (I 0) := HF.out.cell 5
        have f6 : wF.cell? ⟨w.heap.size, 6, none⟩ = some (.slice da k dc) := HF.out.cell 6
        refine bodyPost_ret (v := effV ⟨⟨4, ob, v - 65536, ⟨0, 0, 0⟩, rr.1⟩, da, dc⟩) (by simp [results, Tryd.results29, go_sem, f0, f1, f2, f3, f4, f5, f6, hlen]) rfl ⟨⟨⟨4, ob, v - 65536, ⟨0, 0, 0⟩, rr.1⟩, da, dc⟩, rfl, ?_, ?_, ?_, HY.out.2⟩
        · have := HREF.out
          rw [HE1.out, HVA.out] at this ⊢
          rw [HD2.out] at this ⊢
          exact (congrArg (fun r => (⟨4, ob, v - 65536, r, rr.1⟩ : Wv.Ef)) this).symm
        · have hp2 : ∀ b, b ≠ w.heap.size → wF.heap[b]? = wr.heap[b]? := HP.out
          have := own_kept (w' := wF) HO2.out (fun b hb => hp2 b (fun e => by have h1 := (HO2.out.lt b hb).1; omega))
          refine own_mono (base := w3.heap.size + 1) ?_ (by omega)
          show wF.ownsRow _ _ _ (.slice da rr.1.length dc) rr.1.length _
          rw [hlen]
          exact this
        · rw [HE1.out, HD2.out]; exact HY.out.1
  · have HVA : Hid (Wv.v16 v = v) := by show _ = _; rw [HV.out]; exact if_neg hv
    have hr : Wv.rRef 4 = 0 := by decide
    have hm : 0 < Wv.rMostD 4 := by decide
    have H6 : Hid (Wv.eff6 false c q = q4) := by show _ = _; rw [HE6.out, if_pos hr, HE5.out]
    have HD : Hid (Wv.effD false c q = Wv.run (Wv.dotF c) (Wv.one c q4).toNat (Wv.nxt c q4)) := by show _ = _; rw [HED.out, if_pos hm, H6.out]
    have EW : Hid (Et w (w3.alloc (.cells #[I 4, I ob, I (v), I 0, I 0, I 0, .slice none 0 0] 43)) g w3.heap.size c q4 #[I 4, I ob, I (v), I 0, I 0, I 0, .slice none 0 0]) := Et.begin HR3.out HG3.out HK3.out hlt _
    clear HR3 HG3 HK3 HV hr hm
    go_wp2_with fail
    refine (take1_any c q4 g _ EW.out.rd hc).mono ?_
    rintro e w9 ⟨rfl, hR9, hG9⟩
    have EW9 : Hid (Et w w9 g w3.heap.size c (Wv.nxt c q4) #[I 4, I ob, I (v), I 0, I 0, I 0, .slice none 0 0]) := EW.out.read hG9 hR9
    clear EW hR9 hG9
    obtain ⟨n1, n2⟩ := Wv.one_lt c q4
    obtain ⟨N, hN⟩ := Int.eq_ofNat_of_zero_le n1
    have HNN : Hid ((Wv.one c q4).toNat = N) := by show _ = _; omega
    rw [hN] at n2 ⊢
    clear hN n1
    have O9 : Hid (w9.ownsRow (w3.heap.size + 1) 40 3 (.slice none 0 0) 0 (flat dotCells [])) := ⟨rfl, .inl ⟨rfl, rfl⟩⟩
    obtain ⟨i, hi, hz0, hz1, hz2⟩ := info_parts infoDt
    go_wp2_with fail
    go_loopw [8] (fun x wr => ∃ (k : Nat) (da : Option Addr) (dc : Nat), k ≤ N ∧ x = I k ∧ Hid (Et w wr g w3.heap.size c (Wv.run (Wv.dotF c) k (Wv.nxt c q4)).2 #[I 4, I ob, I (v), I 0, I 0, I 0, .slice da k dc]) ∧ Hid (wr.ownsRow (w3.heap.size + 1) 40 3 (.slice da k dc) k (flat dotCells (Wv.run (Wv.dotF c) k (Wv.nxt c q4)).1))) (fun x _ => N - (intOf x).toNat)
    case atStart => exact ⟨0, none, 0, Nat.zero_le _, rfl, EW9, O9⟩
    case round =>
      obtain ⟨k, da, dc, hk, rfl, HE, HO2⟩ := hrel
      clear EW9 O9
      by_cases hlt2 : k < N
      · have HRN : Hid ((Wv.run (Wv.dotF c) (k + 1) (Wv.nxt c q4)) = ((Wv.run (Wv.dotF c) k (Wv.nxt c q4)).1 ++ [Wv.dotR c (Wv.run (Wv.dotF c) k (Wv.nxt c q4)).2], Wv.nxt3 c (Wv.run (Wv.dotF c) k (Wv.nxt c q4)).2)) := rfl
        generalize (Wv.run (Wv.dotF c) k (Wv.nxt c q4)) = rr at *
        go_wp2_with fail
        refine (tdot_any c rr.2 g _ HE.out.rd hc).mono ?_
        rintro e w10 ⟨rfl, hR10, hG10⟩
        have hEl : w3.heap.size < wr.heap.size := HE.out.kE.lt
        have E10 : Hid (Et w w10 g w3.heap.size c (Wv.nxt3 c rr.2) #[I 4, I ob, I (v), I 0, I 0, I 0, .slice da k dc]) := HE.out.read hG10 hR10
        have O10 : Hid (w10.ownsRow (w3.heap.size + 1) 40 3 (.slice da k dc) k (flat dotCells rr.1)) := own_kept HO2.out (fun b hb => hG10.block b (HO2.out.lt b hb).2 (fun e => by cases e; have := (HO2.out.lt _ hb).1; have := HE.out.lt; have := HE.out.lg; omega))
        clear hR10 hG10 HE HO2
        generalize Wv.dotR c rr.2 = d at *
        have e6a : w10.cell? ⟨w3.heap.size, 6, none⟩ = some (.slice da k dc) := E10.out.kE.cell 6
        have e6c : (w10.alloc (.cells #[I d.o, I d.s, I d.i] 40)).cell? ⟨w3.heap.size, 6, none⟩ = some (.slice da k dc) := (E10.out.alloc _).kE.cell 6
        go_wp2_with (first | (at_builtin; go_must (refine wpList_append_lies _ rfl _ _ _ rfl (w3.heap.size + 1) 40 i (.agg #[.int .i64 0, .int .i64 0, .int .i64 0]) 3 24 Tryd.underlying41 hi hz0 hz1 hz2 rfl (by omega) (.slice da k dc) k (flat dotCells rr.1) rfl ((O10.out.alloc _).alloc _) ⟨w10.heap.size + 1, 0, none⟩ 1 1 [I d.o, I d.s, I d.i] rfl rfl (lit_second w10 _ _ _) (dot_one d) (by omega) (by unfold maxLen; omega) (by omega) (by have := E10.out.kE.lt; simp; omega) (w10.heap.size + 1 + 1) (by simp) ?_; intro g5 cap5 w11 hown5 hgrow5 hat5 hlt5; have E11 : Hid (Et w w11 g w3.heap.size c (Wv.nxt3 c rr.2) #[I 4, I ob, I (v), I 0, I 0, I 0, .slice da k dc]) := ((E10.out.alloc _).alloc _).grow hgrow5 (fun b hb => by have := (O10.out.lt b hb).1; omega); have e6b : w11.cell? ⟨w3.heap.size, 6, none⟩ = some (.slice da k dc) := E11.out.kE.cell 6; have x6b := E11.out.kE.frozen 6)))
        have LF : Hid (Et w (w11.setCell ⟨w3.heap.size, 6, none⟩ (.slice (some ⟨g5, 0, none⟩) (k + 1) cap5)) g w3.heap.size c (Wv.nxt3 c rr.2) #[I 4, I ob, I (v), I 0, I 0, I 0, .slice (some ⟨g5, 0, none⟩) (k + 1) cap5]) := E11.out.set 6 _
        have LO : Hid ((w11.setCell ⟨w3.heap.size, 6, none⟩ (.slice (some ⟨g5, 0, none⟩) (k + 1) cap5)).ownsRow (w3.heap.size + 1) 40 3 (.slice (some ⟨g5, 0, none⟩) (k + 1) cap5) (k + 1) (flat dotCells (rr.1 ++ [d]))) := by
          rw [flat_snoc]
          refine own_kept hown5 fun b hb => heap_setCell_other _ ⟨w3.heap.size, 6, none⟩ _ _ ?_
          have := (hown5.lt b hb).1
          show b ≠ w3.heap.size
          omega
        clear E11 E10 O10 e6a e6b e6c x6b hown5 hgrow5 hat5 hlt5
        go_roundw
        case rel =>
          refine ⟨k + 1, some ⟨g5, 0, none⟩, cap5, by omega, by go_num, ?_, ?_⟩
          · rw [HRN.out]; exact LF
          · rw [HRN.out]; exact LO
        case measure => simp [intOf]; omega
      · obtain rfl : k = N := by omega
        have hlen : (Wv.run (Wv.dotF c) k (Wv.nxt c q4)).1.length = k := Wv.run_len _ _ _
        have hE3 := HE.out.lt
        have HD2 : Hid (Wv.effD false c q = (Wv.run (Wv.dotF c) k (Wv.nxt c q4))) := by show _ = _; rw [HD.out, HNN.out]
        clear HNN HD
        generalize (Wv.run (Wv.dotF c) k (Wv.nxt c q4)) = rr at *
        have e0 : wr.cell? ⟨w3.heap.size, 0, none⟩ = some (I 4) := HE.out.kE.cell 0
        have e1 : wr.cell? ⟨w3.heap.size, 1, none⟩ = some (I ob) := HE.out.kE.cell 1
        have e2 : wr.cell? ⟨w3.heap.size, 2, none⟩ = some (I (v)) := HE.out.kE.cell 2
        have e3 : wr.cell? ⟨w3.heap.size, 3, none⟩ = some (I 0) := HE.out.kE.cell 3
        have e4 : wr.cell? ⟨w3.heap.size, 4, none⟩ = some (I 0) := HE.out.kE.cell 4
        have e5 : wr.cell? ⟨w3.heap.size, 5, none⟩ = some (I 0) := HE.out.kE.cell 5
        have e6 : wr.cell? ⟨w3.heap.size, 6, none⟩ = some (.slice da k dc) := HE.out.kE.cell 6
        have k0 : wr.cell? ⟨w.heap.size, 0, none⟩ = some (.int .i64 0) := HE.out.kR.cell 0
        have z0 := HE.out.kR.frozen 0
        have k1 : wr.cell? ⟨w.heap.size, 1, none⟩ = some (.int .i64 0) := HE.out.kR.cell 1
        have z1 := HE.out.kR.frozen 1
        have k2 : wr.cell? ⟨w.heap.size, 2, none⟩ = some (.int .i64 0) := HE.out.kR.cell 2
        have z2 := HE.out.kR.frozen 2
        have k3 : wr.cell? ⟨w.heap.size, 3, none⟩ = some (.int .i64 0) := HE.out.kR.cell 3
        have z3 := HE.out.kR.frozen 3
        have k4 : wr.cell? ⟨w.heap.size, 4, none⟩ = some (.int .i64 0) := HE.out.kR.cell 4
        have z4 := HE.out.kR.frozen 4
        have k5 : wr.cell? ⟨w.heap.size, 5, none⟩ = some (.int .i64 0) := HE.out.kR.cell 5
        have z5 := HE.out.kR.frozen 5
        have k6 : wr.cell? ⟨w.heap.size, 6, none⟩ = some (.slice none 0 0) := HE.out.kR.cell 6
        have z6 := HE.out.kR.frozen 6
        go_wp2
        have HF : Hid (Blk (put7 wr w.heap.size (I 4) (I ob) (I (v)) (I 0) (I 0) (I 0) (.slice da k dc)) w.heap.size #[I 4, I ob, I (v), I 0, I 0, I 0, .slice da k dc] 43) := put7_blk HE.out.kR _ _ _ _ _ _ _
        have HY : Hid (Tk (put7 wr w.heap.size (I 4) (I ob) (I (v)) (I 0) (I 0) (I 0) (.slice da k dc)) g c _ ∧ w.grownBy (put7 wr w.heap.size (I 4) (I ob) (I (v)) (I 0) (I 0) (I 0) (.slice da k dc)) (some g)) := HE.out.fin _ _ _ _ _ _ _
        have HP : Hid (∀ bb, bb ≠ w.heap.size → (put7 wr w.heap.size (I 4) (I ob) (I (v)) (I 0) (I 0) (I 0) (.slice da k dc)).heap[bb]? = wr.heap[bb]?) := fun bb hk => put7_heap _ _ _ _ _ _ _ _ _ bb hk
        unfold put7 at HF HY HP
        generalize (((((((wr.setCell ⟨w.heap.size, 0, none⟩ (I 4)).setCell ⟨w.heap.size, 1, none⟩ (I ob)).setCell ⟨w.heap.size, 2, none⟩ (I (v))).setCell ⟨w.heap.size, 3, none⟩ (I 0)).setCell ⟨w.heap.size, 4, none⟩ (I 0)).setCell ⟨w.heap.size, 5, none⟩ (I 0)).setCell ⟨w.heap.size, 6, none⟩ (.slice da k dc)) = wF at *
        have f0 : wF.cell? ⟨w.heap.size, 0, none⟩ = some (I 4) := HF.out.cell 0
        have f1 : wF.cell? ⟨w.heap.size, 1, none⟩ = some (I ob) := HF.out.cell 1
        have f2 : wF.cell? ⟨w.heap.size, 2, none⟩ = some (I (v)) := HF.out.cell 2
        have f3 : wF.cell? ⟨w.heap.size, 3, none⟩ = some (I 0) := HF.out.cell 3
        have f4 : wF.cell? ⟨w.heap.size, 4, none⟩ = some (I 0) := HF.out.cell 4
        have f5 : wF.cell? ⟨w.heap.size, 5, none⟩ = some (I 0) := HF.out.cell 5
        have f6 : wF.cell? ⟨w.heap.size, 6, none⟩ = some (.slice da k dc) := HF.out.cell 6
        refine bodyPost_ret (v := effV ⟨⟨4, ob, v, ⟨0, 0, 0⟩, rr.1⟩, da, dc⟩) (by simp [results, Tryd.results29, go_sem, f0, f1, f2, f3, f4, f5, f6, hlen]) rfl ⟨⟨⟨4, ob, v, ⟨0, 0, 0⟩, rr.1⟩, da, dc⟩, rfl, ?_, ?_, ?_, HY.out.2⟩
        · have := HREF.out
          rw [HE1.out, HVA.out] at this ⊢
          rw [HD2.out] at this ⊢
          exact (congrArg (fun r => (⟨4, ob, v, r, rr.1⟩ : Wv.Ef)) this).symm
        · have hp2 : ∀ b, b ≠ w.heap.size → wF.heap[b]? = wr.heap[b]? := HP.out
          have := own_kept (w' := wF) HO2.out (fun b hb => hp2 b (fun e => by have h1 := (HO2.out.lt b hb).1; omega))
          refine own_mono (base := w3.heap.size + 1) ?_ (by omega)
          show wF.ownsRow _ _ _ (.slice da rr.1.length dc) rr.1.length _
          rw [hlen]
          exact this
        · rw [HE1.out, HD2.out]; exact HY.out.1

end Go.Proofs.YtfmcngncaffloaaDoor

namespace Go.Proofs.YtfmcngncaffloaaDoor.Wv

theorem num_two (l : List UInt8) (h : 2 ≤ l.length) : ((numB (l.take 2) : Nat) : Int) = num2 l := by
  match l, h with
  | a :: b :: r, _ => simp [numB, num2]
theorem num_be4 (n : Nat) (h : n < 4294967296) : numB (be4 n) = n := by
  have e1 := ofNat_toNat ((n : Int) / 16777216)
  have e2 := ofNat_toNat ((n : Int) / 65536)
  have e3 := ofNat_toNat ((n : Int) / 256)
  have e4 := ofNat_toNat (n : Int)
  simp only [be4, numB, List.foldl]
  omega
theorem num_inj : ∀ (a b : List UInt8), a.length = 4 → b.length = 4 → numB a = numB b → a = b := by
  intro a b ha hb h
  match a, b, ha, hb with
  | [a1, a2, a3, a4], [b1, b2, b3, b4], _, _ =>
    simp only [numB, List.foldl] at h
    have x1 := byte_lt a1; have x2 := byte_lt a2; have x3 := byte_lt a3; have x4 := byte_lt a4
    have y1 := byte_lt b1; have y2 := byte_lt b2; have y3 := byte_lt b3; have y4 := byte_lt b4
    have e1 : a1.toNat = b1.toNat := by omega
    have e2 : a2.toNat = b2.toNat := by omega
    have e3 : a3.toNat = b3.toNat := by omega
    have e4 : a4.toNat = b4.toNat := by omega
    rw [UInt8.toNat_inj.1 e1, UInt8.toNat_inj.1 e2, UInt8.toNat_inj.1 e3, UInt8.toNat_inj.1 e4]
theorem sum_lt (l : List UInt8) : sum l < 4294967296 := by unfold sum; omega
theorem num_four (l : List UInt8) (h : 4 ≤ l.length) : sum (body l) = numB (tail4 l) ↔ tail4 l = be4 (sum (body l) : Nat) := by
  have h4 : (tail4 l).length = 4 := by simp [tail4]; omega
  constructor
  · intro e
    exact num_inj _ _ h4 rfl (by rw [num_be4 _ (sum_lt _)]; exact e.symm)
  · intro e
    rw [e, num_be4 _ (sum_lt _)]

end Go.Proofs.YtfmcngncaffloaaDoor.Wv
namespace Go.Proofs.YtfmcngncaffloaaDoor
open Go.RowKit
set_option maxRecDepth 100000

theorem teff_any (c : List UInt8) (q : Wv.St) (g : Nat) (w : World) (h : Tk w g c q) (hc : c.length ≤ 1048576) :
    Calls Tryd.prog 29 #[.pointer (some ⟨g, 0, none⟩)] w fun e w' => ∃ m : Em, e = .returned (effV m) ∧ m.e = (Wv.effF false c q).1 ∧ w'.ownsRow w.heap.size 40 3 m.dv m.e.dots.length (flat dotCells m.e.dots) ∧ Tk w' g c (Wv.effF false c q).2 ∧ w.grownBy w' (some g) := by
  by_cases h3 : Wv.one c q = 3
  · exact teff_3 c q g w h hc h3
  · by_cases h4 : Wv.one c q = 4
    · exact teff_4 c q g w h hc h4
    · by_cases h5 : Wv.one c q = 5
      · exact teff_5 c q g w h hc h5
      · by_cases h6 : Wv.one c q = 6
        · exact teff_6 c q g w h hc h6
        · exact teff_plain c q g w h hc ⟨h3, h4, h5, h6⟩

end Go.Proofs.YtfmcngncaffloaaDoor
