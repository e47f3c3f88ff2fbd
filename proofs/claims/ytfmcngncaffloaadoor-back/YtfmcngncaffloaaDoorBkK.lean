import Derived.Test.YtfmcngncaffloaaDoorBkQ
import Derived.Test.YtfmcngncaffloaaDoorDkA
namespace Go.Proofs.YtfmcngncaffloaaDoor
open Go.RowKit
set_option maxRecDepth 100000

/-- What made gives: the batch, in new memory. -/
def MadeOk (w : World) (b : Wv.Bt) (e : Ending) (w' : World) : Prop := ∃ ca ea cc ec ms, e = .returned (bV b ca ea cc ec) ∧ BatAt w' b ca ea ms ∧ Below w.heap.size w w'

set_option maxHeartbeats 6400000 in
theorem made_any (n origin seq time : Int) (raw : List Int) (ra : Option Addr) (rc : Nat) (w : World) (hn : i64 n) (ho : i64 origin) (hs : i64 seq) (ht : i64 time) (hraw : At w ra (raw.map I)) (hri : ∀ v ∈ raw, i64 v) (hrl : (raw.length + 1) * 8 ≤ 140737488355328) :
    Calls Tryd.prog 15 #[I n, I origin, I seq, I time, .slice ra raw.length rc] w fun e w' => MadeOk w (Wv.mkB n origin seq time raw) e w' := by
  have HRA : Hid (At w ra (raw.map I)) := hraw
  have HRI : Hid (∀ v ∈ n :: raw, i64 v) := fun v hv => by
    rcases List.mem_cons.1 hv with rfl | h
    · exact hn
    · exact hri v h
  clear hraw hri
  go_enter Tryd.func15, Tryd.ntmps15
  have hk3 := Wv.pk_lt n 3 (by omega)
  go_wp2_with fail
  refine (pick_any n 3 _ hn ⟨by omega, by omega⟩).mono ?_
  rintro e w1 ⟨rfl, rfl⟩
  go_wp2_with fail
  have hkk : 2 + Wv.pk n 3 = Wv.mkK n := rfl
  have hK : 2 ≤ Wv.mkK n ∧ Wv.mkK n ≤ 4 := by rw [← hkk]; omega
  rw [hkk]
  have o1 := Wv.pk_lt origin (Wv.mkK n) (by omega)
  have s1 := Wv.pk_lt seq 29 (by omega)
  have t1 := Wv.pk_lt time 200 (by omega)
  clear hkk hk3
  refine (pick_any origin _ _ ho ⟨by omega, by omega⟩).mono ?_
  rintro e w1 ⟨rfl, rfl⟩
  go_wp2_with fail
  refine (pick_any seq 29 _ hs ⟨by omega, by omega⟩).mono ?_
  rintro e w1 ⟨rfl, rfl⟩
  go_wp2_with fail
  refine (pick_any time 200 _ ht ⟨by omega, by omega⟩).mono ?_
  rintro e w1 ⟨rfl, rfl⟩
  go_wp2_with fail
  generalize hpo : Wv.pk origin (Wv.mkK n) = po at *
  have HPO : Hid (Wv.pk origin (Wv.mkK n) = po) := hpo
  clear hpo
  have EW : Hid (Mw w ((w.alloc (.cells bat0 25)).alloc (.cells #[I (po), I (2 + Wv.pk seq 29), I (1 + Wv.pk time 200), .slice none 0 0, .slice none 0 0] 25)) (w.heap.size + 1) #[I (po), I (2 + Wv.pk seq 29), I (1 + Wv.pk time 200), .slice none 0 0, .slice none 0 0]) := Mw.begin w _
  have O4 : Hid (((w.alloc (.cells bat0 25)).alloc (.cells #[I (po), I (2 + Wv.pk seq 29), I (1 + Wv.pk time 200), .slice none 0 0, .slice none 0 0] 25)).ownsRow (w.heap.size + 2) 3 1 (.slice none 0 0) 0 (([] : List Int).map I)) := ⟨rfl, .inl ⟨rfl, rfl⟩⟩
  obtain ⟨i, hi, hz0, hz1, hz2⟩ := info_parts infoI
  obtain ⟨K, hKK⟩ := Int.eq_ofNat_of_zero_le (by omega : 0 ≤ Wv.mkK n)
  have HKN : Hid ((Wv.mkK n).toNat = K) := by show _ = _; omega
  have HKK : Hid (Wv.mkK n = K) := hKK
  clear hKK
  go_loopw [13] (fun x wr => ∃ (k : Nat) (ca : Option Addr) (cc : Nat), k ≤ K ∧ x = I k ∧ Hid (Mw w wr (w.heap.size + 1) #[I (po), I (2 + Wv.pk seq 29), I (1 + Wv.pk time 200), .slice ca k cc, .slice none 0 0]) ∧ Hid (wr.ownsRow (w.heap.size + 2) 3 1 (.slice ca k cc) k (((Wv.mkC (Wv.mkK n) time).take k).map I))) (fun x _ => K - (intOf x).toNat)
  case atStart => exact ⟨0, none, 0, Nat.zero_le _, rfl, EW, by simpa using O4⟩
  case round =>
    obtain ⟨k, ca, cc, hk, rfl, HE, HO2⟩ := hrel
    clear EW O4
    by_cases hlt2 : k < K
    · have e3 : wr.cell? ⟨w.heap.size + 1, 3, none⟩ = some (.slice ca k cc) := HE.out.kE.cell 3
      have hEl : w.heap.size + 1 < wr.heap.size := HE.out.kE.lt
      have hki : (k : Int) < Wv.mkK n := by have := HKK.out; omega
      have hq0 : (k : Int) + 1 ≠ 0 := by omega
      have hk4 : k < 4 := by have := HKK.out; omega
      have hdv := tdiv_i64 time ((k : Int) + 1) ht (by omega)
      obtain ⟨hdv1, hdv2⟩ := hdv
      have hwr := wrap_i64 ((k : Int) + 1) (by omega) (by omega)
      have hwr2 := wrap_i64 _ hdv1 hdv2
      have hp30 := Wv.pk_lt (time.tdiv ((k : Int) + 1)) 30 (by omega)
      have HTK : Hid ((Wv.mkC (Wv.mkK n) time).take (k + 1) = (Wv.mkC (Wv.mkK n) time).take k ++ [1 + Wv.pk (time.tdiv ((k : Int) + 1)) 30]) := mkC_take _ _ _ (by rw [HKN.out]; exact hlt2)
      generalize (Wv.mkC (Wv.mkK n) time).take k = rr at *
      generalize hdd : Wv.pk (time.tdiv ((k : Int) + 1)) 30 = d at *
      have hwr3 := wrap_i64 (1 + d) (by omega) (by omega)
      go_wp2_with fail
      go_region_law ((first
        | (go_simp; go_at_call 17; refine (pick_any _ 30 _ ⟨hdv1, hdv2⟩ ⟨by omega, by omega⟩).mono ?_; rintro e w10 ⟨rfl, hw10⟩; rw [hdd]; have E10 : Hid (Mw w w10 (w.heap.size + 1) #[I (po), I (2 + Wv.pk seq 29), I (1 + Wv.pk time 200), .slice ca k cc, .slice none 0 0]) := (by rw [hw10]; first | exact HE | exact HE.out.drew); have O10 : Hid (w10.ownsRow (w.heap.size + 2) 3 1 (.slice ca k cc) k (rr.map I)) := (by rw [hw10]; first | exact HO2 | exact HO2.out.drew); have e3a : w10.cell? ⟨w.heap.size + 1, 3, none⟩ = some (.slice ca k cc) := E10.out.kE.cell 3; have e3c : (w10.alloc (.cells #[I (1 + d)] 3)).cell? ⟨w.heap.size + 1, 3, none⟩ = some (.slice ca k cc) := (E10.out.alloc _).kE.cell 3; clear hw10; dsimp only)
        | (refine step_append_lies _ (by rfl) _ _ _ (by rfl) (w.heap.size + 2) 3 i (.int .i64 0) 1 8 Tryd.underlying22 hi hz0 hz1 hz2 (by rfl) (by omega) (.slice ca k cc) k (rr.map I) (by rfl) (by first | exact O10.out.alloc _ | exact (O10.out.alloc _).drew | exact (O10.out.drew).alloc _) ⟨w10.heap.size, 0, none⟩ 1 1 [I (1 + d)] (by rfl) (by rfl) (by first | exact lit_any w10 _ _ | exact lit_drew w10 _ _) (int_one (1 + d)) (by omega) (by unfold maxLen; omega) (by omega) (by have := E10.out.kE.lt; simp; omega) (w10.heap.size + 1) (by simp) ?_; intro g5 cap5 w11 hown5 hgrow5 hat5 hlt5; have E11 : Hid (Mw w w11 (w.heap.size + 1) #[I (po), I (2 + Wv.pk seq 29), I (1 + Wv.pk time 200), .slice ca k cc, .slice none 0 0]) := (E10.out.alloc _).grow hgrow5 (fun b hb => by have := (O10.out.lt b hb).1; omega); have e3b : w11.cell? ⟨w.heap.size + 1, 3, none⟩ = some (.slice ca k cc) := E11.out.kE.cell 3; have x3b := E11.out.kE.frozen 3)))
      all_goals
        (have LF : Hid (Mw w (w11.setCell ⟨w.heap.size + 1, 3, none⟩ (.slice (some ⟨g5, 0, none⟩) (k + 1) cap5)) (w.heap.size + 1) #[I (po), I (2 + Wv.pk seq 29), I (1 + Wv.pk time 200), .slice (some ⟨g5, 0, none⟩) (k + 1) cap5, .slice none 0 0]) := E11.out.set 3 _
         have LO : Hid ((w11.setCell ⟨w.heap.size + 1, 3, none⟩ (.slice (some ⟨g5, 0, none⟩) (k + 1) cap5)).ownsRow (w.heap.size + 2) 3 1 (.slice (some ⟨g5, 0, none⟩) (k + 1) cap5) (k + 1) ((rr ++ [1 + d]).map I)) := by
           rw [List.map_append]
           refine own_kept hown5 fun b hb => heap_setCell_other _ ⟨w.heap.size + 1, 3, none⟩ _ _ ?_
           have := (hown5.lt b hb).1
           show b ≠ w.heap.size + 1
           omega
         clear E11 E10 O10 e3 e3a e3b e3c x3b hown5 hgrow5 hat5 hlt5 HE HO2
         go_wp2_with fail
         go_roundw
         case rel =>
           refine ⟨k + 1, some ⟨g5, 0, none⟩, cap5, by omega, by go_num, LF, ?_⟩
           rw [HTK.out]; exact LO
         case measure => simp [intOf]; omega)
    · obtain rfl : k = K := by omega
      have hki : ¬ (k : Int) < Wv.mkK n := by have := HKK.out; omega
      have b0 : wr.cell? ⟨w.heap.size + 1, 0, none⟩ = some (I (po)) := HE.out.kE.cell 0
      have b1 : wr.cell? ⟨w.heap.size + 1, 1, none⟩ = some (I (2 + Wv.pk seq 29)) := HE.out.kE.cell 1
      have b3 : wr.cell? ⟨w.heap.size + 1, 3, none⟩ = some (.slice ca k cc) := HE.out.kE.cell 3
      obtain ⟨oo, rfl⟩ := Int.eq_ofNat_of_zero_le o1.1
      have hok : oo < k := by have := HKK.out; omega
      obtain ⟨g, rfl, hg1, hg2⟩ := own_some HO2.out (by omega)
      obtain ⟨z1, ⟨u0, z2⟩, z3⟩ := own_set HO2.out oo hok (I (2 + Wv.pk seq 29 - 1))
      have O5 : Hid ((wr.setCell ⟨g, oo, none⟩ (I (2 + Wv.pk seq 29 - 1))).ownsRow (w.heap.size + 2) 3 1 (.slice (some ⟨g, 0, none⟩) k cc) k ((((Wv.mkC (Wv.mkK n) time).take k).set oo (2 + Wv.pk seq 29 - 1)).map I)) := by rw [List.map_set]; exact z3
      clear z3
      have hoi : (oo : Int) < (k : Int) := by omega
      have HB5 : Hid (Mw w (wr.setCell ⟨g, oo, none⟩ (I (2 + Wv.pk seq 29 - 1))) (w.heap.size + 1) #[I (oo), I (2 + Wv.pk seq 29), I (1 + Wv.pk time 200), .slice (some ⟨g, 0, none⟩) k cc, .slice none 0 0]) := HE.out.other (by omega) _
      have HRA5 : Hid (At (wr.setCell ⟨g, oo, none⟩ (I (2 + Wv.pk seq 29 - 1))) ra (raw.map I)) := HRA.out.kept HB5.out.below
      have hs5 : w.heap.size + 2 ≤ (wr.setCell ⟨g, oo, none⟩ (I (2 + Wv.pk seq 29 - 1))).heap.size := HB5.out.kE.lt
      have HCL : Hid ((Wv.mkC (Wv.mkK n) time).take k = Wv.mkC (Wv.mkK n) time) := List.take_of_length_le (by rw [Wv.mkC_len, HKN.out]; exact Nat.le_refl _)
      rw [HCL.out] at O5
      have hcl : ((Wv.mkC (Wv.mkK n) time).set oo (2 + Wv.pk seq 29 - 1)).length = k := by rw [List.length_set, Wv.mkC_len, HKN.out]
      clear HRA
      generalize hw5 : (wr.setCell ⟨g, oo, none⟩ (I (2 + Wv.pk seq 29 - 1))) = w5 at *
      clear HE HO2
      have HCLK : Hid (Wv.mkB n origin seq time raw = ⟨oo, 2 + Wv.pk seq 29, 1 + Wv.pk time 200, (Wv.mkC (Wv.mkK n) time).set oo (2 + Wv.pk seq 29 - 1), ((n :: raw).take 5).map (Wv.mkE (Wv.mkK n))⟩) := by
        have e := HPO.out
        show Wv.mkB n origin seq time raw = _
        unfold Wv.mkB
        rw [e]
        rfl
      generalize (Wv.mkC (Wv.mkK n) time).set oo (2 + Wv.pk seq 29 - 1) = cl at *
      have OL : Hid ((w5.alloc (.cells #[I n] 3)).ownsRow w5.heap.size 3 1 (.slice (some ⟨w5.heap.size, 0, none⟩) 1 1) 1 [I n]) := ⟨rfl, .inr ⟨w5.heap.size, 1, #[I n], rfl, Nat.le_refl _, heap_alloc_new w5 _, Nat.le_refl _, by unfold maxLen; omega, rfl, rfl⟩⟩
      have HB6 : Hid (Mw w (w5.alloc (.cells #[I n] 3)) (w.heap.size + 1) #[I (oo), I (2 + Wv.pk seq 29), I (1 + Wv.pk time 200), .slice (some ⟨g, 0, none⟩) k cc, .slice none 0 0]) := HB5.out.alloc _
      have HRA6 : Hid (At (w5.alloc (.cells #[I n] 3)) ra (raw.map I)) := HRA5.out.kept ((Below.refl _ _).alloc (Nat.le_refl _) _)
      have n1 : 1 + raw.length ≤ maxLen := by unfold maxLen; omega
      have n2 : (1 + raw.length) * 8 ≤ 140737488355328 := by omega
      have n3 : w5.heap.size ≤ (w5.alloc (.cells #[I n] 3)).heap.size := by simp
      have n4 : (raw.map I).length = raw.length * 1 := by simp
      have HN5 : Hid (ra = none → raw.length = 0) := fun e => by have := HRA6.out.none_nil e; simpa using this
      have HN6 := HRA6.out.add
      have HN7 := ints_one raw
      have n5 : 0 < 1 + raw.length := by omega
      go_wp2_with (first | (at_builtin; refine wpList_append_opt rfl _ _ _ rfl w5.heap.size 3 i (.int .i64 0) 1 8 Tryd.underlying22 hi hz0 hz1 hz2 rfl Nat.one_pos (.slice (some ⟨w5.heap.size, 0, none⟩) 1 1) 1 [I n] rfl OL.out ra raw.length rc (raw.map I) rfl n4 HN5.out HN6 HN7 n1 n2 n3 ?_; intro rv w6 hown6 hgrow6; obtain ⟨gr, cap6, rfl, hgr1, hgr2, hgr3⟩ := own_form hown6 n5; have LM : Hid (Ml w w6 w6 #[I (oo), I (2 + Wv.pk seq 29), I (1 + Wv.pk time 200), .slice (some ⟨g, 0, none⟩) k cc, .slice none 0 0] (.slice (some ⟨g, 0, none⟩) k cc) (.slice none 0 0) cl []) := ml_begin HB6.out O5.out hcl hgrow6 hs5; have RW : Hid (∀ j u, ((n :: raw).map I)[j]? = some u → w6.cell? ⟨gr, j, none⟩ = some u) := hgr3; clear hown6 hgrow6 hgr3 OL HRA6 HRA5 HB6 HB5 O5 b0 b1 b3 z1 z2 HN5 HN6 HN7 hi hz0 hz1 hz2))
      obtain ⟨i2, HI2⟩ : ∃ i2, Hid (Tryd.prog.info? 43 = some i2 ∧ i2.zero = some (.agg #[.int .i64 0, .int .i64 0, .int .i64 0, .int .i64 0, .int .i64 0, .int .i64 0, .slice none 0 0]) ∧ i2.size = 7 ∧ i2.bytes = 72) := by obtain ⟨i2, h⟩ := info_parts infoEf; exact ⟨i2, h⟩
      obtain ⟨i3, HI3⟩ : ∃ i3, Hid (Tryd.prog.info? 40 = some i3 ∧ i3.zero = some (.agg #[.int .i64 0, .int .i64 0, .int .i64 0]) ∧ i3.size = 3 ∧ i3.bytes = 24) := by obtain ⟨i3, h⟩ := info_parts infoDt; exact ⟨i3, h⟩
      obtain ⟨M, hM⟩ : ∃ M, Hid (M = min 5 (1 + raw.length)) := ⟨_, rfl⟩
      have hM5 : M ≤ 5 := by rw [hM.out]; exact Nat.min_le_left _ _
      have hMl : M ≤ 1 + raw.length := by rw [hM.out]; exact Nat.min_le_right _ _
      go_loopw [14] (fun x wr => ∃ (j : Nat) (ea : Option Addr) (ec : Nat) (ms : List Em), j ≤ M ∧ x = I j ∧ Hid (Ml w w6 wr #[I (oo), I (2 + Wv.pk seq 29), I (1 + Wv.pk time 200), .slice (some ⟨g, 0, none⟩) k cc, .slice ea j ec] (.slice (some ⟨g, 0, none⟩) k cc) (.slice ea j ec) cl ms) ∧ Hid (ms.map (·.e) = ((n :: raw).take j).map (Wv.mkE (Wv.mkK n)))) (fun x _ => M - (intOf x).toNat)
      case atStart => exact ⟨0, none, 0, [], Nat.zero_le _, rfl, LM, rfl⟩
      case round =>
        obtain ⟨j, ea, ec, ms, hj, rfl, HL, HMS⟩ := hrel
        clear LM
        by_cases hlt3 : j < M
        · obtain ⟨v, hv⟩ : ∃ v, (n :: raw)[j]? = some v := ⟨_, List.getElem?_eq_getElem (by simp only [List.length_cons]; omega)⟩
          have HV : i64 v := HRI.out v (List.mem_of_getElem? hv)
          have hgE : gr ≠ w.heap.size + 1 := by omega
          have RV : wr.cell? ⟨gr, j, none⟩ = some (I v) := by
            rw [World.cell?_of_block (a := ⟨gr, j, none⟩) (HL.out.old gr hgr2 hgE)]
            exact RW.out j _ (by rw [List.getElem?_map, hv]; rfl)
          have HTK : Hid ((n :: raw).take (j + 1) = (n :: raw).take j ++ [v]) := by
            show _ = _
            rw [List.take_add_one, hv]
            rfl
          have hml : ms.length = j := by have := congrArg List.length HMS.out; rw [List.length_map, List.length_map, List.length_take, List.length_cons] at this; omega
          have e4 : wr.cell? ⟨w.heap.size + 1, 4, none⟩ = some (.slice ea j ec) := HL.out.mw.kE.cell 4
          have hEl : w.heap.size + 1 < wr.heap.size := HL.out.mw.kE.lt
          have hgl : gr < wr.heap.size := Nat.lt_of_lt_of_le hgr2 HL.out.size
          have HOE : Hid (wr.ownsRow (w.heap.size + 2) 43 7 (.slice ea j ec) j (flat Em.cells ms)) := by have := HL.out.ob.cells; rw [hml] at this; exact this
          have q1 : (j : Int) < ((1 + raw.length : Nat) : Int) := by omega
          have q2 : (j : Int) < 5 := by omega
          have q3 : j < 1 + raw.length := by omega
          have q4 : 0 < Wv.mkK n ∧ Wv.mkK n ≤ 1048576 := by omega
          have t5 := tdiv_i64 v 5 HV (by decide)
          have t6 := tdiv_i64 v 6 HV (by decide)
          have t7 := tdiv_i64 v 7 HV (by decide)
          have y5 := wrap_i64 _ t5.1 t5.2
          have y6 := wrap_i64 _ t6.1 t6.2
          have y7 := wrap_i64 _ t7.1 t7.2
          have r6 := Wv.pk_lt v 6 (by decide)
          have rK := Wv.pk_lt v (Wv.mkK n) q4.1
          have r7 := Wv.pk_lt (v.tdiv 7) 5 (by decide)
          have rA := Wv.pk_lt (v.tdiv 6) 2001 (by decide)
          have rB := Wv.pk_lt (v.tdiv 6) 256 (by decide)
          have rC := Wv.pk_lt (v.tdiv 5) 2 (by decide)
          have q5 : j + 1 ≤ maxLen := by unfold maxLen; omega
          have q6 : (j + 1) * 72 ≤ 140737488355328 := by omega
          have q7 : 0 < 7 := by decide
          have q8 : 0 < j + 1 := by omega
          have q9 : w.heap.size + 2 ≤ wr.heap.size := hEl
          generalize hO : Wv.pk v 6 = oo6 at *
          generalize hdo : Wv.pk v (Wv.mkK n) = d0 at *
          generalize hdi : Wv.pk (v.tdiv 7) 5 = d2 at *
          have c6 : oo6 = 0 ∨ oo6 = 1 ∨ oo6 = 2 ∨ oo6 = 3 ∨ oo6 = 4 ∨ oo6 = 5 := by omega
          rcases c6 with rfl | rfl | rfl | rfl | rfl | rfl
          ·
            generalize hva : Wv.pk (v.tdiv 6) 2001 = va at *
            have HM : Hid (Wv.mkE (Wv.mkK n) v = ⟨1, 0, va - 1000, ⟨0, 0, 0⟩, []⟩) := by show _ = _; simp [Wv.mkE, hO, hva]
            have BX : Hid (Below wr.heap.size wr ((wr.alloc (.cells #[I d0, I 1, I d2] 40)).alloc (.cells #[I 1, I 0, I (va - 1000), I 0, I 0, I 0, .slice none 0 0] 43))) := ((Below.refl _ _).alloc (Nat.le_refl _) _).alloc (by simp) _
            have e4x : ((wr.alloc (.cells #[I d0, I 1, I d2] 40)).alloc (.cells #[I 1, I 0, I (va - 1000), I 0, I 0, I 0, .slice none 0 0] 43)).cell? ⟨w.heap.size + 1, 4, none⟩ = some (.slice ea j ec) := ((HL.out.mw.alloc _).alloc _).kE.cell 4
            have OX : Hid ((((wr.alloc (.cells #[I d0, I 1, I d2] 40)).alloc (.cells #[I 1, I 0, I (va - 1000), I 0, I 0, I 0, .slice none 0 0] 43)).alloc (.cells #[I 1, I 0, I (va - 1000), I 0, I 0, I 0, .slice none 0 0] 43)).ownsRow (w.heap.size + 2) 43 7 (.slice ea j ec) j (flat Em.cells ms)) := ((HOE.out.alloc _).alloc _).alloc _
            have DX : Hid (((wr.alloc (.cells #[I d0, I 1, I d2] 40)).alloc (.cells #[I 1, I 0, I (va - 1000), I 0, I 0, I 0, .slice none 0 0] 43)).ownsRow wr.heap.size 40 3 (.slice none 0 0) 0 (flat dotCells [])) := ⟨rfl, .inl ⟨rfl, rfl⟩⟩
            have s1 : Hid (wr.heap.size + 2 = ((wr.alloc (.cells #[I d0, I 1, I d2] 40)).alloc (.cells #[I 1, I 0, I (va - 1000), I 0, I 0, I 0, .slice none 0 0] 43)).heap.size) := by show _ = _; simp
            have s2 : w.heap.size + 2 ≤ (((wr.alloc (.cells #[I d0, I 1, I d2] 40)).alloc (.cells #[I 1, I 0, I (va - 1000), I 0, I 0, I 0, .slice none 0 0] 43)).alloc (.cells #[I 1, I 0, I (va - 1000), I 0, I 0, I 0, .slice none 0 0] 43)).heap.size := by simp; omega
            go_wp2_with (first
              | (go_at_call 17; refine (pick_any _ _ _ (by first | exact HV | exact t5 | exact t6 | exact t7) (by first | exact q4 | exact ⟨by decide, by decide⟩)).mono ?_; rintro e w10 ⟨rfl, hw10⟩; rw [hw10]; clear hw10 w10; simp only [hO, hdo, hdi, hva])
              | refine build_eff rfl _ rfl (I 1) (I 0) (I (va - 1000)) (I 0) (I 0) (I 0) (.slice none 0 0) rfl (wr.heap.size + 2) s1.out ?_
              | (at_builtin; refine wpList_append_own_at _ rfl _ _ _ rfl (w.heap.size + 2) 43 i2 (.agg #[.int .i64 0, .int .i64 0, .int .i64 0, .int .i64 0, .int .i64 0, .int .i64 0, .slice none 0 0]) 7 72 Tryd.underlying23 HI2.out.1 HI2.out.2.1 HI2.out.2.2.1 HI2.out.2.2.2 rfl q7 (.slice ea j ec) j (flat Em.cells ms) rfl OX.out ⟨wr.heap.size + 2, 0, none⟩ 1 1 [I 1, I 0, I (va - 1000), I 0, I 0, I 0, .slice none 0 0] rfl rfl (lit_at ((wr.alloc (.cells #[I d0, I 1, I d2] 40)).alloc (.cells #[I 1, I 0, I (va - 1000), I 0, I 0, I 0, .slice none 0 0] 43)) _ _ _ s1.out) (em_one ⟨⟨1, 0, va - 1000, ⟨0, 0, 0⟩, []⟩, none, 0⟩) q5 q6 s2 ?_; intro v7 w11 hown7 hgrow7 hnil7 hat7; obtain ⟨g7, cap7, rfl, _, _, _⟩ := own_form hown7 q8; have LF : Hid (Ml w w6 (w11.setCell ⟨w.heap.size + 1, 4, none⟩ (.slice (some ⟨g7, 0, none⟩) (j + 1) cap7)) #[I (oo), I (2 + Wv.pk seq 29), I (1 + Wv.pk time 200), .slice (some ⟨g, 0, none⟩) k cc, .slice (some ⟨g7, 0, none⟩) (j + 1) cap7] (.slice (some ⟨g, 0, none⟩) k cc) (.slice (some ⟨g7, 0, none⟩) (j + 1) cap7) cl (ms ++ [⟨⟨1, 0, va - 1000, ⟨0, 0, 0⟩, []⟩, none, 0⟩])) := HL.out.push BX.out DX.out (by rw [hml]; exact hown7) hgrow7 hat7; have k4 : w11.cell? ⟨w.heap.size + 1, 4, none⟩ = some (.slice ea j ec) := (HL.out.store BX.out hgrow7).1; have z4 := (HL.out.store BX.out hgrow7).2; clear hown7 hgrow7 hnil7 hat7))
            go_roundw
            case rel => exact ⟨j + 1, some ⟨g7, 0, none⟩, cap7, _, hlt3, by go_num, LF, by show List.map _ _ = _; rw [List.map_append, HMS.out, HTK.out, List.map_append]; simp [HM.out]⟩
            case measure => simp [intOf]; omega
          ·
            generalize hva : Wv.pk (v.tdiv 6) 256 = va at *
            have HM : Hid (Wv.mkE (Wv.mkK n) v = ⟨2, 1, va, ⟨0, 0, 0⟩, []⟩) := by show _ = _; simp [Wv.mkE, hO, hva]
            have BX : Hid (Below wr.heap.size wr ((wr.alloc (.cells #[I d0, I 1, I d2] 40)).alloc (.cells #[I 2, I 1, I va, I 0, I 0, I 0, .slice none 0 0] 43))) := ((Below.refl _ _).alloc (Nat.le_refl _) _).alloc (by simp) _
            have e4x : ((wr.alloc (.cells #[I d0, I 1, I d2] 40)).alloc (.cells #[I 2, I 1, I va, I 0, I 0, I 0, .slice none 0 0] 43)).cell? ⟨w.heap.size + 1, 4, none⟩ = some (.slice ea j ec) := ((HL.out.mw.alloc _).alloc _).kE.cell 4
            have OX : Hid ((((wr.alloc (.cells #[I d0, I 1, I d2] 40)).alloc (.cells #[I 2, I 1, I va, I 0, I 0, I 0, .slice none 0 0] 43)).alloc (.cells #[I 2, I 1, I va, I 0, I 0, I 0, .slice none 0 0] 43)).ownsRow (w.heap.size + 2) 43 7 (.slice ea j ec) j (flat Em.cells ms)) := ((HOE.out.alloc _).alloc _).alloc _
            have DX : Hid (((wr.alloc (.cells #[I d0, I 1, I d2] 40)).alloc (.cells #[I 2, I 1, I va, I 0, I 0, I 0, .slice none 0 0] 43)).ownsRow wr.heap.size 40 3 (.slice none 0 0) 0 (flat dotCells [])) := ⟨rfl, .inl ⟨rfl, rfl⟩⟩
            have s1 : Hid (wr.heap.size + 2 = ((wr.alloc (.cells #[I d0, I 1, I d2] 40)).alloc (.cells #[I 2, I 1, I va, I 0, I 0, I 0, .slice none 0 0] 43)).heap.size) := by show _ = _; simp
            have s2 : w.heap.size + 2 ≤ (((wr.alloc (.cells #[I d0, I 1, I d2] 40)).alloc (.cells #[I 2, I 1, I va, I 0, I 0, I 0, .slice none 0 0] 43)).alloc (.cells #[I 2, I 1, I va, I 0, I 0, I 0, .slice none 0 0] 43)).heap.size := by simp; omega
            go_wp2_with (first
              | (go_at_call 17; refine (pick_any _ _ _ (by first | exact HV | exact t5 | exact t6 | exact t7) (by first | exact q4 | exact ⟨by decide, by decide⟩)).mono ?_; rintro e w10 ⟨rfl, hw10⟩; rw [hw10]; clear hw10 w10; simp only [hO, hdo, hdi, hva])
              | refine build_eff rfl _ rfl (I 2) (I 1) (I va) (I 0) (I 0) (I 0) (.slice none 0 0) rfl (wr.heap.size + 2) s1.out ?_
              | (at_builtin; refine wpList_append_own_at _ rfl _ _ _ rfl (w.heap.size + 2) 43 i2 (.agg #[.int .i64 0, .int .i64 0, .int .i64 0, .int .i64 0, .int .i64 0, .int .i64 0, .slice none 0 0]) 7 72 Tryd.underlying23 HI2.out.1 HI2.out.2.1 HI2.out.2.2.1 HI2.out.2.2.2 rfl q7 (.slice ea j ec) j (flat Em.cells ms) rfl OX.out ⟨wr.heap.size + 2, 0, none⟩ 1 1 [I 2, I 1, I va, I 0, I 0, I 0, .slice none 0 0] rfl rfl (lit_at ((wr.alloc (.cells #[I d0, I 1, I d2] 40)).alloc (.cells #[I 2, I 1, I va, I 0, I 0, I 0, .slice none 0 0] 43)) _ _ _ s1.out) (em_one ⟨⟨2, 1, va, ⟨0, 0, 0⟩, []⟩, none, 0⟩) q5 q6 s2 ?_; intro v7 w11 hown7 hgrow7 hnil7 hat7; obtain ⟨g7, cap7, rfl, _, _, _⟩ := own_form hown7 q8; have LF : Hid (Ml w w6 (w11.setCell ⟨w.heap.size + 1, 4, none⟩ (.slice (some ⟨g7, 0, none⟩) (j + 1) cap7)) #[I (oo), I (2 + Wv.pk seq 29), I (1 + Wv.pk time 200), .slice (some ⟨g, 0, none⟩) k cc, .slice (some ⟨g7, 0, none⟩) (j + 1) cap7] (.slice (some ⟨g, 0, none⟩) k cc) (.slice (some ⟨g7, 0, none⟩) (j + 1) cap7) cl (ms ++ [⟨⟨2, 1, va, ⟨0, 0, 0⟩, []⟩, none, 0⟩])) := HL.out.push BX.out DX.out (by rw [hml]; exact hown7) hgrow7 hat7; have k4 : w11.cell? ⟨w.heap.size + 1, 4, none⟩ = some (.slice ea j ec) := (HL.out.store BX.out hgrow7).1; have z4 := (HL.out.store BX.out hgrow7).2; clear hown7 hgrow7 hnil7 hat7))
            go_roundw
            case rel => exact ⟨j + 1, some ⟨g7, 0, none⟩, cap7, _, hlt3, by go_num, LF, by show List.map _ _ = _; rw [List.map_append, HMS.out, HTK.out, List.map_append]; simp [HM.out]⟩
            case measure => simp [intOf]; omega
          ·
            have HM : Hid (Wv.mkE (Wv.mkK n) v = ⟨3, 5, 0, ⟨0, 0, 0⟩, [⟨d0, 1, d2⟩]⟩) := by show _ = _; simp [Wv.mkE, Wv.mkD, hO, hdo, hdi]
            have XW : Hid (Xw (wr.alloc (.cells #[I d0, I 1, I d2] 40)) (((wr.alloc (.cells #[I d0, I 1, I d2] 40)).alloc (.cells #[I 3, I 5, I 0, I 0, I 0, I 0, .slice none 0 0] 43)).alloc (.cells #[I d0, I 1, I d2] 40)) (wr.heap.size + 1) #[I 3, I 5, I 0, I 0, I 0, I 0, .slice none 0 0]) := xw_lit wr _ _ _
            have DN : Hid ((((wr.alloc (.cells #[I d0, I 1, I d2] 40)).alloc (.cells #[I 3, I 5, I 0, I 0, I 0, I 0, .slice none 0 0] 43)).alloc (.cells #[I d0, I 1, I d2] 40)).ownsRow (wr.heap.size + 2) 40 3 (.slice none 0 0) 0 []) := ⟨rfl, .inl ⟨rfl, rfl⟩⟩
            have s1 : Hid (wr.heap.size + 2 = ((wr.alloc (.cells #[I d0, I 1, I d2] 40)).alloc (.cells #[I 3, I 5, I 0, I 0, I 0, I 0, .slice none 0 0] 43)).heap.size) := by show _ = _; simp
            have s2 : wr.heap.size + 2 ≤ (((wr.alloc (.cells #[I d0, I 1, I d2] 40)).alloc (.cells #[I 3, I 5, I 0, I 0, I 0, I 0, .slice none 0 0] 43)).alloc (.cells #[I d0, I 1, I d2] 40)).heap.size := by simp
            have s3 : 0 + 1 ≤ maxLen := by unfold maxLen; omega
            go_wp2_with (first
              | (go_at_call 17; refine (pick_any _ _ _ (by first | exact HV | exact t5 | exact t6 | exact t7) (by first | exact q4 | exact ⟨by decide, by decide⟩)).mono ?_; rintro e w10 ⟨rfl, hw10⟩; rw [hw10]; clear hw10 w10; simp only [hO, hdo, hdi])
              | refine build_dot rfl _ rfl (I d0) (I 1) (I d2) rfl (wr.heap.size + 2) s1.out ?_
              | refine build_eff rfl _ rfl (I 3) (I 5) (I 0) (I 0) (I 0) (I 0) (.slice (some ⟨g9, 0, none⟩) 1 cap9) rfl w9.heap.size (by simp) ?_
              | (at_builtin; refine wpList_append_own_at _ rfl _ _ _ rfl (wr.heap.size + 2) 40 i3 (.agg #[.int .i64 0, .int .i64 0, .int .i64 0]) 3 24 Tryd.underlying41 HI3.out.1 HI3.out.2.1 HI3.out.2.2.1 HI3.out.2.2.2 rfl (by decide) (.slice none 0 0) 0 [] rfl DN.out ⟨wr.heap.size + 2, 0, none⟩ 1 1 [I d0, I 1, I d2] rfl rfl (lit_at ((wr.alloc (.cells #[I d0, I 1, I d2] 40)).alloc (.cells #[I 3, I 5, I 0, I 0, I 0, I 0, .slice none 0 0] 43)) _ _ _ s1.out) (dot_one ⟨d0, 1, d2⟩) s3 (by decide) s2 ?_; intro v9 w9 hown9 hgrow9 hnil9 hat9; obtain ⟨g9, cap9, rfl, hg9, hl9, _⟩ := own_form hown9 (by decide); have XW9 : Hid (Xw (wr.alloc (.cells #[I d0, I 1, I d2] 40)) w9 (wr.heap.size + 1) #[I 3, I 5, I 0, I 0, I 0, I 0, .slice none 0 0]) := XW.out.grow hgrow9 (fun b e => by cases e); have XS9 : Hid (Xw (wr.alloc (.cells #[I d0, I 1, I d2] 40)) (w9.setCell ⟨wr.heap.size + 1, 6, none⟩ (.slice (some ⟨g9, 0, none⟩) 1 cap9)) (wr.heap.size + 1) #[I 3, I 5, I 0, I 0, I 0, I 0, .slice (some ⟨g9, 0, none⟩) 1 cap9]) := XW9.out.set 6 _; have x6 : w9.cell? ⟨wr.heap.size + 1, 6, none⟩ = some (.slice none 0 0) := XW9.out.kX.cell 6; have x6z := XW9.out.kX.frozen 6; have y0 : (w9.setCell ⟨wr.heap.size + 1, 6, none⟩ (.slice (some ⟨g9, 0, none⟩) 1 cap9)).cell? ⟨wr.heap.size + 1, 0, none⟩ = some (I 3) := XS9.out.kX.cell 0; have y1 : (w9.setCell ⟨wr.heap.size + 1, 6, none⟩ (.slice (some ⟨g9, 0, none⟩) 1 cap9)).cell? ⟨wr.heap.size + 1, 1, none⟩ = some (I 5) := XS9.out.kX.cell 1; have y2 : (w9.setCell ⟨wr.heap.size + 1, 6, none⟩ (.slice (some ⟨g9, 0, none⟩) 1 cap9)).cell? ⟨wr.heap.size + 1, 2, none⟩ = some (I 0) := XS9.out.kX.cell 2; have y3 : (w9.setCell ⟨wr.heap.size + 1, 6, none⟩ (.slice (some ⟨g9, 0, none⟩) 1 cap9)).cell? ⟨wr.heap.size + 1, 3, none⟩ = some (I 0) := XS9.out.kX.cell 3; have y4 : (w9.setCell ⟨wr.heap.size + 1, 6, none⟩ (.slice (some ⟨g9, 0, none⟩) 1 cap9)).cell? ⟨wr.heap.size + 1, 4, none⟩ = some (I 0) := XS9.out.kX.cell 4; have y5 : (w9.setCell ⟨wr.heap.size + 1, 6, none⟩ (.slice (some ⟨g9, 0, none⟩) 1 cap9)).cell? ⟨wr.heap.size + 1, 5, none⟩ = some (I 0) := XS9.out.kX.cell 5; have y6 : (w9.setCell ⟨wr.heap.size + 1, 6, none⟩ (.slice (some ⟨g9, 0, none⟩) 1 cap9)).cell? ⟨wr.heap.size + 1, 6, none⟩ = some (.slice (some ⟨g9, 0, none⟩) 1 cap9) := XS9.out.kX.cell 6; have BX : Hid (Below wr.heap.size wr (w9.setCell ⟨wr.heap.size + 1, 6, none⟩ (.slice (some ⟨g9, 0, none⟩) 1 cap9))) := xw_below XS9.out; have e4x : (w9.setCell ⟨wr.heap.size + 1, 6, none⟩ (.slice (some ⟨g9, 0, none⟩) 1 cap9)).cell? ⟨w.heap.size + 1, 4, none⟩ = some (.slice ea j ec) := (HL.out.mw.kept BX.out).kE.cell 4; have DX : Hid ((w9.setCell ⟨wr.heap.size + 1, 6, none⟩ (.slice (some ⟨g9, 0, none⟩) 1 cap9)).ownsRow wr.heap.size 40 3 (.slice (some ⟨g9, 0, none⟩) 1 cap9) 1 [I d0, I 1, I d2]) := own_mono (own_kept hown9 (fun b hb => heap_setCell_other _ ⟨wr.heap.size + 1, 6, none⟩ _ _ (by have := (hown9.lt b hb).1; show b ≠ wr.heap.size + 1; omega))) (by omega); have OX : Hid (((w9.setCell ⟨wr.heap.size + 1, 6, none⟩ (.slice (some ⟨g9, 0, none⟩) 1 cap9)).alloc (.cells #[I 3, I 5, I 0, I 0, I 0, I 0, .slice (some ⟨g9, 0, none⟩) 1 cap9] 43)).ownsRow (w.heap.size + 2) 43 7 (.slice ea j ec) j (flat Em.cells ms)) := (own_kept HOE.out (fun b hb => BX.out.block b (HOE.out.lt b hb).2)).alloc _; have s4 : w.heap.size + 2 ≤ ((w9.setCell ⟨wr.heap.size + 1, 6, none⟩ (.slice (some ⟨g9, 0, none⟩) 1 cap9)).alloc (.cells #[I 3, I 5, I 0, I 0, I 0, I 0, .slice (some ⟨g9, 0, none⟩) 1 cap9] 43)).heap.size := (by have := BX.out.size; simp only [World.size_setCell] at this; simp; omega); clear hown9 hgrow9 hnil9 hat9)
              | (at_builtin; refine wpList_append_own_at _ rfl _ _ _ rfl (w.heap.size + 2) 43 i2 (.agg #[.int .i64 0, .int .i64 0, .int .i64 0, .int .i64 0, .int .i64 0, .int .i64 0, .slice none 0 0]) 7 72 Tryd.underlying23 HI2.out.1 HI2.out.2.1 HI2.out.2.2.1 HI2.out.2.2.2 rfl q7 (.slice ea j ec) j (flat Em.cells ms) rfl OX.out ⟨w9.heap.size, 0, none⟩ 1 1 [I 3, I 5, I 0, I 0, I 0, I 0, .slice (some ⟨g9, 0, none⟩) 1 cap9] rfl rfl (lit_at (w9.setCell ⟨wr.heap.size + 1, 6, none⟩ (.slice (some ⟨g9, 0, none⟩) 1 cap9)) _ _ _ (by simp)) (em_one ⟨⟨3, 5, 0, ⟨0, 0, 0⟩, [⟨d0, 1, d2⟩]⟩, some ⟨g9, 0, none⟩, cap9⟩) q5 q6 s4 ?_; intro v7 w11 hown7 hgrow7 hnil7 hat7; obtain ⟨g7, cap7, rfl, _, _, _⟩ := own_form hown7 q8; have LF : Hid (Ml w w6 (w11.setCell ⟨w.heap.size + 1, 4, none⟩ (.slice (some ⟨g7, 0, none⟩) (j + 1) cap7)) #[I (oo), I (2 + Wv.pk seq 29), I (1 + Wv.pk time 200), .slice (some ⟨g, 0, none⟩) k cc, .slice (some ⟨g7, 0, none⟩) (j + 1) cap7] (.slice (some ⟨g, 0, none⟩) k cc) (.slice (some ⟨g7, 0, none⟩) (j + 1) cap7) cl (ms ++ [⟨⟨3, 5, 0, ⟨0, 0, 0⟩, [⟨d0, 1, d2⟩]⟩, some ⟨g9, 0, none⟩, cap9⟩])) := HL.out.push BX.out DX.out (by rw [hml]; exact hown7) hgrow7 hat7; have k4 : w11.cell? ⟨w.heap.size + 1, 4, none⟩ = some (.slice ea j ec) := (HL.out.store BX.out hgrow7).1; have z4 := (HL.out.store BX.out hgrow7).2; clear hown7 hgrow7 hnil7 hat7))
            go_roundw
            case rel => exact ⟨j + 1, some ⟨g7, 0, none⟩, cap7, _, hlt3, by go_num, LF, by show List.map _ _ = _; rw [List.map_append, HMS.out, HTK.out, List.map_append]; simp [HM.out]⟩
            case measure => simp [intOf]; omega
          ·
            generalize hva : Wv.pk (v.tdiv 6) 256 = va at *
            generalize hvc : Wv.pk (v.tdiv 5) 2 = vc at *
            have c2 : vc = 0 ∨ vc = 1 := by omega
            rcases c2 with rfl | rfl
            ·
              have HM : Hid (Wv.mkE (Wv.mkK n) v = ⟨4, 2, va, ⟨0, 0, 0⟩, [⟨0, 1, 2⟩, ⟨1, 1, 0⟩]⟩) := by show _ = _; simp [Wv.mkE, hO, hva, hvc]
              have XW : Hid (Xw (wr.alloc (.cells #[I d0, I 1, I d2] 40)) (((wr.alloc (.cells #[I d0, I 1, I d2] 40)).alloc (.cells #[I 4, I 2, I va, I 0, I 0, I 0, .slice none 0 0] 43)).alloc (.cells #[I 0, I 1, I 2, I 1, I 1, I 0] 40)) (wr.heap.size + 1) #[I 4, I 2, I va, I 0, I 0, I 0, .slice none 0 0]) := xw_lit wr _ _ _
              have DN : Hid ((((wr.alloc (.cells #[I d0, I 1, I d2] 40)).alloc (.cells #[I 4, I 2, I va, I 0, I 0, I 0, .slice none 0 0] 43)).alloc (.cells #[I 0, I 1, I 2, I 1, I 1, I 0] 40)).ownsRow (wr.heap.size + 2) 40 3 (.slice none 0 0) 0 []) := ⟨rfl, .inl ⟨rfl, rfl⟩⟩
              have s1 : Hid (wr.heap.size + 2 = ((wr.alloc (.cells #[I d0, I 1, I d2] 40)).alloc (.cells #[I 4, I 2, I va, I 0, I 0, I 0, .slice none 0 0] 43)).heap.size) := by show _ = _; simp
              have s2 : wr.heap.size + 2 ≤ (((wr.alloc (.cells #[I d0, I 1, I d2] 40)).alloc (.cells #[I 4, I 2, I va, I 0, I 0, I 0, .slice none 0 0] 43)).alloc (.cells #[I 0, I 1, I 2, I 1, I 1, I 0] 40)).heap.size := by simp
              have s3 : 0 + 2 ≤ maxLen := by unfold maxLen; omega
              go_wp2_with (first
                | (go_at_call 17; refine (pick_any _ _ _ (by first | exact HV | exact t5 | exact t6 | exact t7) (by first | exact q4 | exact ⟨by decide, by decide⟩)).mono ?_; rintro e w10 ⟨rfl, hw10⟩; rw [hw10]; clear hw10 w10; simp only [hO, hdo, hdi, hva, hvc])
                | refine build_dots rfl _ _ rfl (I 0) (I 1) (I 2) (I 1) (I 1) (I 0) rfl rfl (wr.heap.size + 2) s1.out ?_
                | refine build_eff rfl _ rfl (I 4) (I 2) (I va) (I 0) (I 0) (I 0) (.slice (some ⟨g9, 0, none⟩) 2 cap9) rfl w9.heap.size (by simp) ?_
                | (at_builtin; refine wpList_append_own_at _ rfl _ _ _ rfl (wr.heap.size + 2) 40 i3 (.agg #[.int .i64 0, .int .i64 0, .int .i64 0]) 3 24 Tryd.underlying41 HI3.out.1 HI3.out.2.1 HI3.out.2.2.1 HI3.out.2.2.2 rfl (by decide) (.slice none 0 0) 0 [] rfl DN.out ⟨wr.heap.size + 2, 0, none⟩ 2 2 [I 0, I 1, I 2, I 1, I 1, I 0] rfl rfl (lit_at ((wr.alloc (.cells #[I d0, I 1, I d2] 40)).alloc (.cells #[I 4, I 2, I va, I 0, I 0, I 0, .slice none 0 0] 43)) _ _ _ s1.out) (dots_one [⟨0, 1, 2⟩, ⟨1, 1, 0⟩]) s3 (by decide) s2 ?_; intro v9 w9 hown9 hgrow9 hnil9 hat9; obtain ⟨g9, cap9, rfl, hg9, hl9, _⟩ := own_form hown9 (by decide); have XW9 : Hid (Xw (wr.alloc (.cells #[I d0, I 1, I d2] 40)) w9 (wr.heap.size + 1) #[I 4, I 2, I va, I 0, I 0, I 0, .slice none 0 0]) := XW.out.grow hgrow9 (fun b e => by cases e); have XS9 : Hid (Xw (wr.alloc (.cells #[I d0, I 1, I d2] 40)) (w9.setCell ⟨wr.heap.size + 1, 6, none⟩ (.slice (some ⟨g9, 0, none⟩) 2 cap9)) (wr.heap.size + 1) #[I 4, I 2, I va, I 0, I 0, I 0, .slice (some ⟨g9, 0, none⟩) 2 cap9]) := XW9.out.set 6 _; have x6 : w9.cell? ⟨wr.heap.size + 1, 6, none⟩ = some (.slice none 0 0) := XW9.out.kX.cell 6; have x6z := XW9.out.kX.frozen 6; have y0 : (w9.setCell ⟨wr.heap.size + 1, 6, none⟩ (.slice (some ⟨g9, 0, none⟩) 2 cap9)).cell? ⟨wr.heap.size + 1, 0, none⟩ = some (I 4) := XS9.out.kX.cell 0; have y1 : (w9.setCell ⟨wr.heap.size + 1, 6, none⟩ (.slice (some ⟨g9, 0, none⟩) 2 cap9)).cell? ⟨wr.heap.size + 1, 1, none⟩ = some (I 2) := XS9.out.kX.cell 1; have y2 : (w9.setCell ⟨wr.heap.size + 1, 6, none⟩ (.slice (some ⟨g9, 0, none⟩) 2 cap9)).cell? ⟨wr.heap.size + 1, 2, none⟩ = some (I va) := XS9.out.kX.cell 2; have y3 : (w9.setCell ⟨wr.heap.size + 1, 6, none⟩ (.slice (some ⟨g9, 0, none⟩) 2 cap9)).cell? ⟨wr.heap.size + 1, 3, none⟩ = some (I 0) := XS9.out.kX.cell 3; have y4 : (w9.setCell ⟨wr.heap.size + 1, 6, none⟩ (.slice (some ⟨g9, 0, none⟩) 2 cap9)).cell? ⟨wr.heap.size + 1, 4, none⟩ = some (I 0) := XS9.out.kX.cell 4; have y5 : (w9.setCell ⟨wr.heap.size + 1, 6, none⟩ (.slice (some ⟨g9, 0, none⟩) 2 cap9)).cell? ⟨wr.heap.size + 1, 5, none⟩ = some (I 0) := XS9.out.kX.cell 5; have y6 : (w9.setCell ⟨wr.heap.size + 1, 6, none⟩ (.slice (some ⟨g9, 0, none⟩) 2 cap9)).cell? ⟨wr.heap.size + 1, 6, none⟩ = some (.slice (some ⟨g9, 0, none⟩) 2 cap9) := XS9.out.kX.cell 6; have BX : Hid (Below wr.heap.size wr (w9.setCell ⟨wr.heap.size + 1, 6, none⟩ (.slice (some ⟨g9, 0, none⟩) 2 cap9))) := xw_below XS9.out; have e4x : (w9.setCell ⟨wr.heap.size + 1, 6, none⟩ (.slice (some ⟨g9, 0, none⟩) 2 cap9)).cell? ⟨w.heap.size + 1, 4, none⟩ = some (.slice ea j ec) := (HL.out.mw.kept BX.out).kE.cell 4; have DX : Hid ((w9.setCell ⟨wr.heap.size + 1, 6, none⟩ (.slice (some ⟨g9, 0, none⟩) 2 cap9)).ownsRow wr.heap.size 40 3 (.slice (some ⟨g9, 0, none⟩) 2 cap9) 2 [I 0, I 1, I 2, I 1, I 1, I 0]) := own_mono (own_kept hown9 (fun b hb => heap_setCell_other _ ⟨wr.heap.size + 1, 6, none⟩ _ _ (by have := (hown9.lt b hb).1; show b ≠ wr.heap.size + 1; omega))) (by omega); have OX : Hid (((w9.setCell ⟨wr.heap.size + 1, 6, none⟩ (.slice (some ⟨g9, 0, none⟩) 2 cap9)).alloc (.cells #[I 4, I 2, I va, I 0, I 0, I 0, .slice (some ⟨g9, 0, none⟩) 2 cap9] 43)).ownsRow (w.heap.size + 2) 43 7 (.slice ea j ec) j (flat Em.cells ms)) := (own_kept HOE.out (fun b hb => BX.out.block b (HOE.out.lt b hb).2)).alloc _; have s4 : w.heap.size + 2 ≤ ((w9.setCell ⟨wr.heap.size + 1, 6, none⟩ (.slice (some ⟨g9, 0, none⟩) 2 cap9)).alloc (.cells #[I 4, I 2, I va, I 0, I 0, I 0, .slice (some ⟨g9, 0, none⟩) 2 cap9] 43)).heap.size := (by have := BX.out.size; simp only [World.size_setCell] at this; simp; omega); clear hown9 hgrow9 hnil9 hat9)
                | (at_builtin; refine wpList_append_own_at _ rfl _ _ _ rfl (w.heap.size + 2) 43 i2 (.agg #[.int .i64 0, .int .i64 0, .int .i64 0, .int .i64 0, .int .i64 0, .int .i64 0, .slice none 0 0]) 7 72 Tryd.underlying23 HI2.out.1 HI2.out.2.1 HI2.out.2.2.1 HI2.out.2.2.2 rfl q7 (.slice ea j ec) j (flat Em.cells ms) rfl OX.out ⟨w9.heap.size, 0, none⟩ 1 1 [I 4, I 2, I va, I 0, I 0, I 0, .slice (some ⟨g9, 0, none⟩) 2 cap9] rfl rfl (lit_at (w9.setCell ⟨wr.heap.size + 1, 6, none⟩ (.slice (some ⟨g9, 0, none⟩) 2 cap9)) _ _ _ (by simp)) (em_one ⟨⟨4, 2, va, ⟨0, 0, 0⟩, [⟨0, 1, 2⟩, ⟨1, 1, 0⟩]⟩, some ⟨g9, 0, none⟩, cap9⟩) q5 q6 s4 ?_; intro v7 w11 hown7 hgrow7 hnil7 hat7; obtain ⟨g7, cap7, rfl, _, _, _⟩ := own_form hown7 q8; have LF : Hid (Ml w w6 (w11.setCell ⟨w.heap.size + 1, 4, none⟩ (.slice (some ⟨g7, 0, none⟩) (j + 1) cap7)) #[I (oo), I (2 + Wv.pk seq 29), I (1 + Wv.pk time 200), .slice (some ⟨g, 0, none⟩) k cc, .slice (some ⟨g7, 0, none⟩) (j + 1) cap7] (.slice (some ⟨g, 0, none⟩) k cc) (.slice (some ⟨g7, 0, none⟩) (j + 1) cap7) cl (ms ++ [⟨⟨4, 2, va, ⟨0, 0, 0⟩, [⟨0, 1, 2⟩, ⟨1, 1, 0⟩]⟩, some ⟨g9, 0, none⟩, cap9⟩])) := HL.out.push BX.out DX.out (by rw [hml]; exact hown7) hgrow7 hat7; have k4 : w11.cell? ⟨w.heap.size + 1, 4, none⟩ = some (.slice ea j ec) := (HL.out.store BX.out hgrow7).1; have z4 := (HL.out.store BX.out hgrow7).2; clear hown7 hgrow7 hnil7 hat7))
              go_roundw
              case rel => exact ⟨j + 1, some ⟨g7, 0, none⟩, cap7, _, hlt3, by go_num, LF, by show List.map _ _ = _; rw [List.map_append, HMS.out, HTK.out, List.map_append]; simp [HM.out]⟩
              case measure => simp [intOf]; omega
            ·
              have HM : Hid (Wv.mkE (Wv.mkK n) v = ⟨4, 2, va, ⟨0, 0, 0⟩, []⟩) := by show _ = _; simp [Wv.mkE, hO, hva, hvc]
              have BX : Hid (Below wr.heap.size wr ((wr.alloc (.cells #[I d0, I 1, I d2] 40)).alloc (.cells #[I 4, I 2, I va, I 0, I 0, I 0, .slice none 0 0] 43))) := ((Below.refl _ _).alloc (Nat.le_refl _) _).alloc (by simp) _
              have e4x : ((wr.alloc (.cells #[I d0, I 1, I d2] 40)).alloc (.cells #[I 4, I 2, I va, I 0, I 0, I 0, .slice none 0 0] 43)).cell? ⟨w.heap.size + 1, 4, none⟩ = some (.slice ea j ec) := ((HL.out.mw.alloc _).alloc _).kE.cell 4
              have OX : Hid ((((wr.alloc (.cells #[I d0, I 1, I d2] 40)).alloc (.cells #[I 4, I 2, I va, I 0, I 0, I 0, .slice none 0 0] 43)).alloc (.cells #[I 4, I 2, I va, I 0, I 0, I 0, .slice none 0 0] 43)).ownsRow (w.heap.size + 2) 43 7 (.slice ea j ec) j (flat Em.cells ms)) := ((HOE.out.alloc _).alloc _).alloc _
              have DX : Hid (((wr.alloc (.cells #[I d0, I 1, I d2] 40)).alloc (.cells #[I 4, I 2, I va, I 0, I 0, I 0, .slice none 0 0] 43)).ownsRow wr.heap.size 40 3 (.slice none 0 0) 0 (flat dotCells [])) := ⟨rfl, .inl ⟨rfl, rfl⟩⟩
              have s1 : Hid (wr.heap.size + 2 = ((wr.alloc (.cells #[I d0, I 1, I d2] 40)).alloc (.cells #[I 4, I 2, I va, I 0, I 0, I 0, .slice none 0 0] 43)).heap.size) := by show _ = _; simp
              have s2 : w.heap.size + 2 ≤ (((wr.alloc (.cells #[I d0, I 1, I d2] 40)).alloc (.cells #[I 4, I 2, I va, I 0, I 0, I 0, .slice none 0 0] 43)).alloc (.cells #[I 4, I 2, I va, I 0, I 0, I 0, .slice none 0 0] 43)).heap.size := by simp; omega
              go_wp2_with (first
                | (go_at_call 17; refine (pick_any _ _ _ (by first | exact HV | exact t5 | exact t6 | exact t7) (by first | exact q4 | exact ⟨by decide, by decide⟩)).mono ?_; rintro e w10 ⟨rfl, hw10⟩; rw [hw10]; clear hw10 w10; simp only [hO, hdo, hdi, hva, hvc])
                | refine build_eff rfl _ rfl (I 4) (I 2) (I va) (I 0) (I 0) (I 0) (.slice none 0 0) rfl (wr.heap.size + 2) s1.out ?_
                | (at_builtin; refine wpList_append_own_at _ rfl _ _ _ rfl (w.heap.size + 2) 43 i2 (.agg #[.int .i64 0, .int .i64 0, .int .i64 0, .int .i64 0, .int .i64 0, .int .i64 0, .slice none 0 0]) 7 72 Tryd.underlying23 HI2.out.1 HI2.out.2.1 HI2.out.2.2.1 HI2.out.2.2.2 rfl q7 (.slice ea j ec) j (flat Em.cells ms) rfl OX.out ⟨wr.heap.size + 2, 0, none⟩ 1 1 [I 4, I 2, I va, I 0, I 0, I 0, .slice none 0 0] rfl rfl (lit_at ((wr.alloc (.cells #[I d0, I 1, I d2] 40)).alloc (.cells #[I 4, I 2, I va, I 0, I 0, I 0, .slice none 0 0] 43)) _ _ _ s1.out) (em_one ⟨⟨4, 2, va, ⟨0, 0, 0⟩, []⟩, none, 0⟩) q5 q6 s2 ?_; intro v7 w11 hown7 hgrow7 hnil7 hat7; obtain ⟨g7, cap7, rfl, _, _, _⟩ := own_form hown7 q8; have LF : Hid (Ml w w6 (w11.setCell ⟨w.heap.size + 1, 4, none⟩ (.slice (some ⟨g7, 0, none⟩) (j + 1) cap7)) #[I (oo), I (2 + Wv.pk seq 29), I (1 + Wv.pk time 200), .slice (some ⟨g, 0, none⟩) k cc, .slice (some ⟨g7, 0, none⟩) (j + 1) cap7] (.slice (some ⟨g, 0, none⟩) k cc) (.slice (some ⟨g7, 0, none⟩) (j + 1) cap7) cl (ms ++ [⟨⟨4, 2, va, ⟨0, 0, 0⟩, []⟩, none, 0⟩])) := HL.out.push BX.out DX.out (by rw [hml]; exact hown7) hgrow7 hat7; have k4 : w11.cell? ⟨w.heap.size + 1, 4, none⟩ = some (.slice ea j ec) := (HL.out.store BX.out hgrow7).1; have z4 := (HL.out.store BX.out hgrow7).2; clear hown7 hgrow7 hnil7 hat7))
              go_roundw
              case rel => exact ⟨j + 1, some ⟨g7, 0, none⟩, cap7, _, hlt3, by go_num, LF, by show List.map _ _ = _; rw [List.map_append, HMS.out, HTK.out, List.map_append]; simp [HM.out]⟩
              case measure => simp [intOf]; omega
          ·
            generalize hva : Wv.pk (v.tdiv 6) 256 = va at *
            generalize hvc : Wv.pk (v.tdiv 5) 2 = vc at *
            have c2 : vc = 0 ∨ vc = 1 := by omega
            rcases c2 with rfl | rfl
            ·
              have HM : Hid (Wv.mkE (Wv.mkK n) v = ⟨5, 7, va, ⟨d0, 1, d2⟩, []⟩) := by show _ = _; simp [Wv.mkE, Wv.mkD, hO, hva, hvc, hdo, hdi]
              have BX : Hid (Below wr.heap.size wr ((wr.alloc (.cells #[I d0, I 1, I d2] 40)).alloc (.cells #[I 5, I 7, I va, I d0, I 1, I d2, .slice none 0 0] 43))) := ((Below.refl _ _).alloc (Nat.le_refl _) _).alloc (by simp) _
              have e4x : ((wr.alloc (.cells #[I d0, I 1, I d2] 40)).alloc (.cells #[I 5, I 7, I va, I d0, I 1, I d2, .slice none 0 0] 43)).cell? ⟨w.heap.size + 1, 4, none⟩ = some (.slice ea j ec) := ((HL.out.mw.alloc _).alloc _).kE.cell 4
              have OX : Hid ((((wr.alloc (.cells #[I d0, I 1, I d2] 40)).alloc (.cells #[I 5, I 7, I va, I d0, I 1, I d2, .slice none 0 0] 43)).alloc (.cells #[I 5, I 7, I va, I d0, I 1, I d2, .slice none 0 0] 43)).ownsRow (w.heap.size + 2) 43 7 (.slice ea j ec) j (flat Em.cells ms)) := ((HOE.out.alloc _).alloc _).alloc _
              have DX : Hid (((wr.alloc (.cells #[I d0, I 1, I d2] 40)).alloc (.cells #[I 5, I 7, I va, I d0, I 1, I d2, .slice none 0 0] 43)).ownsRow wr.heap.size 40 3 (.slice none 0 0) 0 (flat dotCells [])) := ⟨rfl, .inl ⟨rfl, rfl⟩⟩
              have s1 : Hid (wr.heap.size + 2 = ((wr.alloc (.cells #[I d0, I 1, I d2] 40)).alloc (.cells #[I 5, I 7, I va, I d0, I 1, I d2, .slice none 0 0] 43)).heap.size) := by show _ = _; simp
              have s2 : w.heap.size + 2 ≤ (((wr.alloc (.cells #[I d0, I 1, I d2] 40)).alloc (.cells #[I 5, I 7, I va, I d0, I 1, I d2, .slice none 0 0] 43)).alloc (.cells #[I 5, I 7, I va, I d0, I 1, I d2, .slice none 0 0] 43)).heap.size := by simp; omega
              go_wp2_with (first
                | (go_at_call 17; refine (pick_any _ _ _ (by first | exact HV | exact t5 | exact t6 | exact t7) (by first | exact q4 | exact ⟨by decide, by decide⟩)).mono ?_; rintro e w10 ⟨rfl, hw10⟩; rw [hw10]; clear hw10 w10; simp only [hO, hdo, hdi, hva, hvc])
                | refine build_eff rfl _ rfl (I 5) (I 7) (I va) (I d0) (I 1) (I d2) (.slice none 0 0) rfl (wr.heap.size + 2) s1.out ?_
                | (at_builtin; refine wpList_append_own_at _ rfl _ _ _ rfl (w.heap.size + 2) 43 i2 (.agg #[.int .i64 0, .int .i64 0, .int .i64 0, .int .i64 0, .int .i64 0, .int .i64 0, .slice none 0 0]) 7 72 Tryd.underlying23 HI2.out.1 HI2.out.2.1 HI2.out.2.2.1 HI2.out.2.2.2 rfl q7 (.slice ea j ec) j (flat Em.cells ms) rfl OX.out ⟨wr.heap.size + 2, 0, none⟩ 1 1 [I 5, I 7, I va, I d0, I 1, I d2, .slice none 0 0] rfl rfl (lit_at ((wr.alloc (.cells #[I d0, I 1, I d2] 40)).alloc (.cells #[I 5, I 7, I va, I d0, I 1, I d2, .slice none 0 0] 43)) _ _ _ s1.out) (em_one ⟨⟨5, 7, va, ⟨d0, 1, d2⟩, []⟩, none, 0⟩) q5 q6 s2 ?_; intro v7 w11 hown7 hgrow7 hnil7 hat7; obtain ⟨g7, cap7, rfl, _, _, _⟩ := own_form hown7 q8; have LF : Hid (Ml w w6 (w11.setCell ⟨w.heap.size + 1, 4, none⟩ (.slice (some ⟨g7, 0, none⟩) (j + 1) cap7)) #[I (oo), I (2 + Wv.pk seq 29), I (1 + Wv.pk time 200), .slice (some ⟨g, 0, none⟩) k cc, .slice (some ⟨g7, 0, none⟩) (j + 1) cap7] (.slice (some ⟨g, 0, none⟩) k cc) (.slice (some ⟨g7, 0, none⟩) (j + 1) cap7) cl (ms ++ [⟨⟨5, 7, va, ⟨d0, 1, d2⟩, []⟩, none, 0⟩])) := HL.out.push BX.out DX.out (by rw [hml]; exact hown7) hgrow7 hat7; have k4 : w11.cell? ⟨w.heap.size + 1, 4, none⟩ = some (.slice ea j ec) := (HL.out.store BX.out hgrow7).1; have z4 := (HL.out.store BX.out hgrow7).2; clear hown7 hgrow7 hnil7 hat7))
              go_roundw
              case rel => exact ⟨j + 1, some ⟨g7, 0, none⟩, cap7, _, hlt3, by go_num, LF, by show List.map _ _ = _; rw [List.map_append, HMS.out, HTK.out, List.map_append]; simp [HM.out]⟩
              case measure => simp [intOf]; omega
            ·
              have HM : Hid (Wv.mkE (Wv.mkK n) v = ⟨5, 7, va, ⟨0, 0, 0⟩, []⟩) := by show _ = _; simp [Wv.mkE, hO, hva, hvc]
              have BX : Hid (Below wr.heap.size wr ((wr.alloc (.cells #[I d0, I 1, I d2] 40)).alloc (.cells #[I 5, I 7, I va, I 0, I 0, I 0, .slice none 0 0] 43))) := ((Below.refl _ _).alloc (Nat.le_refl _) _).alloc (by simp) _
              have e4x : ((wr.alloc (.cells #[I d0, I 1, I d2] 40)).alloc (.cells #[I 5, I 7, I va, I 0, I 0, I 0, .slice none 0 0] 43)).cell? ⟨w.heap.size + 1, 4, none⟩ = some (.slice ea j ec) := ((HL.out.mw.alloc _).alloc _).kE.cell 4
              have OX : Hid ((((wr.alloc (.cells #[I d0, I 1, I d2] 40)).alloc (.cells #[I 5, I 7, I va, I 0, I 0, I 0, .slice none 0 0] 43)).alloc (.cells #[I 5, I 7, I va, I 0, I 0, I 0, .slice none 0 0] 43)).ownsRow (w.heap.size + 2) 43 7 (.slice ea j ec) j (flat Em.cells ms)) := ((HOE.out.alloc _).alloc _).alloc _
              have DX : Hid (((wr.alloc (.cells #[I d0, I 1, I d2] 40)).alloc (.cells #[I 5, I 7, I va, I 0, I 0, I 0, .slice none 0 0] 43)).ownsRow wr.heap.size 40 3 (.slice none 0 0) 0 (flat dotCells [])) := ⟨rfl, .inl ⟨rfl, rfl⟩⟩
              have s1 : Hid (wr.heap.size + 2 = ((wr.alloc (.cells #[I d0, I 1, I d2] 40)).alloc (.cells #[I 5, I 7, I va, I 0, I 0, I 0, .slice none 0 0] 43)).heap.size) := by show _ = _; simp
              have s2 : w.heap.size + 2 ≤ (((wr.alloc (.cells #[I d0, I 1, I d2] 40)).alloc (.cells #[I 5, I 7, I va, I 0, I 0, I 0, .slice none 0 0] 43)).alloc (.cells #[I 5, I 7, I va, I 0, I 0, I 0, .slice none 0 0] 43)).heap.size := by simp; omega
              go_wp2_with (first
                | (go_at_call 17; refine (pick_any _ _ _ (by first | exact HV | exact t5 | exact t6 | exact t7) (by first | exact q4 | exact ⟨by decide, by decide⟩)).mono ?_; rintro e w10 ⟨rfl, hw10⟩; rw [hw10]; clear hw10 w10; simp only [hO, hdo, hdi, hva, hvc])
                | refine build_eff rfl _ rfl (I 5) (I 7) (I va) (I 0) (I 0) (I 0) (.slice none 0 0) rfl (wr.heap.size + 2) s1.out ?_
                | (at_builtin; refine wpList_append_own_at _ rfl _ _ _ rfl (w.heap.size + 2) 43 i2 (.agg #[.int .i64 0, .int .i64 0, .int .i64 0, .int .i64 0, .int .i64 0, .int .i64 0, .slice none 0 0]) 7 72 Tryd.underlying23 HI2.out.1 HI2.out.2.1 HI2.out.2.2.1 HI2.out.2.2.2 rfl q7 (.slice ea j ec) j (flat Em.cells ms) rfl OX.out ⟨wr.heap.size + 2, 0, none⟩ 1 1 [I 5, I 7, I va, I 0, I 0, I 0, .slice none 0 0] rfl rfl (lit_at ((wr.alloc (.cells #[I d0, I 1, I d2] 40)).alloc (.cells #[I 5, I 7, I va, I 0, I 0, I 0, .slice none 0 0] 43)) _ _ _ s1.out) (em_one ⟨⟨5, 7, va, ⟨0, 0, 0⟩, []⟩, none, 0⟩) q5 q6 s2 ?_; intro v7 w11 hown7 hgrow7 hnil7 hat7; obtain ⟨g7, cap7, rfl, _, _, _⟩ := own_form hown7 q8; have LF : Hid (Ml w w6 (w11.setCell ⟨w.heap.size + 1, 4, none⟩ (.slice (some ⟨g7, 0, none⟩) (j + 1) cap7)) #[I (oo), I (2 + Wv.pk seq 29), I (1 + Wv.pk time 200), .slice (some ⟨g, 0, none⟩) k cc, .slice (some ⟨g7, 0, none⟩) (j + 1) cap7] (.slice (some ⟨g, 0, none⟩) k cc) (.slice (some ⟨g7, 0, none⟩) (j + 1) cap7) cl (ms ++ [⟨⟨5, 7, va, ⟨0, 0, 0⟩, []⟩, none, 0⟩])) := HL.out.push BX.out DX.out (by rw [hml]; exact hown7) hgrow7 hat7; have k4 : w11.cell? ⟨w.heap.size + 1, 4, none⟩ = some (.slice ea j ec) := (HL.out.store BX.out hgrow7).1; have z4 := (HL.out.store BX.out hgrow7).2; clear hown7 hgrow7 hnil7 hat7))
              go_roundw
              case rel => exact ⟨j + 1, some ⟨g7, 0, none⟩, cap7, _, hlt3, by go_num, LF, by show List.map _ _ = _; rw [List.map_append, HMS.out, HTK.out, List.map_append]; simp [HM.out]⟩
              case measure => simp [intOf]; omega
          ·
            have HM : Hid (Wv.mkE (Wv.mkK n) v = ⟨6, 3, 0, ⟨d0, 1, d2⟩, []⟩) := by show _ = _; simp [Wv.mkE, Wv.mkD, hO, hdo, hdi]
            have BX : Hid (Below wr.heap.size wr ((wr.alloc (.cells #[I d0, I 1, I d2] 40)).alloc (.cells #[I 6, I 3, I 0, I d0, I 1, I d2, .slice none 0 0] 43))) := ((Below.refl _ _).alloc (Nat.le_refl _) _).alloc (by simp) _
            have e4x : ((wr.alloc (.cells #[I d0, I 1, I d2] 40)).alloc (.cells #[I 6, I 3, I 0, I d0, I 1, I d2, .slice none 0 0] 43)).cell? ⟨w.heap.size + 1, 4, none⟩ = some (.slice ea j ec) := ((HL.out.mw.alloc _).alloc _).kE.cell 4
            have OX : Hid ((((wr.alloc (.cells #[I d0, I 1, I d2] 40)).alloc (.cells #[I 6, I 3, I 0, I d0, I 1, I d2, .slice none 0 0] 43)).alloc (.cells #[I 6, I 3, I 0, I d0, I 1, I d2, .slice none 0 0] 43)).ownsRow (w.heap.size + 2) 43 7 (.slice ea j ec) j (flat Em.cells ms)) := ((HOE.out.alloc _).alloc _).alloc _
            have DX : Hid (((wr.alloc (.cells #[I d0, I 1, I d2] 40)).alloc (.cells #[I 6, I 3, I 0, I d0, I 1, I d2, .slice none 0 0] 43)).ownsRow wr.heap.size 40 3 (.slice none 0 0) 0 (flat dotCells [])) := ⟨rfl, .inl ⟨rfl, rfl⟩⟩
            have s1 : Hid (wr.heap.size + 2 = ((wr.alloc (.cells #[I d0, I 1, I d2] 40)).alloc (.cells #[I 6, I 3, I 0, I d0, I 1, I d2, .slice none 0 0] 43)).heap.size) := by show _ = _; simp
            have s2 : w.heap.size + 2 ≤ (((wr.alloc (.cells #[I d0, I 1, I d2] 40)).alloc (.cells #[I 6, I 3, I 0, I d0, I 1, I d2, .slice none 0 0] 43)).alloc (.cells #[I 6, I 3, I 0, I d0, I 1, I d2, .slice none 0 0] 43)).heap.size := by simp; omega
            go_wp2_with (first
              | (go_at_call 17; refine (pick_any _ _ _ (by first | exact HV | exact t5 | exact t6 | exact t7) (by first | exact q4 | exact ⟨by decide, by decide⟩)).mono ?_; rintro e w10 ⟨rfl, hw10⟩; rw [hw10]; clear hw10 w10; simp only [hO, hdo, hdi])
              | refine build_eff rfl _ rfl (I 6) (I 3) (I 0) (I d0) (I 1) (I d2) (.slice none 0 0) rfl (wr.heap.size + 2) s1.out ?_
              | (at_builtin; refine wpList_append_own_at _ rfl _ _ _ rfl (w.heap.size + 2) 43 i2 (.agg #[.int .i64 0, .int .i64 0, .int .i64 0, .int .i64 0, .int .i64 0, .int .i64 0, .slice none 0 0]) 7 72 Tryd.underlying23 HI2.out.1 HI2.out.2.1 HI2.out.2.2.1 HI2.out.2.2.2 rfl q7 (.slice ea j ec) j (flat Em.cells ms) rfl OX.out ⟨wr.heap.size + 2, 0, none⟩ 1 1 [I 6, I 3, I 0, I d0, I 1, I d2, .slice none 0 0] rfl rfl (lit_at ((wr.alloc (.cells #[I d0, I 1, I d2] 40)).alloc (.cells #[I 6, I 3, I 0, I d0, I 1, I d2, .slice none 0 0] 43)) _ _ _ s1.out) (em_one ⟨⟨6, 3, 0, ⟨d0, 1, d2⟩, []⟩, none, 0⟩) q5 q6 s2 ?_; intro v7 w11 hown7 hgrow7 hnil7 hat7; obtain ⟨g7, cap7, rfl, _, _, _⟩ := own_form hown7 q8; have LF : Hid (Ml w w6 (w11.setCell ⟨w.heap.size + 1, 4, none⟩ (.slice (some ⟨g7, 0, none⟩) (j + 1) cap7)) #[I (oo), I (2 + Wv.pk seq 29), I (1 + Wv.pk time 200), .slice (some ⟨g, 0, none⟩) k cc, .slice (some ⟨g7, 0, none⟩) (j + 1) cap7] (.slice (some ⟨g, 0, none⟩) k cc) (.slice (some ⟨g7, 0, none⟩) (j + 1) cap7) cl (ms ++ [⟨⟨6, 3, 0, ⟨d0, 1, d2⟩, []⟩, none, 0⟩])) := HL.out.push BX.out DX.out (by rw [hml]; exact hown7) hgrow7 hat7; have k4 : w11.cell? ⟨w.heap.size + 1, 4, none⟩ = some (.slice ea j ec) := (HL.out.store BX.out hgrow7).1; have z4 := (HL.out.store BX.out hgrow7).2; clear hown7 hgrow7 hnil7 hat7))
            go_roundw
            case rel => exact ⟨j + 1, some ⟨g7, 0, none⟩, cap7, _, hlt3, by go_num, LF, by show List.map _ _ = _; rw [List.map_append, HMS.out, HTK.out, List.map_append]; simp [HM.out]⟩
            case measure => simp [intOf]; omega
        · have hjM : Hid (j = min 5 (1 + raw.length)) := by
            show j = _
            rw [← hM.out]
            omega
          have HT5 : Hid ((n :: raw).take j = (n :: raw).take 5) := by
            show _ = _
            rw [hjM.out]
            by_cases h5 : 5 ≤ 1 + raw.length
            · rw [Nat.min_eq_left h5]
            · rw [Nat.min_eq_right (by omega), List.take_of_length_le (by simp only [List.length_cons]; omega), List.take_of_length_le (by simp only [List.length_cons]; omega)]
          have hle : (((n :: raw).take 5).map (Wv.mkE (Wv.mkK n))).length = j := by
            have := hjM.out
            rw [List.length_map, List.length_take, List.length_cons]; omega
          have hq : (j : Int) < ((1 + raw.length : Nat) : Int) → ¬ (j : Int) < 5 := by
            have := hjM.out
            omega
          rw [HT5.out] at HMS
          generalize ((n :: raw).take 5).map (Wv.mkE (Wv.mkK n)) = effs at *
          clear HT5 RW HRI
          have e0 : wr.cell? ⟨w.heap.size + 1, 0, none⟩ = some (I oo) := HL.out.mw.kE.cell 0
          have e1 : wr.cell? ⟨w.heap.size + 1, 1, none⟩ = some (I (2 + Wv.pk seq 29)) := HL.out.mw.kE.cell 1
          have e2 : wr.cell? ⟨w.heap.size + 1, 2, none⟩ = some (I (1 + Wv.pk time 200)) := HL.out.mw.kE.cell 2
          have e3 : wr.cell? ⟨w.heap.size + 1, 3, none⟩ = some (.slice (some ⟨g, 0, none⟩) k cc) := HL.out.mw.kE.cell 3
          have e4 : wr.cell? ⟨w.heap.size + 1, 4, none⟩ = some (.slice ea j ec) := HL.out.mw.kE.cell 4
          have k0 : wr.cell? ⟨w.heap.size, 0, none⟩ = some (.int .i64 0) := HL.out.mw.kR.cell 0
          have z0 := HL.out.mw.kR.frozen 0
          have k1 : wr.cell? ⟨w.heap.size, 1, none⟩ = some (.int .i64 0) := HL.out.mw.kR.cell 1
          have z1 := HL.out.mw.kR.frozen 1
          have k2 : wr.cell? ⟨w.heap.size, 2, none⟩ = some (.int .i64 0) := HL.out.mw.kR.cell 2
          have z2 := HL.out.mw.kR.frozen 2
          have k3 : wr.cell? ⟨w.heap.size, 3, none⟩ = some (.slice none 0 0) := HL.out.mw.kR.cell 3
          have z3 := HL.out.mw.kR.frozen 3
          have k4 : wr.cell? ⟨w.heap.size, 4, none⟩ = some (.slice none 0 0) := HL.out.mw.kR.cell 4
          have z4 := HL.out.mw.kR.frozen 4
          have hEl : w.heap.size + 1 < wr.heap.size := HL.out.mw.kE.lt
          by_cases hc : (j : Int) < ((1 + raw.length : Nat) : Int)
          all_goals
            (first | (have hc6 := hq hc) | skip
             clear hq
             go_wp2
             have HF : Hid (Blk (put5 wr w.heap.size (I oo) (I (2 + Wv.pk seq 29)) (I (1 + Wv.pk time 200)) (.slice (some ⟨g, 0, none⟩) k cc) (.slice ea j ec)) w.heap.size #[I oo, I (2 + Wv.pk seq 29), I (1 + Wv.pk time 200), .slice (some ⟨g, 0, none⟩) k cc, .slice ea j ec] 25) := put5_blk HL.out.mw.kR _ _ _ _ _
             have HY : Hid (Below w.heap.size w (put5 wr w.heap.size (I oo) (I (2 + Wv.pk seq 29)) (I (1 + Wv.pk time 200)) (.slice (some ⟨g, 0, none⟩) k cc) (.slice ea j ec))) := ((((HL.out.mw.below.setCell (Nat.le_refl _) _).setCell (Nat.le_refl _) _).setCell (Nat.le_refl _) _).setCell (Nat.le_refl _) _).setCell (Nat.le_refl _) _
             have HP : Hid (∀ bb, bb ≠ w.heap.size → (put5 wr w.heap.size (I oo) (I (2 + Wv.pk seq 29)) (I (1 + Wv.pk time 200)) (.slice (some ⟨g, 0, none⟩) k cc) (.slice ea j ec)).heap[bb]? = wr.heap[bb]?) := fun bb hk => put5_heap _ _ _ _ _ _ _ bb hk
             unfold put5 at HF HY HP
             generalize (((((wr.setCell ⟨w.heap.size, 0, none⟩ (I oo)).setCell ⟨w.heap.size, 1, none⟩ (I (2 + Wv.pk seq 29))).setCell ⟨w.heap.size, 2, none⟩ (I (1 + Wv.pk time 200))).setCell ⟨w.heap.size, 3, none⟩ (.slice (some ⟨g, 0, none⟩) k cc)).setCell ⟨w.heap.size, 4, none⟩ (.slice ea j ec)) = wF at *
             have f0 : wF.cell? ⟨w.heap.size, 0, none⟩ = some (I oo) := HF.out.cell 0
             have f1 : wF.cell? ⟨w.heap.size, 1, none⟩ = some (I (2 + Wv.pk seq 29)) := HF.out.cell 1
             have f2 : wF.cell? ⟨w.heap.size, 2, none⟩ = some (I (1 + Wv.pk time 200)) := HF.out.cell 2
             have f3 : wF.cell? ⟨w.heap.size, 3, none⟩ = some (.slice (some ⟨g, 0, none⟩) k cc) := HF.out.cell 3
             have f4 : wF.cell? ⟨w.heap.size, 4, none⟩ = some (.slice ea j ec) := HF.out.cell 4
             have hp2 : ∀ b, b ≠ w.heap.size → wF.heap[b]? = wr.heap[b]? := HP.out
             have HOB : Ob wF (w.heap.size + 2) (.slice (some ⟨g, 0, none⟩) k cc) (.slice ea j ec) cl ms := HL.out.ob.kept (fun b _ h2 => hp2 b (by omega))
             rw [HCLK.out]
             refine bodyPost_ret (v := bV ⟨oo, 2 + Wv.pk seq 29, 1 + Wv.pk time 200, cl, effs⟩ (some ⟨g, 0, none⟩) ea cc ec) (by simp [results, Tryd.results15, go_sem, f0, f1, f2, f3, f4, hcl, hle]) rfl ⟨some ⟨g, 0, none⟩, ea, cc, ec, ms, rfl, ?_, HY.out⟩
             refine Ob.bat (base := w.heap.size + 2) (b := ⟨oo, 2 + Wv.pk seq 29, 1 + Wv.pk time 200, cl, effs⟩) (cc := cc) (ec := ec) ?_ HMS.out.symm
             show Ob wF _ (.slice (some ⟨g, 0, none⟩) cl.length cc) (.slice ea effs.length ec) cl ms
             rw [hcl, hle]
             exact HOB)

end Go.Proofs.YtfmcngncaffloaaDoor
