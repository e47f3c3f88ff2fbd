import Derived.Test.YtfmcngncaffloaaGreatDoorG46MgJ
namespace Go.Proofs.YtfmcngncaffloaaGreatDoor
open Go.RowKit
set_option maxRecDepth 100000

set_option maxHeartbeats 25600000 in
theorem merged_any (v z : Int) (ra rb : List Int) (aa ab : Option Addr) (ca cb : Nat) (w : World) (eb ef : Addr) (hI : ItoaSaid) (hgl : Gl w eb ef) (hpw : Pw w) (hgd : Gd w)
    (hv : -9223372036854775808 ≤ v ∧ v ≤ 9223372036854775807) (hz : -9223372036854775808 ≤ z ∧ z ≤ 9223372036854775807) (hra : At w aa (ra.map I)) (hrb : At w ab (rb.map I)) (hia : ∀ n ∈ ra, -9223372036854775808 ≤ n ∧ n ≤ 9223372036854775807) (hib : ∀ n ∈ rb, -9223372036854775808 ≤ n ∧ n ≤ 9223372036854775807) (hla : ra.length ≤ 9223372036854775807) (hlb : rb.length ≤ 9223372036854775807) :
    Calls Tryz.prog 6 #[I v, I z, .slice aa ra.length ca, .slice ab rb.length cb] w fun e w' => CsOk w e w' := by
  have HN : Hid (Calls Tryz.prog 14 #[I 2] w fun e w' => ∃ s, e = .returned (.tuple #[.pointer (some ⟨s, 0, none⟩), I 0]) ∧ Sx w w' eb ef s (newS 2) (fun _ => False)) := x_new w eb ef 2 hgl hpw (by omega) (by omega)
  have HGD : Hid (Gd w) := hgd
  have HRA : Hid (At w aa (ra.map I)) := hra
  have HRB : Hid (At w ab (rb.map I)) := hrb
  have HIA : Hid (∀ n ∈ ra, -9223372036854775808 ≤ n ∧ n ≤ 9223372036854775807) := hia
  have HIB : Hid (∀ n ∈ rb, -9223372036854775808 ≤ n ∧ n ≤ 9223372036854775807) := hib
  clear hgl hpw hgd hra hrb hia hib
  go_enter Tryz.func6, Tryz.ntmps6
  go_wp2_with fail
  refine HN.out.mono ?_
  rintro e w1 ⟨s, rfl, h1⟩
  have HS1 : Hid (Sx w w1 eb ef s (newS 2) (fun _ => False)) := h1
  have HBW : Hid (Below w.heap.size w w1) := h1.bel
  clear h1 HN
  go_wp2_with fail
  refine (pick_any v 256 w1 hv ⟨by decide, by decide⟩).mono ?_
  rintro e w1' ⟨rfl, hw1⟩
  subst hw1
  go_wp2_with fail
  refine (pick_any z 256 w1' hz ⟨by decide, by decide⟩).mono ?_
  rintro e w1 ⟨rfl, hw1⟩
  subst hw1
  obtain ⟨hx0, hx1⟩ := Wv.pk_lt v 256 (by decide)
  obtain ⟨hy0, hy1⟩ := Wv.pk_lt z 256 (by decide)
  generalize Wv.pk v 256 = x at *
  generalize Wv.pk z 256 = y at *
  have HX : Hid (0 ≤ x ∧ x ≤ 255) := ⟨hx0, by omega⟩
  have HY : Hid (0 ≤ y ∧ y ≤ 255) := ⟨hy0, by omega⟩
  clear hx0 hx1 hy0 hy1 hv hz
  obtain ⟨i1, HI1⟩ : ∃ i, Hid (Tryz.prog.info? 3 = some i ∧ i.zero = some (.int .i64 0) ∧ i.size = 1 ∧ i.bytes = 8) := by obtain ⟨i, h⟩ := info_parts infoIn; exact ⟨i, h⟩
  obtain ⟨i5, HI5⟩ : ∃ i, Hid (Tryz.prog.info? 41 = some i ∧ i.zero = some (.agg #[.int .i64 0, .int .i64 0, .int .i64 0, .int .i64 0, .int .i64 0]) ∧ i.size = 5 ∧ i.bytes = 40) := by obtain ⟨i, h⟩ := info_parts infoAc; exact ⟨i, h⟩
  have R0 : Hid (Rws w1 w1 (.slice none 0 0) [] (.slice none 0 0) []) := ⟨⟨rfl, .inl ⟨rfl, rfl⟩⟩, ⟨rfl, .inl ⟨rfl, rfl⟩⟩, Below.refl _ _⟩
  go_wp2_with fail
  go_loopw [14, 15, 16] (fun tv lv x wr => ∃ k : Nat, k ≤ 2 ∧ k ≤ rb.length ∧ x = I k ∧ Hid (Rws w1 wr tv (mA ((pkL rb).take k)) lv ((pkL rb).take k))) (fun _ _ x _ => 2 - (intOf x).toNat)
  case atStart => exact ⟨0, by omega, by omega, rfl, R0⟩
  case round =>
    obtain ⟨k, hk2, hkl, rfl, HR⟩ := hrel
    clear R0
    by_cases hlt : k < rb.length ∧ k < 2
    · obtain ⟨hlt1, hlt2⟩ := hlt
      have hki : (k : Int) < rb.length := by omega
      have hk3 : (k : Int) < 2 := by omega
      obtain ⟨pb, qb, rfl, hcb⟩ := ints_cell HRB.out (by omega)
      have hBr : Below w.heap.size w wr := HBW.out.trans (HR.out.bel.mono HBW.out.size)
      have e0 : wr.cell? ⟨pb, qb + k, none⟩ = some (I rb[k]) := cell_kept hBr (hcb k hlt1)
      have HIN := HIB.out rb[k] (List.getElem_mem hlt1)
      have HCB : Hid (∀ w', Below w.heap.size w w' → w'.cell? ⟨pb, qb + k, none⟩ = some (I rb[k])) := fun w' hb => cell_kept hb (hcb k hlt1)
      have HBR : Hid (Below w.heap.size w wr) := hBr
      have HM1 : Hid (mA ((pkL rb).take (k + 1)) = mA ((pkL rb).take k) ++ [⟨5, 3, k, Wv.pk rb[k] 256⟩]) := mA_at rb k hlt1 hlt2
      have HM2 : Hid ((pkL rb).take (k + 1) = (pkL rb).take k ++ [Wv.pk rb[k] 256]) := pkL_at rb k hlt1 hlt2
      clear hcb hBr
      generalize rb[k] = bk at *
      go_wp2_with fail
      refine (pick_any bk 256 wr HIN ⟨by decide, by decide⟩).mono ?_
      rintro e wr' ⟨rfl, hwr⟩
      subst hwr
      generalize hpk : Wv.pk bk 256 = pk at *
      have HPK : Hid (Wv.pk bk 256 = pk) := hpk
      clear hpk
      obtain ⟨ml1, ml2⟩ := mA_len rb k (by omega) (by omega)
      have HLN : Hid (k ≤ 2 ∧ (mA ((pkL rb).take k)).length = k ∧ ((pkL rb).take k).length = k) := ⟨hk2, ml1, ml2⟩
      clear ml1 ml2
      generalize mA ((pkL rb).take k) = acs at *
      generalize (pkL rb).take k = nms at *
      have hwz : w1.heap.size ≤ wr'.heap.size := HR.out.bel.size
      have n1 : acs.length + 1 ≤ maxLen := by have := HLN.out; unfold maxLen; omega
      have n2 : (acs.length + 1) * 40 ≤ 140737488355328 := by have := HLN.out; omega
      have n3 : nms.length + 1 ≤ maxLen := by have := HLN.out; unfold maxLen; omega
      have n4 : (nms.length + 1) * 8 ≤ 140737488355328 := by have := HLN.out; omega
      have HRA1 : Hid ((wr'.alloc (.cells #[I 5, I 3, I k, I pk, I 0] 41)).ownsRow w1.heap.size 41 5 u14 acs.length (flat acC acs)) := HR.out.acts.alloc _
      have hone : ∀ u ∈ [I 5, I 3, I (k : Int), I pk, I 0], u.oneCell' = true := by intro u hu; simp at hu; rcases hu with rfl | rfl | rfl | rfl | rfl <;> rfl
      clear e0
      go_wp2_with (first | (at_builtin; refine wpList_append_own_at _ rfl _ _ _ rfl w1.heap.size 41 i5 (.agg #[.int .i64 0, .int .i64 0, .int .i64 0, .int .i64 0, .int .i64 0]) 5 40 Tryz.underlying25 HI5.out.1 HI5.out.2.1 HI5.out.2.2.1 HI5.out.2.2.2 rfl (by decide) u14 acs.length (flat acC acs) rfl HRA1.out ⟨wr'.heap.size, 0, none⟩ 1 1 [I 5, I 3, I k, I pk, I 0] rfl rfl (lit_any wr' _ _) hone n1 n2 (by simp; omega) ?_; intro v7 w7 hown7 hgrow7 hnil7 hat7; have HA7 : Hid (w7.ownsRow w1.heap.size 41 5 v7 (acs.length + 1) (flat acC acs ++ [I 5, I 3, I k, I pk, I 0])) := hown7; have HB7 : Hid (Below w1.heap.size w1 w7) := (HR.out.bel.alloc hwz _).grown hgrow7 (by simp; omega) (fun b e => (HR.out.acts.lt b e).1); have HN7 : Hid (w7.ownsRow w1.heap.size 3 1 u15 nms.length (nms.map I)) := (HR.out.nums.alloc _).kept hgrow7 (own_apart HR.out.nums HR.out.acts (by decide)); have e7 : w7.cell? ⟨pb, qb + k, none⟩ = some (I bk) := HCB.out w7 (HBW.out.trans (HB7.out.mono HBW.out.size)); clear hown7 hgrow7 hnil7 hat7))
      refine (pick_any bk 256 w7 HIN ⟨by decide, by decide⟩).mono ?_
      rintro e w7' ⟨rfl, hw7⟩
      subst hw7
      rw [HPK.out]
      have hwz7 : w1.heap.size ≤ w7'.heap.size := HB7.out.size
      have HNA : Hid ((w7'.alloc (.cells #[I pk] 3)).ownsRow w1.heap.size 3 1 u15 nms.length (nms.map I)) := HN7.out.alloc _
      clear e7 HRA1 hone hwz
      go_wp2_with (first | (at_builtin; refine wpList_append_own_at _ rfl _ _ _ rfl w1.heap.size 3 i1 (.int .i64 0) 1 8 Tryz.underlying34 HI1.out.1 HI1.out.2.1 HI1.out.2.2.1 HI1.out.2.2.2 rfl (by decide) u15 nms.length (nms.map I) rfl HNA.out ⟨w7'.heap.size, 0, none⟩ 1 1 [I pk] rfl rfl (lit_any w7' _ _) (in_one pk) n3 n4 (by simp; omega) ?_; intro v8 w8 hown8 hgrow8 hnil8 hat8; have HN8 : Hid (w8.ownsRow w1.heap.size 3 1 v8 (nms.length + 1) (nms.map I ++ [I pk])) := hown8; have HB8 : Hid (Below w1.heap.size w1 w8) := (HB7.out.alloc hwz7 _).grown hgrow8 (by simp; omega) (fun b e => (HN7.out.lt b e).1); have HA8 : Hid (w8.ownsRow w1.heap.size 41 5 v7 (acs.length + 1) (flat acC acs ++ [I 5, I 3, I k, I pk, I 0])) := (HA7.out.alloc _).kept hgrow8 (own_apart HA7.out HN7.out (by decide)); clear hown8 hgrow8 hnil8 hat8))
      have LR : Hid (Rws w1 w8 v7 (acs ++ [⟨5, 3, k, pk⟩]) v8 (nms ++ [pk])) := ⟨by rw [List.length_append, flat_snocA]; exact HA8.out, by rw [List.length_append, List.map_append]; exact HN8.out, HB8.out⟩
      clear HA7 HB7 HN7 HNA HN8 HB8 HA8
      go_roundw
      case rel => exact ⟨k + 1, by omega, by omega, by go_num, by rw [HM1.out, HM2.out]; exact LR⟩
      case measure => simp [intOf]; omega
    · have HE : Hid (Rws w1 wr u14 (mA (pkL rb)) u15 (pkL rb)) := by
        have hl := pkL_len rb
        have := HR.out
        rw [List.take_of_length_le (by omega)] at this
        exact this
      by_cases hA : k < rb.length
      · obtain rfl : k = 2 := by omega
        have hki : ((2 : Nat) : Int) < rb.length := by omega
        clear HR
        go_wp2_with fail
        have R1 : Hid (Rw3 w1 wr (.slice none 0 0) [] u14 (mA (pkL rb)) u15 (pkL rb)) := ⟨⟨rfl, .inl ⟨rfl, rfl⟩⟩, HE.out.acts, HE.out.nums, HE.out.bel, by rcases hq : u14.ownBlock with _ | g; exact .inl rfl; exact .inr (by simp [Value.ownBlock])⟩
        clear HE
        go_loopw [13, 15, 17] (fun ov lv x wr => ∃ k : Nat, k ≤ 2 ∧ k ≤ ra.length ∧ x = I k ∧ Hid (Rw3 w1 wr ov (mA ((pkL ra).take k)) u14 (mA (pkL rb)) lv (pkL rb ++ (pkL ra).take k))) (fun _ _ x _ => 2 - (intOf x).toNat)
        case atStart => exact ⟨0, by omega, by omega, rfl, by show Rw3 _ _ _ _ _ _ _ _; simpa [mA] using R1.out⟩
        case round =>
          obtain ⟨k, hk2, hkl, rfl, HR⟩ := hrel
          clear R1
          by_cases hlt : k < ra.length ∧ k < 2
          · obtain ⟨hlt1, hlt2⟩ := hlt
            have hki : (k : Int) < ra.length := by omega
            have hk3 : (k : Int) < 2 := by omega
            obtain ⟨pa, qa, rfl, hca⟩ := ints_cell HRA.out (by omega)
            have hBr : Below w.heap.size w wr := HBW.out.trans (HR.out.bel.mono HBW.out.size)
            have e0 : wr.cell? ⟨pa, qa + k, none⟩ = some (I ra[k]) := cell_kept hBr (hca k hlt1)
            have HIN := HIA.out ra[k] (List.getElem_mem hlt1)
            have HCA : Hid (∀ w', Below w.heap.size w w' → w'.cell? ⟨pa, qa + k, none⟩ = some (I ra[k])) := fun w' hb => cell_kept hb (hca k hlt1)
            have HM1 : Hid (mA ((pkL ra).take (k + 1)) = mA ((pkL ra).take k) ++ [⟨5, 3, k, Wv.pk ra[k] 256⟩]) := mA_at ra k hlt1 hlt2
            have HM2 : Hid ((pkL ra).take (k + 1) = (pkL ra).take k ++ [Wv.pk ra[k] 256]) := pkL_at ra k hlt1 hlt2
            clear hca hBr
            generalize ra[k] = ak at *
            go_wp2_with fail
            refine (pick_any ak 256 wr HIN ⟨by decide, by decide⟩).mono ?_
            rintro e wr' ⟨rfl, hwr⟩
            subst hwr
            generalize hpk : Wv.pk ak 256 = pk at *
            have HPK : Hid (Wv.pk ak 256 = pk) := hpk
            clear hpk
            obtain ⟨ml1, ml2⟩ := mA_len ra k (by omega) (by omega)
            have HLN : Hid (k ≤ 2 ∧ (mA ((pkL ra).take k)).length = k ∧ (pkL rb ++ (pkL ra).take k).length ≤ 4) := ⟨hk2, ml1, by rw [List.length_append, ml2, pkL_len]; omega⟩
            clear ml1 ml2
            have HM3 : Hid (pkL rb ++ (pkL ra).take (k + 1) = (pkL rb ++ (pkL ra).take k) ++ [pk]) := by show _ = _; rw [HM2.out, List.append_assoc]
            generalize mA ((pkL ra).take k) = acs at *
            generalize pkL rb ++ (pkL ra).take k = nms at *
            have hwz : w1.heap.size ≤ wr'.heap.size := HR.out.bel.size
            have n1 : acs.length + 1 ≤ maxLen := by have := HLN.out; unfold maxLen; omega
            have n2 : (acs.length + 1) * 40 ≤ 140737488355328 := by have := HLN.out; omega
            have n3 : nms.length + 1 ≤ maxLen := by have := HLN.out; unfold maxLen; omega
            have n4 : (nms.length + 1) * 8 ≤ 140737488355328 := by have := HLN.out; omega
            have HRA1 : Hid ((wr'.alloc (.cells #[I 5, I 3, I k, I pk, I 0] 41)).ownsRow w1.heap.size 41 5 u13 acs.length (flat acC acs)) := HR.out.one.alloc _
            have hone : ∀ u ∈ [I 5, I 3, I (k : Int), I pk, I 0], u.oneCell' = true := by intro u hu; simp at hu; rcases hu with rfl | rfl | rfl | rfl | rfl <;> rfl
            clear e0
            go_wp2_with (first | (at_builtin; refine wpList_append_own_at _ rfl _ _ _ rfl w1.heap.size 41 i5 (.agg #[.int .i64 0, .int .i64 0, .int .i64 0, .int .i64 0, .int .i64 0]) 5 40 Tryz.underlying25 HI5.out.1 HI5.out.2.1 HI5.out.2.2.1 HI5.out.2.2.2 rfl (by decide) u13 acs.length (flat acC acs) rfl HRA1.out ⟨wr'.heap.size, 0, none⟩ 1 1 [I 5, I 3, I k, I pk, I 0] rfl rfl (lit_any wr' _ _) hone n1 n2 (by simp; omega) ?_; intro v7 w7 hown7 hgrow7 hnil7 hat7; have HA7 : Hid (w7.ownsRow w1.heap.size 41 5 v7 (acs.length + 1) (flat acC acs ++ [I 5, I 3, I k, I pk, I 0])) := hown7; have HB7 : Hid (Below w1.heap.size w1 w7) := (HR.out.bel.alloc hwz _).grown hgrow7 (by simp; omega) (fun b e => (HR.out.one.lt b e).1); have HN7 : Hid (w7.ownsRow w1.heap.size 3 1 u15 nms.length (nms.map I)) := (HR.out.nums.alloc _).kept hgrow7 (own_apart HR.out.nums HR.out.one (by decide)); have HT7 : Hid (w7.ownsRow w1.heap.size 41 5 u14 (mA (pkL rb)).length (flat acC (mA (pkL rb)))) := (HR.out.two.alloc _).kept hgrow7 HR.out.apart; have HP7 : Hid (u14.ownBlock = none ∨ u14.ownBlock ≠ v7.ownBlock) := apart_new HR.out.two HR.out.apart hat7; have e7 : w7.cell? ⟨pa, qa + k, none⟩ = some (I ak) := HCA.out w7 (HBW.out.trans (HB7.out.mono HBW.out.size)); clear hown7 hgrow7 hnil7 hat7))
            refine (pick_any ak 256 w7 HIN ⟨by decide, by decide⟩).mono ?_
            rintro e w7' ⟨rfl, hw7⟩
            subst hw7
            rw [HPK.out]
            have hwz7 : w1.heap.size ≤ w7'.heap.size := HB7.out.size
            have HNA : Hid ((w7'.alloc (.cells #[I pk] 3)).ownsRow w1.heap.size 3 1 u15 nms.length (nms.map I)) := HN7.out.alloc _
            clear e7 HRA1 hone hwz
            go_wp2_with (first | (at_builtin; refine wpList_append_own_at _ rfl _ _ _ rfl w1.heap.size 3 i1 (.int .i64 0) 1 8 Tryz.underlying34 HI1.out.1 HI1.out.2.1 HI1.out.2.2.1 HI1.out.2.2.2 rfl (by decide) u15 nms.length (nms.map I) rfl HNA.out ⟨w7'.heap.size, 0, none⟩ 1 1 [I pk] rfl rfl (lit_any w7' _ _) (in_one pk) n3 n4 (by simp; omega) ?_; intro v8 w8 hown8 hgrow8 hnil8 hat8; have HN8 : Hid (w8.ownsRow w1.heap.size 3 1 v8 (nms.length + 1) (nms.map I ++ [I pk])) := hown8; have HB8 : Hid (Below w1.heap.size w1 w8) := (HB7.out.alloc hwz7 _).grown hgrow8 (by simp; omega) (fun b e => (HN7.out.lt b e).1); have HA8 : Hid (w8.ownsRow w1.heap.size 41 5 v7 (acs.length + 1) (flat acC acs ++ [I 5, I 3, I k, I pk, I 0])) := (HA7.out.alloc _).kept hgrow8 (own_apart HA7.out HN7.out (by decide)); have HT8 : Hid (w8.ownsRow w1.heap.size 41 5 u14 (mA (pkL rb)).length (flat acC (mA (pkL rb)))) := (HT7.out.alloc _).kept hgrow8 (own_apart HT7.out HN7.out (by decide)); clear hown8 hgrow8 hnil8 hat8))
            have LR : Hid (Rw3 w1 w8 v7 (acs ++ [⟨5, 3, k, pk⟩]) u14 (mA (pkL rb)) v8 (nms ++ [pk])) := ⟨by rw [List.length_append, flat_snocA]; exact HA8.out, HT8.out, by rw [List.length_append, List.map_append]; exact HN8.out, HB8.out, HP7.out⟩
            clear HA7 HB7 HN7 HNA HN8 HB8 HA8 HT7 HT8 HP7
            go_roundw
            case rel => exact ⟨k + 1, by omega, by omega, by go_num, by rw [HM1.out, HM3.out]; exact LR⟩
            case measure => simp [intOf]; omega
          · have HE3 : Hid (Rw3 w1 wr u13 (mA (pkL ra)) u14 (mA (pkL rb)) u15 (pkL rb ++ pkL ra)) := by
              have hl := pkL_len ra
              have := HR.out
              rw [List.take_of_length_le (by omega)] at this
              exact this
            have hwz : w1.heap.size ≤ wr.heap.size := HE3.out.bel.size
            have HLN : Hid ((mA (pkL ra)).length ≤ 2 ∧ (mA (pkL rb)).length ≤ 2) := ⟨lenA, lenA⟩
            have n1 : (mA (pkL ra)).length + 3 ≤ maxLen := by have := HLN.out; unfold maxLen; omega
            have n2 : ((mA (pkL ra)).length + 3) * 40 ≤ 140737488355328 := by have := HLN.out; omega
            have n3 : (mA (pkL rb)).length + 2 ≤ maxLen := by have := HLN.out; unfold maxLen; omega
            have n4 : ((mA (pkL rb)).length + 2) * 40 ≤ 140737488355328 := by have := HLN.out; omega
            have HXX := HX.out
            have HYY := HY.out
            have hone3 : ∀ u ∈ [I 4, I 2, I x, I 0, I 0, I 1, I 0, I x, I 0, I 0, I 2, I 1, I x, I 0, I 0], u.oneCell' = true := List.all_eq_true.1 (show ([I 4, I 2, I x, I 0, I 0, I 1, I 0, I x, I 0, I 0, I 2, I 1, I x, I 0, I 0].all (fun u => u.oneCell')) = true from rfl)
            have hone2 : ∀ u ∈ [I 4, I 2, I y, I 0, I 0, I 1, I 0, I (-y), I 0, I 0], u.oneCell' = true := List.all_eq_true.1 (show ([I 4, I 2, I y, I 0, I 0, I 1, I 0, I (-y), I 0, I 0].all (fun u => u.oneCell')) = true from rfl)
            by_cases hA2 : k < ra.length
            · obtain rfl : k = 2 := by omega
              have hki2 : ((2 : Nat) : Int) < ra.length := by omega
              clear HR
              go_wp2_with (first | (at_builtin; refine wpList_append_own_at _ rfl _ _ _ rfl w1.heap.size 41 i5 (.agg #[.int .i64 0, .int .i64 0, .int .i64 0, .int .i64 0, .int .i64 0]) 5 40 Tryz.underlying25 HI5.out.1 HI5.out.2.1 HI5.out.2.2.1 HI5.out.2.2.2 rfl (by decide) u13 (mA (pkL ra)).length (flat acC (mA (pkL ra))) rfl (HE3.out.one.alloc _) ⟨wr.heap.size, 0, none⟩ 3 3 [I 4, I 2, I x, I 0, I 0, I 1, I 0, I x, I 0, I 0, I 2, I 1, I x, I 0, I 0] rfl rfl (lit_any wr _ _) hone3 n1 n2 (by simp; omega) ?_; intro v7 w7 hown7 hgrow7 hnil7 hat7; have HA7 : Hid (w7.ownsRow w1.heap.size 41 5 v7 ((mA (pkL ra)).length + 3) (flat acC (mA (pkL ra)) ++ [I 4, I 2, I x, I 0, I 0, I 1, I 0, I x, I 0, I 0, I 2, I 1, I x, I 0, I 0])) := hown7; have HB7 : Hid (Below w1.heap.size w1 w7) := (HE3.out.bel.alloc hwz _).grown hgrow7 (by simp; omega) (fun b e => (HE3.out.one.lt b e).1); have HN7 : Hid (w7.ownsRow w1.heap.size 3 1 u15 (pkL rb ++ pkL ra).length ((pkL rb ++ pkL ra).map I)) := (HE3.out.nums.alloc _).kept hgrow7 (own_apart HE3.out.nums HE3.out.one (by decide)); have HT7 : Hid (w7.ownsRow w1.heap.size 41 5 u14 (mA (pkL rb)).length (flat acC (mA (pkL rb)))) := (HE3.out.two.alloc _).kept hgrow7 HE3.out.apart; have HP7 : Hid (u14.ownBlock = none ∨ u14.ownBlock ≠ v7.ownBlock) := apart_new HE3.out.two HE3.out.apart hat7; have hwz7 : w1.heap.size ≤ w7.heap.size := HB7.out.size; clear hown7 hgrow7 hnil7 hat7) | (at_builtin; refine wpList_append_own_at _ rfl _ _ _ rfl w1.heap.size 41 i5 (.agg #[.int .i64 0, .int .i64 0, .int .i64 0, .int .i64 0, .int .i64 0]) 5 40 Tryz.underlying25 HI5.out.1 HI5.out.2.1 HI5.out.2.2.1 HI5.out.2.2.2 rfl (by decide) u14 (mA (pkL rb)).length (flat acC (mA (pkL rb))) rfl (HT7.out.alloc _) ⟨w7.heap.size, 0, none⟩ 2 2 [I 4, I 2, I y, I 0, I 0, I 1, I 0, I (-y), I 0, I 0] rfl rfl (lit_any w7 _ _) hone2 n3 n4 (by simp; omega) ?_; intro v8 w8 hown8 hgrow8 hnil8 hat8; have HT8 : Hid (w8.ownsRow w1.heap.size 41 5 v8 ((mA (pkL rb)).length + 2) (flat acC (mA (pkL rb)) ++ [I 4, I 2, I y, I 0, I 0, I 1, I 0, I (-y), I 0, I 0])) := hown8; have HB8 : Hid (Below w1.heap.size w1 w8) := (HB7.out.alloc hwz7 _).grown hgrow8 (by simp; omega) (fun b e => (HT7.out.lt b e).1); have HN8 : Hid (w8.ownsRow w1.heap.size 3 1 u15 (pkL rb ++ pkL ra).length ((pkL rb ++ pkL ra).map I)) := (HN7.out.alloc _).kept hgrow8 (own_apart HN7.out HT7.out (by decide)); have HA8 : Hid (w8.ownsRow w1.heap.size 41 5 v7 ((mA (pkL ra)).length + 3) (flat acC (mA (pkL ra)) ++ [I 4, I 2, I x, I 0, I 0, I 1, I 0, I x, I 0, I 0, I 2, I 1, I x, I 0, I 0])) := (HA7.out.alloc _).kept hgrow8 (apart_sym HA7.out (by omega) HP7.out); have HZ8 : Hid (∃ ga ca gb cb la lc ln, v7 = .slice (some ⟨ga, 0, none⟩) ((mA (pkL ra)).length + 3) ca ∧ v8 = .slice (some ⟨gb, 0, none⟩) ((mA (pkL rb)).length + 2) cb ∧ u15 = .slice la ln lc ∧ (pkL rb ++ pkL ra).length = ln ∧ Rw8 w1 w8 (pkL ra) (pkL rb) x y ga ca gb cb la (pkL rb ++ pkL ra)) := rw8 HA8.out HT8.out HN8.out HB8.out; clear hown8 hgrow8 hnil8 hat8))
              obtain ⟨ga, ca, gb, cb, la, lc, ln, rfl, rfl, rfl, hLE, hRW⟩ := HZ8.out
              have HLE : Hid ((pkL rb ++ pkL ra).length = ln) := hLE
              have HRW : Hid (Rw8 w1 w8 (pkL ra) (pkL rb) x y ga ca gb cb la (pkL rb ++ pkL ra)) := hRW
              have HLL : Hid ((pkL rb ++ pkL ra).length ≤ 1048576) := by show _ ≤ _; rw [List.length_append, pkL_len, pkL_len]; omega
              have HS8 : Hid (Sx w w8 eb ef s (newS 2) (Pn w1.heap.size w8.heap.size)) := HS1.out.fresh hRW.bel
              clear HZ8 hRW hLE HA8 HB8 HN8 HT8 HA7 HB7 HN7 HT7 HP7 hwz7 HE3 hwz HLN n1 n2 n3 n4 hone3 hone2 HS1 HBW
              go_wp2_with fail
              refine (k1 hI HS8.out (pkL_sml ra) HX.out.1 HX.out.2 ca HRW.out.one HRW.out.pa rfl).mono ?_
              rintro e w9 ⟨rfl, h9⟩
              have HS9 : Hid (Sy w w8 eb ef s (M1 (pkL ra) x) (Pn w1.heap.size w8.heap.size) w9) := h9
              clear h9 HS8
              go_wp2_with fail
              refine (k2 hI HS9.out.1 (pkL_sml rb) HY.out.1 HY.out.2 cb (HRW.out.same HS9.out.2).2.1 HRW.out.pb rfl).mono ?_
              rintro e w10 ⟨rfl, h10⟩
              have HS10 : Hid (Sy w w8 eb ef s (M2 (pkL ra) (pkL rb) x y) (Pn w1.heap.size w8.heap.size) w10) := HS9.out.then h10
              clear h10 HS9
              go_wp2_with fail
              refine (k3 hI HGD.out HS10.out.1 (pkL_sml ra) (pkL_sml rb) HX.out.1 HX.out.2 HY.out.1 HY.out.2).mono ?_
              rintro e w11 ⟨rfl, V, hV, L0, L1, z0, z1, hW, h11⟩
              have HV : Hid (Vok V x y (pkL rb ++ pkL ra)) := hV
              have HW3 : Hid (Whl (N3 V L0 L1 z0 z1)) := hW
              have HS11 : Hid (Sy w w8 eb ef s (N3 V L0 L1 z0 z1) (Pn w1.heap.size w8.heap.size) w11) := HS10.out.then h11
              clear hV hW h11 HS10
              go_wp2_with fail
              refine (k3q HS11.out.1 HW3.out HV.out).mono ?_
              rintro e w12 ⟨rfl, h12⟩
              have HS12 : Hid (Sy w w8 eb ef s (N3 V L0 L1 z0 z1) (Pn w1.heap.size w8.heap.size) w12) := HS11.out.then h12
              clear h12 HS11
              go_wp2_with fail
              refine (k3c HS12.out.1 HW3.out HV.out).mono ?_
              rintro e w13 ⟨rfl, h13⟩
              have HS13 : Hid (Sy w w8 eb ef s (N3 V L0 L1 z0 z1) (Pn w1.heap.size w8.heap.size) w13) := HS12.out.then h13
              clear h13 HS12
              go_wp2_with fail
              refine (k3l HS13.out.1 HW3.out HV.out (HRW.out.same HS13.out.2).2.2 HLL.out HLE.out).mono ?_
              rintro e w14 ⟨rfl, h14⟩
              have HS14 : Hid (Sx w w14 eb ef s (N3 V L0 L1 z0 z1) (Pn w1.heap.size w8.heap.size)) := h14.1
              clear h14 HS13 HRW HLL HLE
              go_wp2_with fail
              refine (k4 hI HS14.out HW3.out HV.out).mono ?_
              rintro e w15 ⟨rfl, L2, z2, hW, h15⟩
              have HW4 : Hid (Whl (N4 V L2 L1 z2 z1)) := hW
              have HS15 : Hid (Sx w w15 eb ef s (N4 V L2 L1 z2 z1) (fun _ => False)) := h15
              clear h15 hW HS14 HW3
              go_wp2_with fail
              refine (k5 hI HS15.out HW4.out HV.out).mono ?_
              rintro e w16 ⟨rfl, L3, z3, hW, h16⟩
              have HW5 : Hid (Whl (N5 V L2 L3 z2 z3)) := hW
              have HS16 : Hid (Sx w w16 eb ef s (N5 V L2 L3 z2 z3) (fun _ => False)) := h16
              clear h16 hW HS15 HW4
              go_wp2_with fail
              refine (k6 hI HGD.out HS16.out HW5.out HV.out).mono ?_
              rintro e w17 ⟨rfl, L4, L5, hW, h17⟩
              have HW6 : Hid (Whl (N6 V L4 L5 z2 z3)) := hW
              have HS17 : Hid (Sx w w17 eb ef s (N6 V L4 L5 z2 z3) (fun _ => False)) := h17
              clear h17 hW HS16 HW5
              go_wp2_with fail
              refine (k6s HS17.out HW6.out HV.out).mono ?_
              rintro e w18 ⟨rfl, h18⟩
              have HS18 : Hid (Sx w w18 eb ef s (N6 V L4 L5 z2 z3) (fun _ => False)) := h18.1
              clear h18 HS17
              go_wp2_with fail
              refine (k6q HS18.out HW6.out HV.out).mono ?_
              rintro e w19 ⟨rfl, h19⟩
              have HS19 : Hid (Sx w w19 eb ef s (N6 V L4 L5 z2 z3) (fun _ => False)) := h19.1
              clear h19 HS18
              go_wp2_with fail
              refine (k7 hI HS19.out HW6.out HV.out).mono ?_
              rintro e w20 ⟨rfl, L6, z4, hW, h20⟩
              have HW7 : Hid (Whl (N7 V L4 L6 z2 z4)) := hW
              have HS20 : Hid (Sx w w20 eb ef s (N7 V L4 L6 z2 z4) (fun _ => False)) := h20
              clear h20 hW HS19 HW6
              go_wp2_with fail
              refine (k8 hI HGD.out HS20.out HW7.out).mono ?_
              rintro e w21 ⟨rfl, L7, hW, h21⟩
              have HW8 : Hid (Whl (N8 V L7 L6 z2 z4)) := hW
              have HS21 : Hid (Sx w w21 eb ef s (N8 V L7 L6 z2 z4) (fun _ => False)) := h21
              clear h21 hW HS20 HW7
              go_wp2_with fail
              refine (k8s HS21.out HW8.out).mono ?_
              rintro e w22 ⟨rfl, h22⟩
              have HB22 : Hid (Below w.heap.size w w22) := h22.1.bel
              clear h22 HS21 HW8
              go_wp2
              go_ret
              exact ⟨rfl, HB22.out⟩
            · have hki2 : ¬ (k : Int) < ra.length := by omega
              clear HR
              go_wp2_with (first | (at_builtin; refine wpList_append_own_at _ rfl _ _ _ rfl w1.heap.size 41 i5 (.agg #[.int .i64 0, .int .i64 0, .int .i64 0, .int .i64 0, .int .i64 0]) 5 40 Tryz.underlying25 HI5.out.1 HI5.out.2.1 HI5.out.2.2.1 HI5.out.2.2.2 rfl (by decide) u13 (mA (pkL ra)).length (flat acC (mA (pkL ra))) rfl (HE3.out.one.alloc _) ⟨wr.heap.size, 0, none⟩ 3 3 [I 4, I 2, I x, I 0, I 0, I 1, I 0, I x, I 0, I 0, I 2, I 1, I x, I 0, I 0] rfl rfl (lit_any wr _ _) hone3 n1 n2 (by simp; omega) ?_; intro v7 w7 hown7 hgrow7 hnil7 hat7; have HA7 : Hid (w7.ownsRow w1.heap.size 41 5 v7 ((mA (pkL ra)).length + 3) (flat acC (mA (pkL ra)) ++ [I 4, I 2, I x, I 0, I 0, I 1, I 0, I x, I 0, I 0, I 2, I 1, I x, I 0, I 0])) := hown7; have HB7 : Hid (Below w1.heap.size w1 w7) := (HE3.out.bel.alloc hwz _).grown hgrow7 (by simp; omega) (fun b e => (HE3.out.one.lt b e).1); have HN7 : Hid (w7.ownsRow w1.heap.size 3 1 u15 (pkL rb ++ pkL ra).length ((pkL rb ++ pkL ra).map I)) := (HE3.out.nums.alloc _).kept hgrow7 (own_apart HE3.out.nums HE3.out.one (by decide)); have HT7 : Hid (w7.ownsRow w1.heap.size 41 5 u14 (mA (pkL rb)).length (flat acC (mA (pkL rb)))) := (HE3.out.two.alloc _).kept hgrow7 HE3.out.apart; have HP7 : Hid (u14.ownBlock = none ∨ u14.ownBlock ≠ v7.ownBlock) := apart_new HE3.out.two HE3.out.apart hat7; have hwz7 : w1.heap.size ≤ w7.heap.size := HB7.out.size; clear hown7 hgrow7 hnil7 hat7) | (at_builtin; refine wpList_append_own_at _ rfl _ _ _ rfl w1.heap.size 41 i5 (.agg #[.int .i64 0, .int .i64 0, .int .i64 0, .int .i64 0, .int .i64 0]) 5 40 Tryz.underlying25 HI5.out.1 HI5.out.2.1 HI5.out.2.2.1 HI5.out.2.2.2 rfl (by decide) u14 (mA (pkL rb)).length (flat acC (mA (pkL rb))) rfl (HT7.out.alloc _) ⟨w7.heap.size, 0, none⟩ 2 2 [I 4, I 2, I y, I 0, I 0, I 1, I 0, I (-y), I 0, I 0] rfl rfl (lit_any w7 _ _) hone2 n3 n4 (by simp; omega) ?_; intro v8 w8 hown8 hgrow8 hnil8 hat8; have HT8 : Hid (w8.ownsRow w1.heap.size 41 5 v8 ((mA (pkL rb)).length + 2) (flat acC (mA (pkL rb)) ++ [I 4, I 2, I y, I 0, I 0, I 1, I 0, I (-y), I 0, I 0])) := hown8; have HB8 : Hid (Below w1.heap.size w1 w8) := (HB7.out.alloc hwz7 _).grown hgrow8 (by simp; omega) (fun b e => (HT7.out.lt b e).1); have HN8 : Hid (w8.ownsRow w1.heap.size 3 1 u15 (pkL rb ++ pkL ra).length ((pkL rb ++ pkL ra).map I)) := (HN7.out.alloc _).kept hgrow8 (own_apart HN7.out HT7.out (by decide)); have HA8 : Hid (w8.ownsRow w1.heap.size 41 5 v7 ((mA (pkL ra)).length + 3) (flat acC (mA (pkL ra)) ++ [I 4, I 2, I x, I 0, I 0, I 1, I 0, I x, I 0, I 0, I 2, I 1, I x, I 0, I 0])) := (HA7.out.alloc _).kept hgrow8 (apart_sym HA7.out (by omega) HP7.out); have HZ8 : Hid (∃ ga ca gb cb la lc ln, v7 = .slice (some ⟨ga, 0, none⟩) ((mA (pkL ra)).length + 3) ca ∧ v8 = .slice (some ⟨gb, 0, none⟩) ((mA (pkL rb)).length + 2) cb ∧ u15 = .slice la ln lc ∧ (pkL rb ++ pkL ra).length = ln ∧ Rw8 w1 w8 (pkL ra) (pkL rb) x y ga ca gb cb la (pkL rb ++ pkL ra)) := rw8 HA8.out HT8.out HN8.out HB8.out; clear hown8 hgrow8 hnil8 hat8))
              obtain ⟨ga, ca, gb, cb, la, lc, ln, rfl, rfl, rfl, hLE, hRW⟩ := HZ8.out
              have HLE : Hid ((pkL rb ++ pkL ra).length = ln) := hLE
              have HRW : Hid (Rw8 w1 w8 (pkL ra) (pkL rb) x y ga ca gb cb la (pkL rb ++ pkL ra)) := hRW
              have HLL : Hid ((pkL rb ++ pkL ra).length ≤ 1048576) := by show _ ≤ _; rw [List.length_append, pkL_len, pkL_len]; omega
              have HS8 : Hid (Sx w w8 eb ef s (newS 2) (Pn w1.heap.size w8.heap.size)) := HS1.out.fresh hRW.bel
              clear HZ8 hRW hLE HA8 HB8 HN8 HT8 HA7 HB7 HN7 HT7 HP7 hwz7 HE3 hwz HLN n1 n2 n3 n4 hone3 hone2 HS1 HBW
              go_wp2_with fail
              refine (k1 hI HS8.out (pkL_sml ra) HX.out.1 HX.out.2 ca HRW.out.one HRW.out.pa rfl).mono ?_
              rintro e w9 ⟨rfl, h9⟩
              have HS9 : Hid (Sy w w8 eb ef s (M1 (pkL ra) x) (Pn w1.heap.size w8.heap.size) w9) := h9
              clear h9 HS8
              go_wp2_with fail
              refine (k2 hI HS9.out.1 (pkL_sml rb) HY.out.1 HY.out.2 cb (HRW.out.same HS9.out.2).2.1 HRW.out.pb rfl).mono ?_
              rintro e w10 ⟨rfl, h10⟩
              have HS10 : Hid (Sy w w8 eb ef s (M2 (pkL ra) (pkL rb) x y) (Pn w1.heap.size w8.heap.size) w10) := HS9.out.then h10
              clear h10 HS9
              go_wp2_with fail
              refine (k3 hI HGD.out HS10.out.1 (pkL_sml ra) (pkL_sml rb) HX.out.1 HX.out.2 HY.out.1 HY.out.2).mono ?_
              rintro e w11 ⟨rfl, V, hV, L0, L1, z0, z1, hW, h11⟩
              have HV : Hid (Vok V x y (pkL rb ++ pkL ra)) := hV
              have HW3 : Hid (Whl (N3 V L0 L1 z0 z1)) := hW
              have HS11 : Hid (Sy w w8 eb ef s (N3 V L0 L1 z0 z1) (Pn w1.heap.size w8.heap.size) w11) := HS10.out.then h11
              clear hV hW h11 HS10
              go_wp2_with fail
              refine (k3q HS11.out.1 HW3.out HV.out).mono ?_
              rintro e w12 ⟨rfl, h12⟩
              have HS12 : Hid (Sy w w8 eb ef s (N3 V L0 L1 z0 z1) (Pn w1.heap.size w8.heap.size) w12) := HS11.out.then h12
              clear h12 HS11
              go_wp2_with fail
              refine (k3c HS12.out.1 HW3.out HV.out).mono ?_
              rintro e w13 ⟨rfl, h13⟩
              have HS13 : Hid (Sy w w8 eb ef s (N3 V L0 L1 z0 z1) (Pn w1.heap.size w8.heap.size) w13) := HS12.out.then h13
              clear h13 HS12
              go_wp2_with fail
              refine (k3l HS13.out.1 HW3.out HV.out (HRW.out.same HS13.out.2).2.2 HLL.out HLE.out).mono ?_
              rintro e w14 ⟨rfl, h14⟩
              have HS14 : Hid (Sx w w14 eb ef s (N3 V L0 L1 z0 z1) (Pn w1.heap.size w8.heap.size)) := h14.1
              clear h14 HS13 HRW HLL HLE
              go_wp2_with fail
              refine (k4 hI HS14.out HW3.out HV.out).mono ?_
              rintro e w15 ⟨rfl, L2, z2, hW, h15⟩
              have HW4 : Hid (Whl (N4 V L2 L1 z2 z1)) := hW
              have HS15 : Hid (Sx w w15 eb ef s (N4 V L2 L1 z2 z1) (fun _ => False)) := h15
              clear h15 hW HS14 HW3
              go_wp2_with fail
              refine (k5 hI HS15.out HW4.out HV.out).mono ?_
              rintro e w16 ⟨rfl, L3, z3, hW, h16⟩
              have HW5 : Hid (Whl (N5 V L2 L3 z2 z3)) := hW
              have HS16 : Hid (Sx w w16 eb ef s (N5 V L2 L3 z2 z3) (fun _ => False)) := h16
              clear h16 hW HS15 HW4
              go_wp2_with fail
              refine (k6 hI HGD.out HS16.out HW5.out HV.out).mono ?_
              rintro e w17 ⟨rfl, L4, L5, hW, h17⟩
              have HW6 : Hid (Whl (N6 V L4 L5 z2 z3)) := hW
              have HS17 : Hid (Sx w w17 eb ef s (N6 V L4 L5 z2 z3) (fun _ => False)) := h17
              clear h17 hW HS16 HW5
              go_wp2_with fail
              refine (k6s HS17.out HW6.out HV.out).mono ?_
              rintro e w18 ⟨rfl, h18⟩
              have HS18 : Hid (Sx w w18 eb ef s (N6 V L4 L5 z2 z3) (fun _ => False)) := h18.1
              clear h18 HS17
              go_wp2_with fail
              refine (k6q HS18.out HW6.out HV.out).mono ?_
              rintro e w19 ⟨rfl, h19⟩
              have HS19 : Hid (Sx w w19 eb ef s (N6 V L4 L5 z2 z3) (fun _ => False)) := h19.1
              clear h19 HS18
              go_wp2_with fail
              refine (k7 hI HS19.out HW6.out HV.out).mono ?_
              rintro e w20 ⟨rfl, L6, z4, hW, h20⟩
              have HW7 : Hid (Whl (N7 V L4 L6 z2 z4)) := hW
              have HS20 : Hid (Sx w w20 eb ef s (N7 V L4 L6 z2 z4) (fun _ => False)) := h20
              clear h20 hW HS19 HW6
              go_wp2_with fail
              refine (k8 hI HGD.out HS20.out HW7.out).mono ?_
              rintro e w21 ⟨rfl, L7, hW, h21⟩
              have HW8 : Hid (Whl (N8 V L7 L6 z2 z4)) := hW
              have HS21 : Hid (Sx w w21 eb ef s (N8 V L7 L6 z2 z4) (fun _ => False)) := h21
              clear h21 hW HS20 HW7
              go_wp2_with fail
              refine (k8s HS21.out HW8.out).mono ?_
              rintro e w22 ⟨rfl, h22⟩
              have HB22 : Hid (Below w.heap.size w w22) := h22.1.bel
              clear h22 HS21 HW8
              go_wp2
              go_ret
              exact ⟨rfl, HB22.out⟩
      · have hki : ¬ (k : Int) < rb.length := by omega
        clear HR
        go_wp2_with fail
        have R1 : Hid (Rw3 w1 wr (.slice none 0 0) [] u14 (mA (pkL rb)) u15 (pkL rb)) := ⟨⟨rfl, .inl ⟨rfl, rfl⟩⟩, HE.out.acts, HE.out.nums, HE.out.bel, by rcases hq : u14.ownBlock with _ | g; exact .inl rfl; exact .inr (by simp [Value.ownBlock])⟩
        clear HE
        go_loopw [13, 15, 17] (fun ov lv x wr => ∃ k : Nat, k ≤ 2 ∧ k ≤ ra.length ∧ x = I k ∧ Hid (Rw3 w1 wr ov (mA ((pkL ra).take k)) u14 (mA (pkL rb)) lv (pkL rb ++ (pkL ra).take k))) (fun _ _ x _ => 2 - (intOf x).toNat)
        case atStart => exact ⟨0, by omega, by omega, rfl, by show Rw3 _ _ _ _ _ _ _ _; simpa [mA] using R1.out⟩
        case round =>
          obtain ⟨k, hk2, hkl, rfl, HR⟩ := hrel
          clear R1
          by_cases hlt : k < ra.length ∧ k < 2
          · obtain ⟨hlt1, hlt2⟩ := hlt
            have hki : (k : Int) < ra.length := by omega
            have hk3 : (k : Int) < 2 := by omega
            obtain ⟨pa, qa, rfl, hca⟩ := ints_cell HRA.out (by omega)
            have hBr : Below w.heap.size w wr := HBW.out.trans (HR.out.bel.mono HBW.out.size)
            have e0 : wr.cell? ⟨pa, qa + k, none⟩ = some (I ra[k]) := cell_kept hBr (hca k hlt1)
            have HIN := HIA.out ra[k] (List.getElem_mem hlt1)
            have HCA : Hid (∀ w', Below w.heap.size w w' → w'.cell? ⟨pa, qa + k, none⟩ = some (I ra[k])) := fun w' hb => cell_kept hb (hca k hlt1)
            have HM1 : Hid (mA ((pkL ra).take (k + 1)) = mA ((pkL ra).take k) ++ [⟨5, 3, k, Wv.pk ra[k] 256⟩]) := mA_at ra k hlt1 hlt2
            have HM2 : Hid ((pkL ra).take (k + 1) = (pkL ra).take k ++ [Wv.pk ra[k] 256]) := pkL_at ra k hlt1 hlt2
            clear hca hBr
            generalize ra[k] = ak at *
            go_wp2_with fail
            refine (pick_any ak 256 wr HIN ⟨by decide, by decide⟩).mono ?_
            rintro e wr' ⟨rfl, hwr⟩
            subst hwr
            generalize hpk : Wv.pk ak 256 = pk at *
            have HPK : Hid (Wv.pk ak 256 = pk) := hpk
            clear hpk
            obtain ⟨ml1, ml2⟩ := mA_len ra k (by omega) (by omega)
            have HLN : Hid (k ≤ 2 ∧ (mA ((pkL ra).take k)).length = k ∧ (pkL rb ++ (pkL ra).take k).length ≤ 4) := ⟨hk2, ml1, by rw [List.length_append, ml2, pkL_len]; omega⟩
            clear ml1 ml2
            have HM3 : Hid (pkL rb ++ (pkL ra).take (k + 1) = (pkL rb ++ (pkL ra).take k) ++ [pk]) := by show _ = _; rw [HM2.out, List.append_assoc]
            generalize mA ((pkL ra).take k) = acs at *
            generalize pkL rb ++ (pkL ra).take k = nms at *
            have hwz : w1.heap.size ≤ wr'.heap.size := HR.out.bel.size
            have n1 : acs.length + 1 ≤ maxLen := by have := HLN.out; unfold maxLen; omega
            have n2 : (acs.length + 1) * 40 ≤ 140737488355328 := by have := HLN.out; omega
            have n3 : nms.length + 1 ≤ maxLen := by have := HLN.out; unfold maxLen; omega
            have n4 : (nms.length + 1) * 8 ≤ 140737488355328 := by have := HLN.out; omega
            have HRA1 : Hid ((wr'.alloc (.cells #[I 5, I 3, I k, I pk, I 0] 41)).ownsRow w1.heap.size 41 5 u13 acs.length (flat acC acs)) := HR.out.one.alloc _
            have hone : ∀ u ∈ [I 5, I 3, I (k : Int), I pk, I 0], u.oneCell' = true := by intro u hu; simp at hu; rcases hu with rfl | rfl | rfl | rfl | rfl <;> rfl
            clear e0
            go_wp2_with (first | (at_builtin; refine wpList_append_own_at _ rfl _ _ _ rfl w1.heap.size 41 i5 (.agg #[.int .i64 0, .int .i64 0, .int .i64 0, .int .i64 0, .int .i64 0]) 5 40 Tryz.underlying25 HI5.out.1 HI5.out.2.1 HI5.out.2.2.1 HI5.out.2.2.2 rfl (by decide) u13 acs.length (flat acC acs) rfl HRA1.out ⟨wr'.heap.size, 0, none⟩ 1 1 [I 5, I 3, I k, I pk, I 0] rfl rfl (lit_any wr' _ _) hone n1 n2 (by simp; omega) ?_; intro v7 w7 hown7 hgrow7 hnil7 hat7; have HA7 : Hid (w7.ownsRow w1.heap.size 41 5 v7 (acs.length + 1) (flat acC acs ++ [I 5, I 3, I k, I pk, I 0])) := hown7; have HB7 : Hid (Below w1.heap.size w1 w7) := (HR.out.bel.alloc hwz _).grown hgrow7 (by simp; omega) (fun b e => (HR.out.one.lt b e).1); have HN7 : Hid (w7.ownsRow w1.heap.size 3 1 u15 nms.length (nms.map I)) := (HR.out.nums.alloc _).kept hgrow7 (own_apart HR.out.nums HR.out.one (by decide)); have HT7 : Hid (w7.ownsRow w1.heap.size 41 5 u14 (mA (pkL rb)).length (flat acC (mA (pkL rb)))) := (HR.out.two.alloc _).kept hgrow7 HR.out.apart; have HP7 : Hid (u14.ownBlock = none ∨ u14.ownBlock ≠ v7.ownBlock) := apart_new HR.out.two HR.out.apart hat7; have e7 : w7.cell? ⟨pa, qa + k, none⟩ = some (I ak) := HCA.out w7 (HBW.out.trans (HB7.out.mono HBW.out.size)); clear hown7 hgrow7 hnil7 hat7))
            refine (pick_any ak 256 w7 HIN ⟨by decide, by decide⟩).mono ?_
            rintro e w7' ⟨rfl, hw7⟩
            subst hw7
            rw [HPK.out]
            have hwz7 : w1.heap.size ≤ w7'.heap.size := HB7.out.size
            have HNA : Hid ((w7'.alloc (.cells #[I pk] 3)).ownsRow w1.heap.size 3 1 u15 nms.length (nms.map I)) := HN7.out.alloc _
            clear e7 HRA1 hone hwz
            go_wp2_with (first | (at_builtin; refine wpList_append_own_at _ rfl _ _ _ rfl w1.heap.size 3 i1 (.int .i64 0) 1 8 Tryz.underlying34 HI1.out.1 HI1.out.2.1 HI1.out.2.2.1 HI1.out.2.2.2 rfl (by decide) u15 nms.length (nms.map I) rfl HNA.out ⟨w7'.heap.size, 0, none⟩ 1 1 [I pk] rfl rfl (lit_any w7' _ _) (in_one pk) n3 n4 (by simp; omega) ?_; intro v8 w8 hown8 hgrow8 hnil8 hat8; have HN8 : Hid (w8.ownsRow w1.heap.size 3 1 v8 (nms.length + 1) (nms.map I ++ [I pk])) := hown8; have HB8 : Hid (Below w1.heap.size w1 w8) := (HB7.out.alloc hwz7 _).grown hgrow8 (by simp; omega) (fun b e => (HN7.out.lt b e).1); have HA8 : Hid (w8.ownsRow w1.heap.size 41 5 v7 (acs.length + 1) (flat acC acs ++ [I 5, I 3, I k, I pk, I 0])) := (HA7.out.alloc _).kept hgrow8 (own_apart HA7.out HN7.out (by decide)); have HT8 : Hid (w8.ownsRow w1.heap.size 41 5 u14 (mA (pkL rb)).length (flat acC (mA (pkL rb)))) := (HT7.out.alloc _).kept hgrow8 (own_apart HT7.out HN7.out (by decide)); clear hown8 hgrow8 hnil8 hat8))
            have LR : Hid (Rw3 w1 w8 v7 (acs ++ [⟨5, 3, k, pk⟩]) u14 (mA (pkL rb)) v8 (nms ++ [pk])) := ⟨by rw [List.length_append, flat_snocA]; exact HA8.out, HT8.out, by rw [List.length_append, List.map_append]; exact HN8.out, HB8.out, HP7.out⟩
            clear HA7 HB7 HN7 HNA HN8 HB8 HA8 HT7 HT8 HP7
            go_roundw
            case rel => exact ⟨k + 1, by omega, by omega, by go_num, by rw [HM1.out, HM3.out]; exact LR⟩
            case measure => simp [intOf]; omega
          · have HE3 : Hid (Rw3 w1 wr u13 (mA (pkL ra)) u14 (mA (pkL rb)) u15 (pkL rb ++ pkL ra)) := by
              have hl := pkL_len ra
              have := HR.out
              rw [List.take_of_length_le (by omega)] at this
              exact this
            have hwz : w1.heap.size ≤ wr.heap.size := HE3.out.bel.size
            have HLN : Hid ((mA (pkL ra)).length ≤ 2 ∧ (mA (pkL rb)).length ≤ 2) := ⟨lenA, lenA⟩
            have n1 : (mA (pkL ra)).length + 3 ≤ maxLen := by have := HLN.out; unfold maxLen; omega
            have n2 : ((mA (pkL ra)).length + 3) * 40 ≤ 140737488355328 := by have := HLN.out; omega
            have n3 : (mA (pkL rb)).length + 2 ≤ maxLen := by have := HLN.out; unfold maxLen; omega
            have n4 : ((mA (pkL rb)).length + 2) * 40 ≤ 140737488355328 := by have := HLN.out; omega
            have HXX := HX.out
            have HYY := HY.out
            have hone3 : ∀ u ∈ [I 4, I 2, I x, I 0, I 0, I 1, I 0, I x, I 0, I 0, I 2, I 1, I x, I 0, I 0], u.oneCell' = true := List.all_eq_true.1 (show ([I 4, I 2, I x, I 0, I 0, I 1, I 0, I x, I 0, I 0, I 2, I 1, I x, I 0, I 0].all (fun u => u.oneCell')) = true from rfl)
            have hone2 : ∀ u ∈ [I 4, I 2, I y, I 0, I 0, I 1, I 0, I (-y), I 0, I 0], u.oneCell' = true := List.all_eq_true.1 (show ([I 4, I 2, I y, I 0, I 0, I 1, I 0, I (-y), I 0, I 0].all (fun u => u.oneCell')) = true from rfl)
            by_cases hA2 : k < ra.length
            · obtain rfl : k = 2 := by omega
              have hki2 : ((2 : Nat) : Int) < ra.length := by omega
              clear HR
              go_wp2_with (first | (at_builtin; refine wpList_append_own_at _ rfl _ _ _ rfl w1.heap.size 41 i5 (.agg #[.int .i64 0, .int .i64 0, .int .i64 0, .int .i64 0, .int .i64 0]) 5 40 Tryz.underlying25 HI5.out.1 HI5.out.2.1 HI5.out.2.2.1 HI5.out.2.2.2 rfl (by decide) u13 (mA (pkL ra)).length (flat acC (mA (pkL ra))) rfl (HE3.out.one.alloc _) ⟨wr.heap.size, 0, none⟩ 3 3 [I 4, I 2, I x, I 0, I 0, I 1, I 0, I x, I 0, I 0, I 2, I 1, I x, I 0, I 0] rfl rfl (lit_any wr _ _) hone3 n1 n2 (by simp; omega) ?_; intro v7 w7 hown7 hgrow7 hnil7 hat7; have HA7 : Hid (w7.ownsRow w1.heap.size 41 5 v7 ((mA (pkL ra)).length + 3) (flat acC (mA (pkL ra)) ++ [I 4, I 2, I x, I 0, I 0, I 1, I 0, I x, I 0, I 0, I 2, I 1, I x, I 0, I 0])) := hown7; have HB7 : Hid (Below w1.heap.size w1 w7) := (HE3.out.bel.alloc hwz _).grown hgrow7 (by simp; omega) (fun b e => (HE3.out.one.lt b e).1); have HN7 : Hid (w7.ownsRow w1.heap.size 3 1 u15 (pkL rb ++ pkL ra).length ((pkL rb ++ pkL ra).map I)) := (HE3.out.nums.alloc _).kept hgrow7 (own_apart HE3.out.nums HE3.out.one (by decide)); have HT7 : Hid (w7.ownsRow w1.heap.size 41 5 u14 (mA (pkL rb)).length (flat acC (mA (pkL rb)))) := (HE3.out.two.alloc _).kept hgrow7 HE3.out.apart; have HP7 : Hid (u14.ownBlock = none ∨ u14.ownBlock ≠ v7.ownBlock) := apart_new HE3.out.two HE3.out.apart hat7; have hwz7 : w1.heap.size ≤ w7.heap.size := HB7.out.size; clear hown7 hgrow7 hnil7 hat7) | (at_builtin; refine wpList_append_own_at _ rfl _ _ _ rfl w1.heap.size 41 i5 (.agg #[.int .i64 0, .int .i64 0, .int .i64 0, .int .i64 0, .int .i64 0]) 5 40 Tryz.underlying25 HI5.out.1 HI5.out.2.1 HI5.out.2.2.1 HI5.out.2.2.2 rfl (by decide) u14 (mA (pkL rb)).length (flat acC (mA (pkL rb))) rfl (HT7.out.alloc _) ⟨w7.heap.size, 0, none⟩ 2 2 [I 4, I 2, I y, I 0, I 0, I 1, I 0, I (-y), I 0, I 0] rfl rfl (lit_any w7 _ _) hone2 n3 n4 (by simp; omega) ?_; intro v8 w8 hown8 hgrow8 hnil8 hat8; have HT8 : Hid (w8.ownsRow w1.heap.size 41 5 v8 ((mA (pkL rb)).length + 2) (flat acC (mA (pkL rb)) ++ [I 4, I 2, I y, I 0, I 0, I 1, I 0, I (-y), I 0, I 0])) := hown8; have HB8 : Hid (Below w1.heap.size w1 w8) := (HB7.out.alloc hwz7 _).grown hgrow8 (by simp; omega) (fun b e => (HT7.out.lt b e).1); have HN8 : Hid (w8.ownsRow w1.heap.size 3 1 u15 (pkL rb ++ pkL ra).length ((pkL rb ++ pkL ra).map I)) := (HN7.out.alloc _).kept hgrow8 (own_apart HN7.out HT7.out (by decide)); have HA8 : Hid (w8.ownsRow w1.heap.size 41 5 v7 ((mA (pkL ra)).length + 3) (flat acC (mA (pkL ra)) ++ [I 4, I 2, I x, I 0, I 0, I 1, I 0, I x, I 0, I 0, I 2, I 1, I x, I 0, I 0])) := (HA7.out.alloc _).kept hgrow8 (apart_sym HA7.out (by omega) HP7.out); have HZ8 : Hid (∃ ga ca gb cb la lc ln, v7 = .slice (some ⟨ga, 0, none⟩) ((mA (pkL ra)).length + 3) ca ∧ v8 = .slice (some ⟨gb, 0, none⟩) ((mA (pkL rb)).length + 2) cb ∧ u15 = .slice la ln lc ∧ (pkL rb ++ pkL ra).length = ln ∧ Rw8 w1 w8 (pkL ra) (pkL rb) x y ga ca gb cb la (pkL rb ++ pkL ra)) := rw8 HA8.out HT8.out HN8.out HB8.out; clear hown8 hgrow8 hnil8 hat8))
              obtain ⟨ga, ca, gb, cb, la, lc, ln, rfl, rfl, rfl, hLE, hRW⟩ := HZ8.out
              have HLE : Hid ((pkL rb ++ pkL ra).length = ln) := hLE
              have HRW : Hid (Rw8 w1 w8 (pkL ra) (pkL rb) x y ga ca gb cb la (pkL rb ++ pkL ra)) := hRW
              have HLL : Hid ((pkL rb ++ pkL ra).length ≤ 1048576) := by show _ ≤ _; rw [List.length_append, pkL_len, pkL_len]; omega
              have HS8 : Hid (Sx w w8 eb ef s (newS 2) (Pn w1.heap.size w8.heap.size)) := HS1.out.fresh hRW.bel
              clear HZ8 hRW hLE HA8 HB8 HN8 HT8 HA7 HB7 HN7 HT7 HP7 hwz7 HE3 hwz HLN n1 n2 n3 n4 hone3 hone2 HS1 HBW
              go_wp2_with fail
              refine (k1 hI HS8.out (pkL_sml ra) HX.out.1 HX.out.2 ca HRW.out.one HRW.out.pa rfl).mono ?_
              rintro e w9 ⟨rfl, h9⟩
              have HS9 : Hid (Sy w w8 eb ef s (M1 (pkL ra) x) (Pn w1.heap.size w8.heap.size) w9) := h9
              clear h9 HS8
              go_wp2_with fail
              refine (k2 hI HS9.out.1 (pkL_sml rb) HY.out.1 HY.out.2 cb (HRW.out.same HS9.out.2).2.1 HRW.out.pb rfl).mono ?_
              rintro e w10 ⟨rfl, h10⟩
              have HS10 : Hid (Sy w w8 eb ef s (M2 (pkL ra) (pkL rb) x y) (Pn w1.heap.size w8.heap.size) w10) := HS9.out.then h10
              clear h10 HS9
              go_wp2_with fail
              refine (k3 hI HGD.out HS10.out.1 (pkL_sml ra) (pkL_sml rb) HX.out.1 HX.out.2 HY.out.1 HY.out.2).mono ?_
              rintro e w11 ⟨rfl, V, hV, L0, L1, z0, z1, hW, h11⟩
              have HV : Hid (Vok V x y (pkL rb ++ pkL ra)) := hV
              have HW3 : Hid (Whl (N3 V L0 L1 z0 z1)) := hW
              have HS11 : Hid (Sy w w8 eb ef s (N3 V L0 L1 z0 z1) (Pn w1.heap.size w8.heap.size) w11) := HS10.out.then h11
              clear hV hW h11 HS10
              go_wp2_with fail
              refine (k3q HS11.out.1 HW3.out HV.out).mono ?_
              rintro e w12 ⟨rfl, h12⟩
              have HS12 : Hid (Sy w w8 eb ef s (N3 V L0 L1 z0 z1) (Pn w1.heap.size w8.heap.size) w12) := HS11.out.then h12
              clear h12 HS11
              go_wp2_with fail
              refine (k3c HS12.out.1 HW3.out HV.out).mono ?_
              rintro e w13 ⟨rfl, h13⟩
              have HS13 : Hid (Sy w w8 eb ef s (N3 V L0 L1 z0 z1) (Pn w1.heap.size w8.heap.size) w13) := HS12.out.then h13
              clear h13 HS12
              go_wp2_with fail
              refine (k3l HS13.out.1 HW3.out HV.out (HRW.out.same HS13.out.2).2.2 HLL.out HLE.out).mono ?_
              rintro e w14 ⟨rfl, h14⟩
              have HS14 : Hid (Sx w w14 eb ef s (N3 V L0 L1 z0 z1) (Pn w1.heap.size w8.heap.size)) := h14.1
              clear h14 HS13 HRW HLL HLE
              go_wp2_with fail
              refine (k4 hI HS14.out HW3.out HV.out).mono ?_
              rintro e w15 ⟨rfl, L2, z2, hW, h15⟩
              have HW4 : Hid (Whl (N4 V L2 L1 z2 z1)) := hW
              have HS15 : Hid (Sx w w15 eb ef s (N4 V L2 L1 z2 z1) (fun _ => False)) := h15
              clear h15 hW HS14 HW3
              go_wp2_with fail
              refine (k5 hI HS15.out HW4.out HV.out).mono ?_
              rintro e w16 ⟨rfl, L3, z3, hW, h16⟩
              have HW5 : Hid (Whl (N5 V L2 L3 z2 z3)) := hW
              have HS16 : Hid (Sx w w16 eb ef s (N5 V L2 L3 z2 z3) (fun _ => False)) := h16
              clear h16 hW HS15 HW4
              go_wp2_with fail
              refine (k6 hI HGD.out HS16.out HW5.out HV.out).mono ?_
              rintro e w17 ⟨rfl, L4, L5, hW, h17⟩
              have HW6 : Hid (Whl (N6 V L4 L5 z2 z3)) := hW
              have HS17 : Hid (Sx w w17 eb ef s (N6 V L4 L5 z2 z3) (fun _ => False)) := h17
              clear h17 hW HS16 HW5
              go_wp2_with fail
              refine (k6s HS17.out HW6.out HV.out).mono ?_
              rintro e w18 ⟨rfl, h18⟩
              have HS18 : Hid (Sx w w18 eb ef s (N6 V L4 L5 z2 z3) (fun _ => False)) := h18.1
              clear h18 HS17
              go_wp2_with fail
              refine (k6q HS18.out HW6.out HV.out).mono ?_
              rintro e w19 ⟨rfl, h19⟩
              have HS19 : Hid (Sx w w19 eb ef s (N6 V L4 L5 z2 z3) (fun _ => False)) := h19.1
              clear h19 HS18
              go_wp2_with fail
              refine (k7 hI HS19.out HW6.out HV.out).mono ?_
              rintro e w20 ⟨rfl, L6, z4, hW, h20⟩
              have HW7 : Hid (Whl (N7 V L4 L6 z2 z4)) := hW
              have HS20 : Hid (Sx w w20 eb ef s (N7 V L4 L6 z2 z4) (fun _ => False)) := h20
              clear h20 hW HS19 HW6
              go_wp2_with fail
              refine (k8 hI HGD.out HS20.out HW7.out).mono ?_
              rintro e w21 ⟨rfl, L7, hW, h21⟩
              have HW8 : Hid (Whl (N8 V L7 L6 z2 z4)) := hW
              have HS21 : Hid (Sx w w21 eb ef s (N8 V L7 L6 z2 z4) (fun _ => False)) := h21
              clear h21 hW HS20 HW7
              go_wp2_with fail
              refine (k8s HS21.out HW8.out).mono ?_
              rintro e w22 ⟨rfl, h22⟩
              have HB22 : Hid (Below w.heap.size w w22) := h22.1.bel
              clear h22 HS21 HW8
              go_wp2
              go_ret
              exact ⟨rfl, HB22.out⟩
            · have hki2 : ¬ (k : Int) < ra.length := by omega
              clear HR
              go_wp2_with (first | (at_builtin; refine wpList_append_own_at _ rfl _ _ _ rfl w1.heap.size 41 i5 (.agg #[.int .i64 0, .int .i64 0, .int .i64 0, .int .i64 0, .int .i64 0]) 5 40 Tryz.underlying25 HI5.out.1 HI5.out.2.1 HI5.out.2.2.1 HI5.out.2.2.2 rfl (by decide) u13 (mA (pkL ra)).length (flat acC (mA (pkL ra))) rfl (HE3.out.one.alloc _) ⟨wr.heap.size, 0, none⟩ 3 3 [I 4, I 2, I x, I 0, I 0, I 1, I 0, I x, I 0, I 0, I 2, I 1, I x, I 0, I 0] rfl rfl (lit_any wr _ _) hone3 n1 n2 (by simp; omega) ?_; intro v7 w7 hown7 hgrow7 hnil7 hat7; have HA7 : Hid (w7.ownsRow w1.heap.size 41 5 v7 ((mA (pkL ra)).length + 3) (flat acC (mA (pkL ra)) ++ [I 4, I 2, I x, I 0, I 0, I 1, I 0, I x, I 0, I 0, I 2, I 1, I x, I 0, I 0])) := hown7; have HB7 : Hid (Below w1.heap.size w1 w7) := (HE3.out.bel.alloc hwz _).grown hgrow7 (by simp; omega) (fun b e => (HE3.out.one.lt b e).1); have HN7 : Hid (w7.ownsRow w1.heap.size 3 1 u15 (pkL rb ++ pkL ra).length ((pkL rb ++ pkL ra).map I)) := (HE3.out.nums.alloc _).kept hgrow7 (own_apart HE3.out.nums HE3.out.one (by decide)); have HT7 : Hid (w7.ownsRow w1.heap.size 41 5 u14 (mA (pkL rb)).length (flat acC (mA (pkL rb)))) := (HE3.out.two.alloc _).kept hgrow7 HE3.out.apart; have HP7 : Hid (u14.ownBlock = none ∨ u14.ownBlock ≠ v7.ownBlock) := apart_new HE3.out.two HE3.out.apart hat7; have hwz7 : w1.heap.size ≤ w7.heap.size := HB7.out.size; clear hown7 hgrow7 hnil7 hat7) | (at_builtin; refine wpList_append_own_at _ rfl _ _ _ rfl w1.heap.size 41 i5 (.agg #[.int .i64 0, .int .i64 0, .int .i64 0, .int .i64 0, .int .i64 0]) 5 40 Tryz.underlying25 HI5.out.1 HI5.out.2.1 HI5.out.2.2.1 HI5.out.2.2.2 rfl (by decide) u14 (mA (pkL rb)).length (flat acC (mA (pkL rb))) rfl (HT7.out.alloc _) ⟨w7.heap.size, 0, none⟩ 2 2 [I 4, I 2, I y, I 0, I 0, I 1, I 0, I (-y), I 0, I 0] rfl rfl (lit_any w7 _ _) hone2 n3 n4 (by simp; omega) ?_; intro v8 w8 hown8 hgrow8 hnil8 hat8; have HT8 : Hid (w8.ownsRow w1.heap.size 41 5 v8 ((mA (pkL rb)).length + 2) (flat acC (mA (pkL rb)) ++ [I 4, I 2, I y, I 0, I 0, I 1, I 0, I (-y), I 0, I 0])) := hown8; have HB8 : Hid (Below w1.heap.size w1 w8) := (HB7.out.alloc hwz7 _).grown hgrow8 (by simp; omega) (fun b e => (HT7.out.lt b e).1); have HN8 : Hid (w8.ownsRow w1.heap.size 3 1 u15 (pkL rb ++ pkL ra).length ((pkL rb ++ pkL ra).map I)) := (HN7.out.alloc _).kept hgrow8 (own_apart HN7.out HT7.out (by decide)); have HA8 : Hid (w8.ownsRow w1.heap.size 41 5 v7 ((mA (pkL ra)).length + 3) (flat acC (mA (pkL ra)) ++ [I 4, I 2, I x, I 0, I 0, I 1, I 0, I x, I 0, I 0, I 2, I 1, I x, I 0, I 0])) := (HA7.out.alloc _).kept hgrow8 (apart_sym HA7.out (by omega) HP7.out); have HZ8 : Hid (∃ ga ca gb cb la lc ln, v7 = .slice (some ⟨ga, 0, none⟩) ((mA (pkL ra)).length + 3) ca ∧ v8 = .slice (some ⟨gb, 0, none⟩) ((mA (pkL rb)).length + 2) cb ∧ u15 = .slice la ln lc ∧ (pkL rb ++ pkL ra).length = ln ∧ Rw8 w1 w8 (pkL ra) (pkL rb) x y ga ca gb cb la (pkL rb ++ pkL ra)) := rw8 HA8.out HT8.out HN8.out HB8.out; clear hown8 hgrow8 hnil8 hat8))
              obtain ⟨ga, ca, gb, cb, la, lc, ln, rfl, rfl, rfl, hLE, hRW⟩ := HZ8.out
              have HLE : Hid ((pkL rb ++ pkL ra).length = ln) := hLE
              have HRW : Hid (Rw8 w1 w8 (pkL ra) (pkL rb) x y ga ca gb cb la (pkL rb ++ pkL ra)) := hRW
              have HLL : Hid ((pkL rb ++ pkL ra).length ≤ 1048576) := by show _ ≤ _; rw [List.length_append, pkL_len, pkL_len]; omega
              have HS8 : Hid (Sx w w8 eb ef s (newS 2) (Pn w1.heap.size w8.heap.size)) := HS1.out.fresh hRW.bel
              clear HZ8 hRW hLE HA8 HB8 HN8 HT8 HA7 HB7 HN7 HT7 HP7 hwz7 HE3 hwz HLN n1 n2 n3 n4 hone3 hone2 HS1 HBW
              go_wp2_with fail
              refine (k1 hI HS8.out (pkL_sml ra) HX.out.1 HX.out.2 ca HRW.out.one HRW.out.pa rfl).mono ?_
              rintro e w9 ⟨rfl, h9⟩
              have HS9 : Hid (Sy w w8 eb ef s (M1 (pkL ra) x) (Pn w1.heap.size w8.heap.size) w9) := h9
              clear h9 HS8
              go_wp2_with fail
              refine (k2 hI HS9.out.1 (pkL_sml rb) HY.out.1 HY.out.2 cb (HRW.out.same HS9.out.2).2.1 HRW.out.pb rfl).mono ?_
              rintro e w10 ⟨rfl, h10⟩
              have HS10 : Hid (Sy w w8 eb ef s (M2 (pkL ra) (pkL rb) x y) (Pn w1.heap.size w8.heap.size) w10) := HS9.out.then h10
              clear h10 HS9
              go_wp2_with fail
              refine (k3 hI HGD.out HS10.out.1 (pkL_sml ra) (pkL_sml rb) HX.out.1 HX.out.2 HY.out.1 HY.out.2).mono ?_
              rintro e w11 ⟨rfl, V, hV, L0, L1, z0, z1, hW, h11⟩
              have HV : Hid (Vok V x y (pkL rb ++ pkL ra)) := hV
              have HW3 : Hid (Whl (N3 V L0 L1 z0 z1)) := hW
              have HS11 : Hid (Sy w w8 eb ef s (N3 V L0 L1 z0 z1) (Pn w1.heap.size w8.heap.size) w11) := HS10.out.then h11
              clear hV hW h11 HS10
              go_wp2_with fail
              refine (k3q HS11.out.1 HW3.out HV.out).mono ?_
              rintro e w12 ⟨rfl, h12⟩
              have HS12 : Hid (Sy w w8 eb ef s (N3 V L0 L1 z0 z1) (Pn w1.heap.size w8.heap.size) w12) := HS11.out.then h12
              clear h12 HS11
              go_wp2_with fail
              refine (k3c HS12.out.1 HW3.out HV.out).mono ?_
              rintro e w13 ⟨rfl, h13⟩
              have HS13 : Hid (Sy w w8 eb ef s (N3 V L0 L1 z0 z1) (Pn w1.heap.size w8.heap.size) w13) := HS12.out.then h13
              clear h13 HS12
              go_wp2_with fail
              refine (k3l HS13.out.1 HW3.out HV.out (HRW.out.same HS13.out.2).2.2 HLL.out HLE.out).mono ?_
              rintro e w14 ⟨rfl, h14⟩
              have HS14 : Hid (Sx w w14 eb ef s (N3 V L0 L1 z0 z1) (Pn w1.heap.size w8.heap.size)) := h14.1
              clear h14 HS13 HRW HLL HLE
              go_wp2_with fail
              refine (k4 hI HS14.out HW3.out HV.out).mono ?_
              rintro e w15 ⟨rfl, L2, z2, hW, h15⟩
              have HW4 : Hid (Whl (N4 V L2 L1 z2 z1)) := hW
              have HS15 : Hid (Sx w w15 eb ef s (N4 V L2 L1 z2 z1) (fun _ => False)) := h15
              clear h15 hW HS14 HW3
              go_wp2_with fail
              refine (k5 hI HS15.out HW4.out HV.out).mono ?_
              rintro e w16 ⟨rfl, L3, z3, hW, h16⟩
              have HW5 : Hid (Whl (N5 V L2 L3 z2 z3)) := hW
              have HS16 : Hid (Sx w w16 eb ef s (N5 V L2 L3 z2 z3) (fun _ => False)) := h16
              clear h16 hW HS15 HW4
              go_wp2_with fail
              refine (k6 hI HGD.out HS16.out HW5.out HV.out).mono ?_
              rintro e w17 ⟨rfl, L4, L5, hW, h17⟩
              have HW6 : Hid (Whl (N6 V L4 L5 z2 z3)) := hW
              have HS17 : Hid (Sx w w17 eb ef s (N6 V L4 L5 z2 z3) (fun _ => False)) := h17
              clear h17 hW HS16 HW5
              go_wp2_with fail
              refine (k6s HS17.out HW6.out HV.out).mono ?_
              rintro e w18 ⟨rfl, h18⟩
              have HS18 : Hid (Sx w w18 eb ef s (N6 V L4 L5 z2 z3) (fun _ => False)) := h18.1
              clear h18 HS17
              go_wp2_with fail
              refine (k6q HS18.out HW6.out HV.out).mono ?_
              rintro e w19 ⟨rfl, h19⟩
              have HS19 : Hid (Sx w w19 eb ef s (N6 V L4 L5 z2 z3) (fun _ => False)) := h19.1
              clear h19 HS18
              go_wp2_with fail
              refine (k7 hI HS19.out HW6.out HV.out).mono ?_
              rintro e w20 ⟨rfl, L6, z4, hW, h20⟩
              have HW7 : Hid (Whl (N7 V L4 L6 z2 z4)) := hW
              have HS20 : Hid (Sx w w20 eb ef s (N7 V L4 L6 z2 z4) (fun _ => False)) := h20
              clear h20 hW HS19 HW6
              go_wp2_with fail
              refine (k8 hI HGD.out HS20.out HW7.out).mono ?_
              rintro e w21 ⟨rfl, L7, hW, h21⟩
              have HW8 : Hid (Whl (N8 V L7 L6 z2 z4)) := hW
              have HS21 : Hid (Sx w w21 eb ef s (N8 V L7 L6 z2 z4) (fun _ => False)) := h21
              clear h21 hW HS20 HW7
              go_wp2_with fail
              refine (k8s HS21.out HW8.out).mono ?_
              rintro e w22 ⟨rfl, h22⟩
              have HB22 : Hid (Below w.heap.size w w22) := h22.1.bel
              clear h22 HS21 HW8
              go_wp2
              go_ret
              exact ⟨rfl, HB22.out⟩

end Go.Proofs.YtfmcngncaffloaaGreatDoor
