import Derived.Test.YtfmcngncaffloaaGreatDoorG46OwR
namespace Go.Proofs.YtfmcngncaffloaaGreatDoor
open Go.RowKit
set_option maxRecDepth 100000

/-- An operation's raw numbers. -/
structure Ra where
  op : Int
  ob : Int
  x : Int
  y : Int
  z : Int
def raC (a : Ra) : List Value := [I a.op, I a.ob, I a.x, I a.y, I a.z]
structure RaOk (a : Ra) : Prop where
  op : -9223372036854775808 ≤ a.op ∧ a.op ≤ 9223372036854775807
  ob : -9223372036854775808 ≤ a.ob ∧ a.ob ≤ 9223372036854775807
  x : -9223372036854775808 ≤ a.x ∧ a.x ≤ 9223372036854775807
  y : -9223372036854775808 ≤ a.y ∧ a.y ≤ 9223372036854775807
  z : -9223372036854775808 ≤ a.z ∧ a.z ≤ 9223372036854775807
theorem ra_cell {w : World} {a : Option Addr} {l : List Ra} (h : At w a (flat raC l)) (hl : 0 < l.length) : ∃ p q, a = some ⟨p, q, none⟩ ∧ ∀ k (hk : k < l.length), w.cell? ⟨p, q + k * 5, none⟩ = some (I l[k].op) ∧ w.cell? ⟨p, q + k * 5 + 1, none⟩ = some (I l[k].ob) ∧ w.cell? ⟨p, q + k * 5 + 2, none⟩ = some (I l[k].x) ∧ w.cell? ⟨p, q + k * 5 + 3, none⟩ = some (I l[k].y) ∧ w.cell? ⟨p, q + k * 5 + 4, none⟩ = some (I l[k].z) := by
  have hg := fun (k : Nat) (hk : k < l.length) (j : Nat) (hj : j < 5) => flat_get raC 5 (fun _ => rfl) l k hk j hj
  obtain ⟨p, q, e, _⟩ := h (0 * 5 + 0) (I l[0].op) (by rw [hg 0 hl 0 (by omega)]; rfl)
  refine ⟨p, q, e, fun k hk => ?_⟩
  have hc : ∀ (j : Nat) (u : Value), j < 5 → (raC l[k])[j]? = some u → w.cell? ⟨p, q + k * 5 + j, none⟩ = some u := fun j u hj hu => by
    obtain ⟨p2, q2, e2, hc⟩ := h (k * 5 + j) u (by rw [hg k hk j hj]; exact hu)
    rw [e] at e2
    cases e2
    rw [Nat.add_assoc]
    exact hc
  exact ⟨hc 0 _ (by omega) rfl, hc 1 _ (by omega) rfl, hc 2 _ (by omega) rfl, hc 3 _ (by omega) rfl, hc 4 _ (by omega) rfl⟩
def OwnOk (w : World) (e : Ending) (w' : World) : Prop := e = .returned (.bool true) ∧ Below w.heap.size w w'
set_option maxHeartbeats 6400000 in
theorem own_any (raws : List Ra) (aa : Option Addr) (ca : Nat) (many repl : Int) (w : World) (eb ef : Addr) (hI : ItoaSaid) (hgl : Gl w eb ef) (hpw : Pw w)
    (hm : -9223372036854775808 ≤ many ∧ many ≤ 9223372036854775807) (hr : -9223372036854775808 ≤ repl ∧ repl ≤ 9223372036854775807) (hat : At w aa (flat raC raws)) (hok : ∀ a ∈ raws, RaOk a) (hll : raws.length ≤ 9223372036854775807) :
    Calls Tryz.prog 4 #[.slice aa raws.length ca, I many, I repl] w fun e w' => OwnOk w e w' := by
  have HAT : Hid (At w aa (flat raC raws)) := hat
  have HOK : Hid (∀ a ∈ raws, RaOk a) := hok
  have HP1 : Hid (Calls Tryz.prog 13 #[I many, I 3] w fun e w'' => e = .returned (I (Wv.pk many 3)) ∧ w'' = w) := pick_any many 3 w hm ⟨by decide, by decide⟩
  obtain ⟨n0, n1⟩ := Wv.pk_lt many 3 (by decide)
  generalize Wv.pk many 3 = n3 at *
  obtain ⟨n, hn⟩ : ∃ n : Nat, 2 + n3 = n := Int.eq_ofNat_of_zero_le (by omega)
  have hwn : IntKind.i64.wrap (2 + n3) = (n : Int) := by rw [IntKind.wrap_i64, ← hn]; omega
  have hn2 : 2 ≤ n := by omega
  have hn4 : n ≤ 4 := by omega
  have HP2 : Hid (Calls Tryz.prog 13 #[I repl, I n] w fun e w'' => e = .returned (I (Wv.pk repl n)) ∧ w'' = w) := pick_any repl n w hr ⟨by omega, by omega⟩
  obtain ⟨r0, r1⟩ := Wv.pk_lt repl n (by omega)
  generalize Wv.pk repl n = ri at *
  obtain ⟨r, rfl⟩ := Int.eq_ofNat_of_zero_le r0
  have hrn : r < n := by omega
  have HN : Hid (Calls Tryz.prog 14 #[I n] w fun e w' => ∃ s, e = .returned (.tuple #[.pointer (some ⟨s, 0, none⟩), I 0]) ∧ Sx w w' eb ef s (newS n) (fun _ => False)) := x_new w eb ef n hgl hpw hn2 hn4
  clear hat hok hm hr hgl hpw r0 r1
  go_enter Tryz.func4, Tryz.ntmps4
  go_wp2_with fail
  refine HP1.out.mono ?_
  rintro e w2 ⟨rfl, hw2⟩
  obtain rfl := hw2.symm
  go_wp2_with fail
  refine HP2.out.mono ?_
  rintro e w3 ⟨rfl, hw3⟩
  obtain rfl := hw3.symm
  go_wp2_with fail
  refine HN.out.mono ?_
  rintro e w1 ⟨s, rfl, h1⟩
  have HS1 : Hid (Sx w w1 eb ef s (newS n) (fun _ => False)) := h1
  clear h1 HN HP1 HP2 n0 n1 hwn hn
  have HM0 : Hid (MdCs (w1.alloc (.cells md0C 37)) md0C md0) := md0_at _
  have HSZ : Hid ((Tryz.prog.info? 37).map (·.size) = some md0C.size) := by show _ = _; rw [infoMd, HM0.out.size]
  have HBA : Hid (Blk (w1.alloc (.cells md0C 37)) w1.heap.size md0C 37) := heap_alloc_new w1 _
  have hsc := store0 w1
  go_wp2_with (first
    | (refine wpList_load_row rfl 37 _ rfl w1.heap.size rfl 37 md0C (0, 0) _ HBA.out Tryz.underlying37 rfl HSZ.out ?_))
  refine (copied_any md0C md0 _ HM0.out md0_ok (fun l hl => by have e : l = [] := (by simpa [md0] using hl); rw [e]; exact Nat.zero_le _)).mono ?_
  rintro e w3 ⟨cs', rfl, hm3, hi3, hb3⟩
  have hb3' : Below (w1.heap.size + 1) (w1.alloc (.cells md0C 37)) w3 := by have := hb3; simpa using this
  have hi3' : MdIn (fun g => w1.heap.size + 1 ≤ g ∧ g < w3.heap.size) cs' := by have := hi3; simpa using this
  have HW0 : Hid (OwW w (w3.alloc (.cells cs' 37)) eb ef s w1.heap.size w3.heap.size n r 0 0 0 md0C cs' md0 md0 md0 md0) := ow_start HS1.out hn2 hn4 hrn hb3' hm3 hi3'
  have hsc2 : (storeCells ⟨w3.heap.size, 0, none⟩ cs'.toList 0).run Tryz.prog (w3.alloc (.cells Tryz.zeroCells37 37)) = .ok () (w3.alloc (.cells cs' 37)) := run_storeCells_new w3 37 _ cs' (by rw [infoMd, hm3.size]) (by rw [zeroSz, hm3.size]) hm3.one
  have hsz3 := hm3.size
  clear hm3 hi3 hb3 hi3' hb3' HS1 hsc HM0 HBA HSZ
  go_wp2_with fail
  clear hsc2 hsz3
  obtain ⟨wS, hwS⟩ : ∃ wS, wS = w3.alloc (.cells cs' 37) := ⟨_, rfl⟩
  rw [← hwS] at HW0 ⊢
  clear hwS
  generalize w1.heap.size = pN at *
  generalize w3.heap.size = pD at *
  have HA0 : Hid (OwW w wS eb ef s pN pD n r 0 0 (if (0 : Nat) = 0 then 0 else 1) md0C cs' md0 md0 md0 md0) := HW0
  clear HW0
  go_loopw [10, 13, 14, 15] (fun ev sq sz iv wr => ∃ (k seq size : Nat) (now done : Md) (cN cD : Array Value), k ≤ raws.length ∧ ev = I 0 ∧ sq = I seq ∧ sz = I size ∧ iv = I k ∧ seq ≤ 30 ∧ size < 4 ∧ Hid (OwW w wr eb ef s pN pD n r seq size (if size = 0 then 0 else 1) cN cD now done now done)) (fun _ _ _ iv _ => raws.length - (intOf iv).toNat)
  case atStart => exact ⟨0, 0, 0, md0, md0, md0C, cs', by omega, rfl, rfl, rfl, rfl, by omega, by omega, HA0⟩
  case round =>
    obtain ⟨k, seq, size, now, done, cN, cD, hk, rfl, rfl, rfl, rfl, hs30, hz4, HW⟩ := hrel
    clear HA0
    by_cases hlt : k < raws.length ∧ seq < 30
    · obtain ⟨hlt1, hlt2⟩ := hlt
      have hki : (k : Int) < raws.length := by omega
      have hsi : (seq : Int) < 30 := by omega
      go_upto_if 57 with fail
      go_cut [10] (fun v wx => v = I 0 ∧ Hid (OwW w wx eb ef s pN pD n r seq size 1 cN cD now done now done))
      case first =>
        by_cases h0 : size = 0
        · subst h0
          have HWb : Hid (OwW w wr eb ef s pN pD n r seq 0 0 cN cD now done now done) := HW
          clear HW
          go_wp2_with fail
          refine (o_begin HWb.out hlt2).mono ?_
          rintro e w5 ⟨rfl, h5⟩
          have H5 : Hid (OwW w w5 eb ef s pN pD n r seq 0 1 cN cD now done now done) := h5
          clear h5
          go_wp2_with fail
          go_meet
          exact ⟨rfl, H5⟩
        · have h0i : ¬ (size : Int) = 0 := by omega
          have h0b : ((size : Int) == 0) = false := by simpa using h0i
          have HWb : Hid (OwW w wr eb ef s pN pD n r seq size 1 cN cD now done now done) := by have := HW.out; rw [if_neg h0] at this; exact this
          clear HW
          go_wp2_with fail
          go_meet
          exact ⟨rfl, HWb⟩
      case rest =>
        obtain ⟨rfl, HW1⟩ := hcut
        clear HW
        obtain ⟨pa, qa, rfl, hcells⟩ := ra_cell HAT.out (by omega)
        have HRC : Hid (∀ w', Below w.heap.size w w' → w'.cell? ⟨pa, qa + k * 5, none⟩ = some (I raws[k].op) ∧ w'.cell? ⟨pa, qa + k * 5 + 1, none⟩ = some (I raws[k].ob) ∧ w'.cell? ⟨pa, qa + k * 5 + 2, none⟩ = some (I raws[k].x) ∧ w'.cell? ⟨pa, qa + k * 5 + 3, none⟩ = some (I raws[k].y) ∧ w'.cell? ⟨pa, qa + k * 5 + 4, none⟩ = some (I raws[k].z)) := fun w' hb => ⟨cell_kept hb (hcells k hlt1).1, cell_kept hb (hcells k hlt1).2.1, cell_kept hb (hcells k hlt1).2.2.1, cell_kept hb (hcells k hlt1).2.2.2.1, cell_kept hb (hcells k hlt1).2.2.2.2⟩
        have HRO : Hid (RaOk raws[k]) := HOK.out _ (List.getElem_mem hlt1)
        clear hcells
        generalize raws[k] = ra at *
        obtain ⟨e0, e1, e2, e3, e4⟩ := HRC.out wc HW1.out.bel
        go_wp2_with fail
        refine (o_act HW1.out hs30 ra.op ra.ob ra.x ra.y ra.z HRO.out.op HRO.out.ob HRO.out.x HRO.out.y).mono ?_
        rintro e w6 ⟨opn, ix, av, bv, so, cN', rfl, hcan, h6⟩
        have H6 : Hid (OwW w w6 eb ef s pN pD n r seq size 1 cN' cD now done (if so then now.step opn ix av bv else now) done) := h6
        have HCN : Hid (so = true → Can now opn ix av bv) := hcan
        clear h6 hcan e0 e1 e2 e3 e4 HW1
        go_upto_if 73 with fail
        obtain ⟨w7, hw7⟩ : ∃ w7, w7 = w6.alloc (.cells #[I opn, I ((4 * ix + kOf opn : Nat) : Int), I av, I bv, I 0] 41) := ⟨_, rfl⟩
        have H7 : Hid (OwW w w7 eb ef s pN pD n r seq size 1 cN' cD now done (if so then now.step opn ix av bv else now) done) := by rw [hw7]; exact H6.out.news ((Below.refl _ _).alloc (Nat.le_refl _) _)
        have HB7 : Hid (Blk w7 w6.heap.size #[I opn, I ((4 * ix + kOf opn : Nat) : Int), I av, I bv, I 0] 41) := by rw [hw7]; exact heap_alloc_new w6 _
        change Code.wp _ _ _ _ (w6.alloc (.cells #[I opn, I ((4 * ix + kOf opn : Nat) : Int), I av, I bv, I 0] 41))
        rw [← hw7]
        clear hw7 H6
        go_cut [10] (fun v wx => v = I 0 ∧ ∃ now', Hid (OwW w wx eb ef s pN pD n r seq (size + 1) 1 cN' cD now' done now' done))
        case first =>
          cases so with
          | false =>
            have H8 : Hid (OwW w w7 eb ef s pN pD n r seq (size + 1) 1 cN' cD now done now done) := H7.out.more
            clear H7 HB7 HCN
            go_wp2_with fail
            go_meet
            exact ⟨rfl, now, H8⟩
          | true =>
            have f0 : w7.cell? ⟨w6.heap.size, 0, none⟩ = some (I opn) := HB7.out.cell 0
            have f1 : w7.cell? ⟨w6.heap.size, 1, none⟩ = some (I ((4 * ix + kOf opn : Nat) : Int)) := HB7.out.cell 1
            have f2 : w7.cell? ⟨w6.heap.size, 2, none⟩ = some (I av) := HB7.out.cell 2
            have f3 : w7.cell? ⟨w6.heap.size, 3, none⟩ = some (I bv) := HB7.out.cell 3
            have HC2 : Hid (Can now opn ix av bv) := HCN.out rfl
            go_wp2_with fail
            refine (o_do H7.out hlt2 (by omega) opn ix av bv HC2.out).mono ?_
            rintro e w8 ⟨rfl, h8⟩
            have H8 : Hid (OwW w w8 eb ef s pN pD n r seq (size + 1) 1 cN' cD (now.step opn ix av bv) done (now.step opn ix av bv) done) := h8
            clear h8 H7 HB7 HCN f0 f1 f2 f3
            go_wp2_with fail
            go_meet
            exact ⟨rfl, _, H8⟩
        case rest =>
          obtain ⟨rfl, now', HW2⟩ := hcut
          clear H7 HB7 HCN
          go_wp2_with (first
            | (refine wpList_load_row rfl 37 _ rfl pN rfl 37 cN' (0, 0) _ HW2.out.bN Tryz.underlying37 rfl HW2.out.infoN ?_))
          refine (o_tells HW2.out hs30 (.inr rfl)).mono ?_
          rintro e w9 ⟨rfl, h9⟩
          have HW3 : Hid (OwW w w9 eb ef s pN pD n r seq (size + 1) 1 cN' cD now' done now' done) := h9
          obtain ⟨e0, e1, e2, e3, e4⟩ := HRC.out w9 h9.bel
          clear h9 HW2
          go_wp2_with fail
          refine (pick_any ra.z 4 w9 HRO.out.z ⟨by decide, by decide⟩).mono ?_
          rintro e w10 ⟨rfl, hw10⟩
          obtain rfl := hw10.symm
          obtain ⟨g0, g1⟩ := Wv.pk_lt ra.z 4 (by decide)
          generalize Wv.pk ra.z 4 = en at *
          clear e0 e1 e2 e3 e4
          go_upto_if 102 with fail
          go_cut [10, 13, 14] (fun ev sq sz wx => ∃ (seq' size' : Nat) (now2 done2 : Md) (cN2 cD2 : Array Value), ev = I 0 ∧ sq = I seq' ∧ sz = I size' ∧ seq' ≤ 30 ∧ size' < 4 ∧ Hid (OwW w wx eb ef s pN pD n r seq' size' (if size' = 0 then 0 else 1) cN2 cD2 now2 done2 now2 done2))
          case first =>
            by_cases h2 : en = 2
            · subst h2
              go_wp2_with fail
              refine (o_abort HW3.out).mono ?_
              rintro e wk ⟨rfl, hk⟩
              have HK : Hid (OwW w wk eb ef s pN pD n r seq 0 0 cN' cD done done now' done) := hk
              clear hk
              go_wp2_with (first
                | (refine wpList_load_row rfl 37 _ rfl pD rfl 37 cD (0, 0) _ HK.out.bD Tryz.underlying37 rfl HK.out.infoD ?_))
              refine (o_copyD HK.out (HK.out.small hs30)).mono ?_
              rintro e wl ⟨cs2, rfl, hl1, hl2, hl3, hl4⟩
              have HF : Hid (OwW w (wl.setRow pN cs2) eb ef s pN pD n r seq 0 (if (0 : Nat) = 0 then 0 else 1) cs2 cD done done done done) := HK.out.setN hl4 hl2 hl3 HK.out.okD
              have HLD : Hid (Blk wl pN cN' 37 ∧ (Tryz.prog.info? 37).map (·.size) = some cs2.size ∧ cN'.size = cs2.size ∧ cs2.all (·.oneCell') = true) := ⟨hl1.bN, by rw [infoMd, hl2.size], by rw [hl1.mN.size, hl2.size], hl2.one⟩
              clear hl1 hl2 hl3 hl4 HK
              go_wp2_with (first
                | (refine wpList_store_row rfl 37 _ _ rfl pN cs2 rfl rfl 37 _ HLD.out.1 HLD.out.2.1 HLD.out.2.2.1 HLD.out.2.2.2 ?_))
              go_meet
              exact ⟨seq, 0, done, done, cs2, cD, rfl, rfl, rfl, by omega, by omega, HF⟩
            · have h2b : (en == 2) = false := by simpa using h2
              by_cases h1 : en = 1
              · subst h1
                go_wp2_with fail
                refine (o_commit hI HW3.out hlt2).mono ?_
                rintro e wk ⟨kk, rfl, hcase⟩
                rcases hcase with ⟨rfl, hk⟩ | ⟨rfl, hk⟩
                · have HK : Hid (OwW w wk eb ef s pN pD n r seq 0 0 cN' cD now' now' now' done) := hk
                  clear hk
                  go_wp2_with (first
                    | (refine wpList_load_row rfl 37 _ rfl pN rfl 37 cN' (0, 0) _ HK.out.bN Tryz.underlying37 rfl HK.out.infoN ?_))
                  refine (o_copyN HK.out (by omega)).mono ?_
                  rintro e wl ⟨cs2, rfl, hl1, hl2, hl3, hl4⟩
                  have HF : Hid (OwW w (wl.setRow pD cs2) eb ef s pN pD n r seq 0 (if (0 : Nat) = 0 then 0 else 1) cN' cs2 now' now' now' now') := HK.out.setD hl4 hl2 hl3 HK.out.okN
                  have HLD : Hid (Blk wl pD cD 37 ∧ (Tryz.prog.info? 37).map (·.size) = some cs2.size ∧ cD.size = cs2.size ∧ cs2.all (·.oneCell') = true) := ⟨hl1.bD, by rw [infoMd, hl2.size], by rw [hl1.mD.size, hl2.size], hl2.one⟩
                  clear hl1 hl2 hl3 hl4 HK
                  go_wp2_with (first
                    | (refine wpList_store_row rfl 37 _ _ rfl pD cs2 rfl rfl 37 _ HLD.out.1 HLD.out.2.1 HLD.out.2.2.1 HLD.out.2.2.2 ?_))
                  go_meet
                  exact ⟨seq, 0, now', now', cN', cs2, rfl, rfl, rfl, by omega, by omega, HF⟩
                · have HK : Hid (OwW w wk eb ef s pN pD n r (seq + 1) 0 0 cN' cD now' now' now' done) := hk
                  clear hk
                  have hkn : ¬ ((seq : Int) + 1) = 0 := by omega
                  have hkp : (0 : Int) < (seq : Int) + 1 := by omega
                  have hwr : IntKind.i64.wrap ((seq : Int) + 1) = (seq : Int) + 1 := by rw [IntKind.wrap_i64]; omega
                  go_wp2_with (first
                    | (refine wpList_load_row rfl 37 _ rfl pN rfl 37 cN' (0, 0) _ HK.out.bN Tryz.underlying37 rfl HK.out.infoN ?_))
                  refine (o_copyN HK.out (by omega)).mono ?_
                  rintro e wl ⟨cs2, rfl, hl1, hl2, hl3, hl4⟩
                  have HF : Hid (OwW w (wl.setRow pD cs2) eb ef s pN pD n r (seq + 1) 0 (if (0 : Nat) = 0 then 0 else 1) cN' cs2 now' now' now' now') := HK.out.setD hl4 hl2 hl3 HK.out.okN
                  have HLD : Hid (Blk wl pD cD 37 ∧ (Tryz.prog.info? 37).map (·.size) = some cs2.size ∧ cD.size = cs2.size ∧ cs2.all (·.oneCell') = true) := ⟨hl1.bD, by rw [infoMd, hl2.size], by rw [hl1.mD.size, hl2.size], hl2.one⟩
                  clear hl1 hl2 hl3 hl4 HK
                  go_wp2_with (first
                    | (refine wpList_store_row rfl 37 _ _ rfl pD cs2 rfl rfl 37 _ HLD.out.1 HLD.out.2.1 HLD.out.2.2.1 HLD.out.2.2.2 ?_))
                  go_meet
                  exact ⟨(seq + 1), 0, now', now', cN', cs2, rfl, by go_num, rfl, by omega, by omega, HF⟩
              · have h1b : (en == 1) = false := by simpa using h1
                by_cases hq : (size : Int) + 1 = 4
                · have hqb : ((size : Int) + 1 == 4) = true := by simpa using hq
                  go_wp2_with fail
                  refine (o_commit hI HW3.out hlt2).mono ?_
                  rintro e wk ⟨kk, rfl, hcase⟩
                  rcases hcase with ⟨rfl, hk⟩ | ⟨rfl, hk⟩
                  · have HK : Hid (OwW w wk eb ef s pN pD n r seq 0 0 cN' cD now' now' now' done) := hk
                    clear hk
                    go_wp2_with (first
                      | (refine wpList_load_row rfl 37 _ rfl pN rfl 37 cN' (0, 0) _ HK.out.bN Tryz.underlying37 rfl HK.out.infoN ?_))
                    refine (o_copyN HK.out (by omega)).mono ?_
                    rintro e wl ⟨cs2, rfl, hl1, hl2, hl3, hl4⟩
                    have HF : Hid (OwW w (wl.setRow pD cs2) eb ef s pN pD n r seq 0 (if (0 : Nat) = 0 then 0 else 1) cN' cs2 now' now' now' now') := HK.out.setD hl4 hl2 hl3 HK.out.okN
                    have HLD : Hid (Blk wl pD cD 37 ∧ (Tryz.prog.info? 37).map (·.size) = some cs2.size ∧ cD.size = cs2.size ∧ cs2.all (·.oneCell') = true) := ⟨hl1.bD, by rw [infoMd, hl2.size], by rw [hl1.mD.size, hl2.size], hl2.one⟩
                    clear hl1 hl2 hl3 hl4 HK
                    go_wp2_with (first
                      | (refine wpList_store_row rfl 37 _ _ rfl pD cs2 rfl rfl 37 _ HLD.out.1 HLD.out.2.1 HLD.out.2.2.1 HLD.out.2.2.2 ?_))
                    go_meet
                    exact ⟨seq, 0, now', now', cN', cs2, rfl, rfl, rfl, by omega, by omega, HF⟩
                  · have HK : Hid (OwW w wk eb ef s pN pD n r (seq + 1) 0 0 cN' cD now' now' now' done) := hk
                    clear hk
                    have hkn : ¬ ((seq : Int) + 1) = 0 := by omega
                    have hkp : (0 : Int) < (seq : Int) + 1 := by omega
                    have hwr : IntKind.i64.wrap ((seq : Int) + 1) = (seq : Int) + 1 := by rw [IntKind.wrap_i64]; omega
                    go_wp2_with (first
                      | (refine wpList_load_row rfl 37 _ rfl pN rfl 37 cN' (0, 0) _ HK.out.bN Tryz.underlying37 rfl HK.out.infoN ?_))
                    refine (o_copyN HK.out (by omega)).mono ?_
                    rintro e wl ⟨cs2, rfl, hl1, hl2, hl3, hl4⟩
                    have HF : Hid (OwW w (wl.setRow pD cs2) eb ef s pN pD n r (seq + 1) 0 (if (0 : Nat) = 0 then 0 else 1) cN' cs2 now' now' now' now') := HK.out.setD hl4 hl2 hl3 HK.out.okN
                    have HLD : Hid (Blk wl pD cD 37 ∧ (Tryz.prog.info? 37).map (·.size) = some cs2.size ∧ cD.size = cs2.size ∧ cs2.all (·.oneCell') = true) := ⟨hl1.bD, by rw [infoMd, hl2.size], by rw [hl1.mD.size, hl2.size], hl2.one⟩
                    clear hl1 hl2 hl3 hl4 HK
                    go_wp2_with (first
                      | (refine wpList_store_row rfl 37 _ _ rfl pD cs2 rfl rfl 37 _ HLD.out.1 HLD.out.2.1 HLD.out.2.2.1 HLD.out.2.2.2 ?_))
                    go_meet
                    exact ⟨(seq + 1), 0, now', now', cN', cs2, rfl, by go_num, rfl, by omega, by omega, HF⟩
                · have hqb : ((size : Int) + 1 == 4) = false := by simpa using hq
                  have HF : Hid (OwW w w9 eb ef s pN pD n r seq (size + 1) (if size + 1 = 0 then 0 else 1) cN' cD now' done now' done) := HW3
                  clear HW3
                  go_wp2_with fail
                  go_meet
                  exact ⟨seq, size + 1, now', done, cN', cD, rfl, rfl, by go_num, by omega, by omega, HF⟩
          case rest =>
            obtain ⟨seq', size', now2, done2, cN2, cD2, rfl, rfl, rfl, hs30', hz4', HW4⟩ := hcut
            clear HW3
            go_wp2_with (first
            | (refine wpList_load_row rfl 37 _ rfl pN rfl 37 cN2 (0, 0) _ HW4.out.bN Tryz.underlying37 rfl HW4.out.infoN ?_))
            refine (o_tells HW4.out hs30' (by split <;> simp)).mono ?_
            rintro e w11 ⟨rfl, h11⟩
            have HW5 : Hid (OwW w w11 eb ef s pN pD n r seq' size' (if size' = 0 then 0 else 1) cN2 cD2 now2 done2 now2 done2) := h11
            clear h11 HW4
            go_wp2_with fail
            go_roundw
            case rel => exact ⟨k + 1, seq', size', now2, done2, cN2, cD2, by omega, rfl, rfl, rfl, by go_num, hs30', hz4', HW5⟩
            case measure => simp [intOf]; omega
    · by_cases hA : k < raws.length
      · obtain rfl : seq = 30 := by omega
        have hki : (k : Int) < raws.length := by omega
        go_upto_if 148 with fail
        go_cut [10] (fun v wx => ∃ (size2 : Nat) (st2 : Int) (now2 dR2 : Md) (cN2 : Array Value), v = I 0 ∧ (st2 = 0 ∨ st2 = 1) ∧ Hid (OwW w wx eb ef s pN pD n r 30 size2 st2 cN2 cD now2 dR2 now2 done))
        case first =>
          by_cases h0 : size = 0
          · subst h0
            have HWb : Hid (OwW w wr eb ef s pN pD n r 30 0 0 cN cD now done now done) := HW
            clear HW
            go_wp2_with fail
            go_meet
            exact ⟨0, 0, now, done, cN, rfl, .inl rfl, HWb⟩
          · have h0i : (0 : Int) < (size : Int) := by omega
            have HWb : Hid (OwW w wr eb ef s pN pD n r 30 size 1 cN cD now done now done) := by have := HW.out; rw [if_neg h0] at this; exact this
            clear HW
            go_wp2_with fail
            refine (o_abort HWb.out).mono ?_
            rintro e wk ⟨rfl, hk2⟩
            have HK : Hid (OwW w wk eb ef s pN pD n r 30 0 0 cN cD done done now done) := hk2
            have HF : Hid (OwW w (wk.setRow pN cD) eb ef s pN pD n r 30 0 0 cD cD done done done done) := hk2.setE
            have HLD : Hid (Blk wk pN cN 37 ∧ (Tryz.prog.info? 37).map (·.size) = some cD.size ∧ cN.size = cD.size ∧ cD.all (·.oneCell') = true) := ⟨hk2.bN, hk2.infoD, by rw [hk2.mN.size, hk2.mD.size], hk2.mD.one⟩
            clear hk2 HWb
            go_wp2_with (first
              | (refine wpList_load_row rfl 37 _ rfl pD rfl 37 cD (0, 0) _ HK.out.bD Tryz.underlying37 rfl HK.out.infoD ?_)
              | (refine wpList_store_row rfl 37 _ _ rfl pN cD rfl rfl 37 _ HLD.out.1 HLD.out.2.1 HLD.out.2.2.1 HLD.out.2.2.2 ?_))
            go_meet
            exact ⟨0, 0, done, done, cD, rfl, .inl rfl, HF⟩
        case rest =>
          obtain ⟨size2, st2, now2, dR2, cN2, rfl, hst2, HW4⟩ := hcut
          clear HW
          go_wp2_with (first
            | (refine wpList_load_row rfl 37 _ rfl pN rfl 37 cN2 (0, 0) _ HW4.out.bN Tryz.underlying37 rfl HW4.out.infoN ?_))
          refine (o_tells HW4.out hs30 hst2).mono ?_
          rintro e w11 ⟨rfl, h11⟩
          have HW5 : Hid (OwW w w11 eb ef s pN pD n r 30 size2 st2 cN2 cD now2 dR2 now2 done) := h11
          clear h11 HW4
          go_wp2_with fail
          refine (o_clock HW5.out).mono ?_
          rintro e w12 ⟨v12, rfl, ho12, hb12⟩
          rw [owClk_len] at ho12
          obtain ⟨g12, c12, rfl⟩ := row_some ho12 (by omega)
          have q12 : w12.cell? ⟨g12, r, none⟩ = some (I 30) := by
            have hx : ((owClk n r 30).map I)[r]? = some (I 30) := by
              rw [List.getElem?_map]
              have : (owClk n r 30)[r]? = some (30 : Int) := List.getElem?_set_self (by simpa using hrn)
              rw [this]; rfl
            have := ho12.cells (g := g12) rfl r _ hx
            rw [Addr.add_lit, Nat.zero_add] at this
            exact this
          have HBE : Hid (Below w.heap.size w w12) := HW5.out.bel.trans (hb12.mono HW5.out.bel.size)
          have hrni : (r : Int) < n := by omega
          clear ho12 hb12 HW5
          go_wp2
          go_ret
          exact ⟨rfl, HBE.out⟩
      · have hki : ¬ (k : Int) < raws.length := by omega
        go_upto_if 148 with fail
        go_cut [10] (fun v wx => ∃ (size2 : Nat) (st2 : Int) (now2 dR2 : Md) (cN2 : Array Value), v = I 0 ∧ (st2 = 0 ∨ st2 = 1) ∧ Hid (OwW w wx eb ef s pN pD n r seq size2 st2 cN2 cD now2 dR2 now2 done))
        case first =>
          by_cases h0 : size = 0
          · subst h0
            have HWb : Hid (OwW w wr eb ef s pN pD n r seq 0 0 cN cD now done now done) := HW
            clear HW
            go_wp2_with fail
            go_meet
            exact ⟨0, 0, now, done, cN, rfl, .inl rfl, HWb⟩
          · have h0i : (0 : Int) < (size : Int) := by omega
            have HWb : Hid (OwW w wr eb ef s pN pD n r seq size 1 cN cD now done now done) := by have := HW.out; rw [if_neg h0] at this; exact this
            clear HW
            go_wp2_with fail
            refine (o_abort HWb.out).mono ?_
            rintro e wk ⟨rfl, hk2⟩
            have HK : Hid (OwW w wk eb ef s pN pD n r seq 0 0 cN cD done done now done) := hk2
            have HF : Hid (OwW w (wk.setRow pN cD) eb ef s pN pD n r seq 0 0 cD cD done done done done) := hk2.setE
            have HLD : Hid (Blk wk pN cN 37 ∧ (Tryz.prog.info? 37).map (·.size) = some cD.size ∧ cN.size = cD.size ∧ cD.all (·.oneCell') = true) := ⟨hk2.bN, hk2.infoD, by rw [hk2.mN.size, hk2.mD.size], hk2.mD.one⟩
            clear hk2 HWb
            go_wp2_with (first
              | (refine wpList_load_row rfl 37 _ rfl pD rfl 37 cD (0, 0) _ HK.out.bD Tryz.underlying37 rfl HK.out.infoD ?_)
              | (refine wpList_store_row rfl 37 _ _ rfl pN cD rfl rfl 37 _ HLD.out.1 HLD.out.2.1 HLD.out.2.2.1 HLD.out.2.2.2 ?_))
            go_meet
            exact ⟨0, 0, done, done, cD, rfl, .inl rfl, HF⟩
        case rest =>
          obtain ⟨size2, st2, now2, dR2, cN2, rfl, hst2, HW4⟩ := hcut
          clear HW
          go_wp2_with (first
            | (refine wpList_load_row rfl 37 _ rfl pN rfl 37 cN2 (0, 0) _ HW4.out.bN Tryz.underlying37 rfl HW4.out.infoN ?_))
          refine (o_tells HW4.out hs30 hst2).mono ?_
          rintro e w11 ⟨rfl, h11⟩
          have HW5 : Hid (OwW w w11 eb ef s pN pD n r seq size2 st2 cN2 cD now2 dR2 now2 done) := h11
          clear h11 HW4
          go_wp2_with fail
          refine (o_clock HW5.out).mono ?_
          rintro e w12 ⟨v12, rfl, ho12, hb12⟩
          rw [owClk_len] at ho12
          obtain ⟨g12, c12, rfl⟩ := row_some ho12 (by omega)
          have q12 : w12.cell? ⟨g12, r, none⟩ = some (I seq) := by
            have hx : ((owClk n r seq).map I)[r]? = some (I seq) := by
              rw [List.getElem?_map]
              have : (owClk n r seq)[r]? = some (seq : Int) := List.getElem?_set_self (by simpa using hrn)
              rw [this]; rfl
            have := ho12.cells (g := g12) rfl r _ hx
            rw [Addr.add_lit, Nat.zero_add] at this
            exact this
          have HBE : Hid (Below w.heap.size w w12) := HW5.out.bel.trans (hb12.mono HW5.out.bel.size)
          have hrni : (r : Int) < n := by omega
          clear ho12 hb12 HW5
          go_wp2
          go_ret
          exact ⟨rfl, HBE.out⟩

end Go.Proofs.YtfmcngncaffloaaGreatDoor
