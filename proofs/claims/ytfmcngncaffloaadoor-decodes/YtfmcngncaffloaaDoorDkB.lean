import Derived.Test.YtfmcngncaffloaaDoorDkA
import Derived.Test.YtfmcngncaffloaaDoorGlob
import Derived.Deep.QuietTactic
import Derived.BigQuiet
import Derived.LaidEql
import Derived.Stop.Asserts
import Derived.RowKitTokens
import Derived.Test.YtfmcngncaffloaaDoorRdrA
import Derived.Test.YtfmcngncaffloaaDoorSaid
import Derived.Deep.RegionHeld3
namespace Go.Proofs.YtfmcngncaffloaaDoor
open Go.RowKit
set_option maxRecDepth 100000

set_option maxHeartbeats 1600000 in
theorem fdec_none (l : List UInt8) (w : World) (eb ef : Addr) (_hI : ItoaSaid) (gl : Gl w eb ef) (hp : Pw w) (g0 : Gd w) (ho : opens l) (hq0 : (Wv.batF true (Wv.body l) (some 2)).2 = none) :
    Calls Tryd.prog 26 #[.string ⟨l.toArray⟩] w fun e w' => (∃ n y, e = .returned (.tuple #[zeroBat, FltF n y])) ∧ Below w.heap.size w w' := by
  have HA : Hid (Below w.heap.size w (w.alloc (.cells #[.int .i64 0, .int .i64 0, .int .i64 0, .slice none 0 0, .slice none 0 0] 25))) := (Below.refl _ _).alloc (Nat.le_refl _) _
  have HK : Hid (Blk (w.alloc (.cells #[.int .i64 0, .int .i64 0, .int .i64 0, .slice none 0 0, .slice none 0 0] 25)) w.heap.size #[.int .i64 0, .int .i64 0, .int .i64 0, .slice none 0 0, .slice none 0 0] 25) := heap_alloc_new w _
  have G0 : Hid (Gd (w.alloc (.cells #[.int .i64 0, .int .i64 0, .int .i64 0, .slice none 0 0, .slice none 0 0] 25))) := g0.kept HA.out
  have GL : Hid (Gl (w.alloc (.cells #[.int .i64 0, .int .i64 0, .int .i64 0, .slice none 0 0, .slice none 0 0] 25)) eb ef) := gl.kept HA.out
  have HPW : Hid (Pw (w.alloc (.cells #[.int .i64 0, .int .i64 0, .int .i64 0, .slice none 0 0, .slice none 0 0] 25))) := hp.kept HA.out
  have HO : Hid (opens l) := ho
  have hcl : (Wv.body l).length ≤ 9223372036854775807 := by have := ho.2.1; have := (Wv.num2_le l).2; rw [Wv.body_len]; omega
  have HQ : Hid ((Wv.batF true (Wv.body l) (some 2)).2 = none) := hq0
  clear hq0
  have HLE : Hid (∀ k, (Wv.batF true (Wv.body l) (some 2)).2 = some k → k ≤ (Wv.body l).length) := fun k h => Wv.batF_le h
  generalize hc : Wv.body l = c at *
  have HC : Hid (Wv.body l = c) := hc
  clear g0 ho gl hp hc
  go_enter Tryd.func26, Tryd.ntmps26
  go_wp2_with fail
  generalize w.alloc (.cells #[.int .i64 0, .int .i64 0, .int .i64 0, .slice none 0 0, .slice none 0 0] 25) = wA at *
  refine (fopen_yes l wA G0.out HO.out).mono ?_
  rintro e w1 ⟨rfl, hR1, hb1⟩
  rw [HC.out] at hR1
  have HR1 : Hid (Rd w1 wA.heap.size c (some 2)) := hR1
  have HB1 : Hid (Below wA.heap.size wA w1) := hb1
  have HK1 : Hid (Blk w1 w.heap.size #[.int .i64 0, .int .i64 0, .int .i64 0, .slice none 0 0, .slice none 0 0] 25) := HK.out.kept hb1 HK.out.lt
  have hwA : w.heap.size < wA.heap.size := HK.out.lt
  clear hR1 hb1 HK
  go_wp2_with fail
  refine (rbat_any c (some 2) wA.heap.size w1 wA eb ef GL.out G0.out HB1.out (Nat.le_refl _) HR1.out hcl).mono ?_
  rintro e w2 ⟨ca, ea, cc, ec, ms, rfl, hef, hOb, hR2, hG2⟩
  have hsz1 : wA.heap.size < w1.heap.size := HR1.out.lt
  have HB2 : Hid (Below wA.heap.size wA w2) := below_g HB1.out hG2 (Nat.le_refl _)
  have HK2 : Hid (Blk w2 w.heap.size #[.int .i64 0, .int .i64 0, .int .i64 0, .slice none 0 0, .slice none 0 0] 25) := HK1.out.grown hG2 (by simp; omega)
  generalize Wv.batF true c (some 2) = bq at *
  have HR2 : Hid (Rd w2 wA.heap.size c bq.2) := hR2
  have HOb : Hid (Ob w2 w1.heap.size (.slice ca bq.1.clock.length cc) (.slice ea bq.1.effs.length ec) bq.1.clock ms) := hOb
  have HEF : Hid (bq.1.effs = ms.map (·.e)) := hef
  have hs2 : w1.heap.size ≤ w2.heap.size := hG2.size
  clear hR2 hG2 hOb hef HR1 HB1 HK1
  go_wp2_with fail
  have DB : Hid (Dw w wA (w2.alloc (.cells #[I bq.1.o, I bq.1.s, I bq.1.t, .slice ca bq.1.clock.length cc, .slice ea bq.1.effs.length ec] 25)) w2.heap.size w1.heap.size bq.1 ca ea cc ec ms) := ⟨HB2.out.alloc (by omega) _, HK2.out.alloc _, heap_alloc_new w2 _, HOb.out.kept (fun b h1 _ => Below.heap_alloc w2 _ b h1), hwA, hsz1, by omega⟩
  have RB : Hid (Rd (w2.alloc (.cells #[I bq.1.o, I bq.1.s, I bq.1.t, .slice ca bq.1.clock.length cc, .slice ea bq.1.effs.length ec] 25)) wA.heap.size c bq.2) := HR2.out.alloc _
  generalize w2.alloc (.cells #[I bq.1.o, I bq.1.s, I bq.1.t, .slice ca bq.1.clock.length cc, .slice ea bq.1.effs.length ec] 25) = wB at *
  clear HR2 HOb HK2 HB2
  have hcs := str_size c
  obtain ⟨ad, ha⟩ := (G0.out.kept DB.out.below).rest
  have hz := lt_of_cell ha
  have hq := HQ.out
  rw [hq] at RB
  obtain ⟨a0, n0, y0, hX⟩ := RB.out
  have c0 : wB.cell? ⟨wA.heap.size, 0, none⟩ = some (.string ⟨c.toArray⟩) := hX.cell 0
  have c1 : wB.cell? ⟨wA.heap.size, 1, none⟩ = some (I a0) := hX.cell 1
  by_cases hal : a0 < (c.length : Int)
  · go_quiet (fail)
    go_wp2_with fail
    have DX : Hid (Dw w wA (wB.drewN nq) w2.heap.size w1.heap.size bq.1 ca ea cc ec ms) := DB.out.drewN nq
    have RX : Hid (Rd (wB.drewN nq) wA.heap.size c none) := RB.out.drewN nq
    clear DB RB hX c0 c1 ha hz hq
    generalize wB.drewN nq = wX at *
    refine (fail_none c wA.heap.size _ wX RX.out).mono ?_
    rintro e w3 ⟨rfl, ⟨a, n, y, hX⟩, hG⟩
    have HX : Hid (Blk w3 wA.heap.size #[.string ⟨c.toArray⟩, I a, FltF n y] 84) := hX
    have D3 : Hid (Dw w wA w3 w2.heap.size w1.heap.size bq.1 ca ea cc ec ms) := DX.out.read hG
    clear hX hG
    have c2 : w3.cell? ⟨wA.heap.size, 2, none⟩ = some (FltF n y) := HX.out.cell 2
    have k0 : w3.cell? ⟨w.heap.size, 0, none⟩ = some (.int .i64 0) := D3.out.kR.cell 0
    have z0 := D3.out.kR.frozen 0
    have k1 : w3.cell? ⟨w.heap.size, 1, none⟩ = some (.int .i64 0) := D3.out.kR.cell 1
    have z1 := D3.out.kR.frozen 1
    have k2 : w3.cell? ⟨w.heap.size, 2, none⟩ = some (.int .i64 0) := D3.out.kR.cell 2
    have z2 := D3.out.kR.frozen 2
    have k3 : w3.cell? ⟨w.heap.size, 3, none⟩ = some (.slice none 0 0) := D3.out.kR.cell 3
    have z3 := D3.out.kR.frozen 3
    have k4 : w3.cell? ⟨w.heap.size, 4, none⟩ = some (.slice none 0 0) := D3.out.kR.cell 4
    have z4 := D3.out.kR.frozen 4
    have HBw : Hid (Below w.heap.size w w3) := HA.out.trans (D3.out.below.mono HA.out.size)
    have HKw : Hid (Blk w3 w.heap.size #[.int .i64 0, .int .i64 0, .int .i64 0, .slice none 0 0, .slice none 0 0] 25) := D3.out.kR
    go_wp2
    go_region
    all_goals
      (go_wp2
       have HF : Hid (Blk (put5 w3 w.heap.size (.int .i64 0) (.int .i64 0) (.int .i64 0) (.slice none 0 0) (.slice none 0 0)).drew w.heap.size #[.int .i64 0, .int .i64 0, .int .i64 0, .slice none 0 0, .slice none 0 0] 25) := put5_blk HKw.out _ _ _ _ _
       have HY : Hid (Below w.heap.size w (put5 w3 w.heap.size (.int .i64 0) (.int .i64 0) (.int .i64 0) (.slice none 0 0) (.slice none 0 0)).drew) := (((((HBw.out.setCell (Nat.le_refl _) _).setCell (Nat.le_refl _) _).setCell (Nat.le_refl _) _).setCell (Nat.le_refl _) _).setCell (Nat.le_refl _) _).drew
       unfold put5 at HF HY
       generalize (((((w3.setCell ⟨w.heap.size, 0, none⟩ (.int .i64 0)).setCell ⟨w.heap.size, 1, none⟩ (.int .i64 0)).setCell ⟨w.heap.size, 2, none⟩ (.int .i64 0)).setCell ⟨w.heap.size, 3, none⟩ (.slice none 0 0)).setCell ⟨w.heap.size, 4, none⟩ (.slice none 0 0)).drew = wF at *
       have f0 : wF.cell? ⟨w.heap.size, 0, none⟩ = some (.int .i64 0) := HF.out.cell 0
       have f1 : wF.cell? ⟨w.heap.size, 1, none⟩ = some (.int .i64 0) := HF.out.cell 1
       have f2 : wF.cell? ⟨w.heap.size, 2, none⟩ = some (.int .i64 0) := HF.out.cell 2
       have f3 : wF.cell? ⟨w.heap.size, 3, none⟩ = some (.slice none 0 0) := HF.out.cell 3
       have f4 : wF.cell? ⟨w.heap.size, 4, none⟩ = some (.slice none 0 0) := HF.out.cell 4
       refine bodyPost_ret (v := .tuple #[zeroBat, FltF n y]) (by simp [results, Tryd.results26, go_sem, f0, f1, f2, f3, f4]) rfl ⟨⟨_, _, rfl⟩, HY.out⟩)
  · go_quiet (fail)
    have DX : Hid (Dw w wA (wB.drewN nq) w2.heap.size w1.heap.size bq.1 ca ea cc ec ms) := DB.out.drewN nq
    have RX : Hid (Rd (wB.drewN nq) wA.heap.size c none) := RB.out.drewN nq
    clear DB RB hX c0 c1 ha hz hq
    generalize wB.drewN nq = wX at *
    obtain ⟨a, n, y, hX⟩ := RX.out
    have HX : Hid (Blk wX wA.heap.size #[.string ⟨c.toArray⟩, I a, FltF n y] 84) := hX
    clear hX
    have c2 : wX.cell? ⟨wA.heap.size, 2, none⟩ = some (FltF n y) := HX.out.cell 2
    have k0 : wX.cell? ⟨w.heap.size, 0, none⟩ = some (.int .i64 0) := DX.out.kR.cell 0
    have z0 := DX.out.kR.frozen 0
    have k1 : wX.cell? ⟨w.heap.size, 1, none⟩ = some (.int .i64 0) := DX.out.kR.cell 1
    have z1 := DX.out.kR.frozen 1
    have k2 : wX.cell? ⟨w.heap.size, 2, none⟩ = some (.int .i64 0) := DX.out.kR.cell 2
    have z2 := DX.out.kR.frozen 2
    have k3 : wX.cell? ⟨w.heap.size, 3, none⟩ = some (.slice none 0 0) := DX.out.kR.cell 3
    have z3 := DX.out.kR.frozen 3
    have k4 : wX.cell? ⟨w.heap.size, 4, none⟩ = some (.slice none 0 0) := DX.out.kR.cell 4
    have z4 := DX.out.kR.frozen 4
    have HBw : Hid (Below w.heap.size w wX) := HA.out.trans (DX.out.below.mono HA.out.size)
    have HKw : Hid (Blk wX w.heap.size #[.int .i64 0, .int .i64 0, .int .i64 0, .slice none 0 0, .slice none 0 0] 25) := DX.out.kR
    go_wp2
    go_region
    all_goals
      (go_wp2
       have HF : Hid (Blk (put5 wX w.heap.size (.int .i64 0) (.int .i64 0) (.int .i64 0) (.slice none 0 0) (.slice none 0 0)).drew w.heap.size #[.int .i64 0, .int .i64 0, .int .i64 0, .slice none 0 0, .slice none 0 0] 25) := put5_blk HKw.out _ _ _ _ _
       have HY : Hid (Below w.heap.size w (put5 wX w.heap.size (.int .i64 0) (.int .i64 0) (.int .i64 0) (.slice none 0 0) (.slice none 0 0)).drew) := (((((HBw.out.setCell (Nat.le_refl _) _).setCell (Nat.le_refl _) _).setCell (Nat.le_refl _) _).setCell (Nat.le_refl _) _).setCell (Nat.le_refl _) _).drew
       unfold put5 at HF HY
       generalize (((((wX.setCell ⟨w.heap.size, 0, none⟩ (.int .i64 0)).setCell ⟨w.heap.size, 1, none⟩ (.int .i64 0)).setCell ⟨w.heap.size, 2, none⟩ (.int .i64 0)).setCell ⟨w.heap.size, 3, none⟩ (.slice none 0 0)).setCell ⟨w.heap.size, 4, none⟩ (.slice none 0 0)).drew = wF at *
       have f0 : wF.cell? ⟨w.heap.size, 0, none⟩ = some (.int .i64 0) := HF.out.cell 0
       have f1 : wF.cell? ⟨w.heap.size, 1, none⟩ = some (.int .i64 0) := HF.out.cell 1
       have f2 : wF.cell? ⟨w.heap.size, 2, none⟩ = some (.int .i64 0) := HF.out.cell 2
       have f3 : wF.cell? ⟨w.heap.size, 3, none⟩ = some (.slice none 0 0) := HF.out.cell 3
       have f4 : wF.cell? ⟨w.heap.size, 4, none⟩ = some (.slice none 0 0) := HF.out.cell 4
       refine bodyPost_ret (v := .tuple #[zeroBat, FltF n y]) (by simp [results, Tryd.results26, go_sem, f0, f1, f2, f3, f4]) rfl ⟨⟨_, _, rfl⟩, HY.out⟩)

end Go.Proofs.YtfmcngncaffloaaDoor

namespace Go.Proofs.YtfmcngncaffloaaDoor
open Go.RowKit
set_option maxRecDepth 100000

set_option maxHeartbeats 1600000 in
theorem fdec_rest (l : List UInt8) (w : World) (eb ef : Addr) (_hI : ItoaSaid) (gl : Gl w eb ef) (hp : Pw w) (g0 : Gd w) (ho : opens l) (k : Nat) (hk : k < (Wv.body l).length) (hq0 : (Wv.batF true (Wv.body l) (some 2)).2 = some k) :
    Calls Tryd.prog 26 #[.string ⟨l.toArray⟩] w fun e w' => (∃ n y, e = .returned (.tuple #[zeroBat, FltF n y])) ∧ Below w.heap.size w w' := by
  have HA : Hid (Below w.heap.size w (w.alloc (.cells #[.int .i64 0, .int .i64 0, .int .i64 0, .slice none 0 0, .slice none 0 0] 25))) := (Below.refl _ _).alloc (Nat.le_refl _) _
  have HK : Hid (Blk (w.alloc (.cells #[.int .i64 0, .int .i64 0, .int .i64 0, .slice none 0 0, .slice none 0 0] 25)) w.heap.size #[.int .i64 0, .int .i64 0, .int .i64 0, .slice none 0 0, .slice none 0 0] 25) := heap_alloc_new w _
  have G0 : Hid (Gd (w.alloc (.cells #[.int .i64 0, .int .i64 0, .int .i64 0, .slice none 0 0, .slice none 0 0] 25))) := g0.kept HA.out
  have GL : Hid (Gl (w.alloc (.cells #[.int .i64 0, .int .i64 0, .int .i64 0, .slice none 0 0, .slice none 0 0] 25)) eb ef) := gl.kept HA.out
  have HPW : Hid (Pw (w.alloc (.cells #[.int .i64 0, .int .i64 0, .int .i64 0, .slice none 0 0, .slice none 0 0] 25))) := hp.kept HA.out
  have HO : Hid (opens l) := ho
  have hcl : (Wv.body l).length ≤ 9223372036854775807 := by have := ho.2.1; have := (Wv.num2_le l).2; rw [Wv.body_len]; omega
  have HQ : Hid ((Wv.batF true (Wv.body l) (some 2)).2 = some k) := hq0
  clear hq0
  have HLE : Hid (∀ k, (Wv.batF true (Wv.body l) (some 2)).2 = some k → k ≤ (Wv.body l).length) := fun k h => Wv.batF_le h
  generalize hc : Wv.body l = c at *
  have HC : Hid (Wv.body l = c) := hc
  clear g0 ho gl hp hc
  go_enter Tryd.func26, Tryd.ntmps26
  go_wp2_with fail
  generalize w.alloc (.cells #[.int .i64 0, .int .i64 0, .int .i64 0, .slice none 0 0, .slice none 0 0] 25) = wA at *
  refine (fopen_yes l wA G0.out HO.out).mono ?_
  rintro e w1 ⟨rfl, hR1, hb1⟩
  rw [HC.out] at hR1
  have HR1 : Hid (Rd w1 wA.heap.size c (some 2)) := hR1
  have HB1 : Hid (Below wA.heap.size wA w1) := hb1
  have HK1 : Hid (Blk w1 w.heap.size #[.int .i64 0, .int .i64 0, .int .i64 0, .slice none 0 0, .slice none 0 0] 25) := HK.out.kept hb1 HK.out.lt
  have hwA : w.heap.size < wA.heap.size := HK.out.lt
  clear hR1 hb1 HK
  go_wp2_with fail
  refine (rbat_any c (some 2) wA.heap.size w1 wA eb ef GL.out G0.out HB1.out (Nat.le_refl _) HR1.out hcl).mono ?_
  rintro e w2 ⟨ca, ea, cc, ec, ms, rfl, hef, hOb, hR2, hG2⟩
  have hsz1 : wA.heap.size < w1.heap.size := HR1.out.lt
  have HB2 : Hid (Below wA.heap.size wA w2) := below_g HB1.out hG2 (Nat.le_refl _)
  have HK2 : Hid (Blk w2 w.heap.size #[.int .i64 0, .int .i64 0, .int .i64 0, .slice none 0 0, .slice none 0 0] 25) := HK1.out.grown hG2 (by simp; omega)
  generalize Wv.batF true c (some 2) = bq at *
  have HR2 : Hid (Rd w2 wA.heap.size c bq.2) := hR2
  have HOb : Hid (Ob w2 w1.heap.size (.slice ca bq.1.clock.length cc) (.slice ea bq.1.effs.length ec) bq.1.clock ms) := hOb
  have HEF : Hid (bq.1.effs = ms.map (·.e)) := hef
  have hs2 : w1.heap.size ≤ w2.heap.size := hG2.size
  clear hR2 hG2 hOb hef HR1 HB1 HK1
  go_wp2_with fail
  have DB : Hid (Dw w wA (w2.alloc (.cells #[I bq.1.o, I bq.1.s, I bq.1.t, .slice ca bq.1.clock.length cc, .slice ea bq.1.effs.length ec] 25)) w2.heap.size w1.heap.size bq.1 ca ea cc ec ms) := ⟨HB2.out.alloc (by omega) _, HK2.out.alloc _, heap_alloc_new w2 _, HOb.out.kept (fun b h1 _ => Below.heap_alloc w2 _ b h1), hwA, hsz1, by omega⟩
  have RB : Hid (Rd (w2.alloc (.cells #[I bq.1.o, I bq.1.s, I bq.1.t, .slice ca bq.1.clock.length cc, .slice ea bq.1.effs.length ec] 25)) wA.heap.size c bq.2) := HR2.out.alloc _
  generalize w2.alloc (.cells #[I bq.1.o, I bq.1.s, I bq.1.t, .slice ca bq.1.clock.length cc, .slice ea bq.1.effs.length ec] 25) = wB at *
  clear HR2 HOb HK2 HB2
  have hcs := str_size c
  obtain ⟨ad, ha⟩ := (G0.out.kept DB.out.below).rest
  have hz := lt_of_cell ha
  have hq := HQ.out
  rw [hq] at RB
  have hX : Blk wB wA.heap.size #[.string ⟨c.toArray⟩, I k, .nilIface] 84 := RB.out
  have c0 : wB.cell? ⟨wA.heap.size, 0, none⟩ = some (.string ⟨c.toArray⟩) := hX.cell 0
  have c1 : wB.cell? ⟨wA.heap.size, 1, none⟩ = some (I k) := hX.cell 1
  go_quiet (fail)
  go_wp2_with fail
  have DX : Hid (Dw w wA (wB.drewN nq) w2.heap.size w1.heap.size bq.1 ca ea cc ec ms) := DB.out.drewN nq
  have RX : Hid (Rd (wB.drewN nq) wA.heap.size c (some k)) := RB.out.drewN nq
  clear DB RB hX c0 c1 ha hz hq
  generalize wB.drewN nq = wX at *
  refine (fail_some c k wA.heap.size _ _ wX RX.out).mono ?_
  rintro e w3 ⟨rfl, ⟨a, n, y, hX⟩, hG⟩
  have HX : Hid (Blk w3 wA.heap.size #[.string ⟨c.toArray⟩, I a, FltF n y] 84) := hX
  have D3 : Hid (Dw w wA w3 w2.heap.size w1.heap.size bq.1 ca ea cc ec ms) := DX.out.read hG
  clear hX hG
  have c2 : w3.cell? ⟨wA.heap.size, 2, none⟩ = some (FltF n y) := HX.out.cell 2
  have k0 : w3.cell? ⟨w.heap.size, 0, none⟩ = some (.int .i64 0) := D3.out.kR.cell 0
  have z0 := D3.out.kR.frozen 0
  have k1 : w3.cell? ⟨w.heap.size, 1, none⟩ = some (.int .i64 0) := D3.out.kR.cell 1
  have z1 := D3.out.kR.frozen 1
  have k2 : w3.cell? ⟨w.heap.size, 2, none⟩ = some (.int .i64 0) := D3.out.kR.cell 2
  have z2 := D3.out.kR.frozen 2
  have k3 : w3.cell? ⟨w.heap.size, 3, none⟩ = some (.slice none 0 0) := D3.out.kR.cell 3
  have z3 := D3.out.kR.frozen 3
  have k4 : w3.cell? ⟨w.heap.size, 4, none⟩ = some (.slice none 0 0) := D3.out.kR.cell 4
  have z4 := D3.out.kR.frozen 4
  have HBw : Hid (Below w.heap.size w w3) := HA.out.trans (D3.out.below.mono HA.out.size)
  have HKw : Hid (Blk w3 w.heap.size #[.int .i64 0, .int .i64 0, .int .i64 0, .slice none 0 0, .slice none 0 0] 25) := D3.out.kR
  go_wp2
  go_region
  all_goals
    (go_wp2
     have HF : Hid (Blk (put5 w3 w.heap.size (.int .i64 0) (.int .i64 0) (.int .i64 0) (.slice none 0 0) (.slice none 0 0)).drew w.heap.size #[.int .i64 0, .int .i64 0, .int .i64 0, .slice none 0 0, .slice none 0 0] 25) := put5_blk HKw.out _ _ _ _ _
     have HY : Hid (Below w.heap.size w (put5 w3 w.heap.size (.int .i64 0) (.int .i64 0) (.int .i64 0) (.slice none 0 0) (.slice none 0 0)).drew) := (((((HBw.out.setCell (Nat.le_refl _) _).setCell (Nat.le_refl _) _).setCell (Nat.le_refl _) _).setCell (Nat.le_refl _) _).setCell (Nat.le_refl _) _).drew
     unfold put5 at HF HY
     generalize (((((w3.setCell ⟨w.heap.size, 0, none⟩ (.int .i64 0)).setCell ⟨w.heap.size, 1, none⟩ (.int .i64 0)).setCell ⟨w.heap.size, 2, none⟩ (.int .i64 0)).setCell ⟨w.heap.size, 3, none⟩ (.slice none 0 0)).setCell ⟨w.heap.size, 4, none⟩ (.slice none 0 0)).drew = wF at *
     have f0 : wF.cell? ⟨w.heap.size, 0, none⟩ = some (.int .i64 0) := HF.out.cell 0
     have f1 : wF.cell? ⟨w.heap.size, 1, none⟩ = some (.int .i64 0) := HF.out.cell 1
     have f2 : wF.cell? ⟨w.heap.size, 2, none⟩ = some (.int .i64 0) := HF.out.cell 2
     have f3 : wF.cell? ⟨w.heap.size, 3, none⟩ = some (.slice none 0 0) := HF.out.cell 3
     have f4 : wF.cell? ⟨w.heap.size, 4, none⟩ = some (.slice none 0 0) := HF.out.cell 4
     refine bodyPost_ret (v := .tuple #[zeroBat, FltF n y]) (by simp [results, Tryd.results26, go_sem, f0, f1, f2, f3, f4]) rfl ⟨⟨_, _, rfl⟩, HY.out⟩)

end Go.Proofs.YtfmcngncaffloaaDoor

namespace Go.Proofs.YtfmcngncaffloaaDoor
open Go.RowKit
set_option maxRecDepth 100000

theorem fdec_refuse (l : List UInt8) (w : World) (eb ef : Addr) (hI : ItoaSaid) (gl : Gl w eb ef) (hp : Pw w) (g0 : Gd w) (hlen : l.length ≤ 9223372036854775807) (h : Wv.dec l = none) :
    Calls Tryd.prog 26 #[.string ⟨l.toArray⟩] w fun e w' => (∃ n y, e = .returned (.tuple #[zeroBat, FltF n y])) ∧ Below w.heap.size w w' := by
  by_cases ho : opens l
  · have h2 : Wv.decC true (Wv.body l) = none := by
      unfold Wv.dec at h
      split at h
      · exact h
      · exact absurd ho ‹_›
    cases hq : (Wv.batF true (Wv.body l) (some 2)).2 with
    | none => exact fdec_none l w eb ef hI gl hp g0 ho hq
    | some k =>
      by_cases hk : k < (Wv.body l).length
      · exact fdec_rest l w eb ef hI gl hp g0 ho k hk hq
      · have hle := Wv.batF_le hq
        obtain rfl : k = (Wv.body l).length := by omega
        refine fdec_no l w eb ef hI gl hp g0 ho hq ?_
        cases hb : Wv.isB (Wv.batF true (Wv.body l) (some 2)).1 with
        | false => rfl
        | true =>
          unfold Wv.decC at h2
          rw [if_pos ⟨hq, hb⟩] at h2
          cases h2
  · exact fdec_closed l w g0 hlen ho
theorem fdec_take (l : List UInt8) (b : Wv.Bt) (w : World) (eb ef : Addr) (hI : ItoaSaid) (gl : Gl w eb ef) (hp : Pw w) (g0 : Gd w) (h : Wv.dec l = some b) :
    Calls Tryd.prog 26 #[.string ⟨l.toArray⟩] w fun e w' => (∃ ca ea cc ec ms, e = .returned (.tuple #[bV b ca ea cc ec, .nilIface]) ∧ b.effs = ms.map (·.e) ∧ Ob w' w.heap.size (.slice ca b.clock.length cc) (.slice ea b.effs.length ec) b.clock ms) ∧ Below w.heap.size w w' := by
  unfold Wv.dec at h
  split at h
  · rename_i ho
    unfold Wv.decC at h
    split at h
    · rename_i hq
      cases h
      exact fdec_yes l w eb ef hI gl hp g0 ho hq.1 hq.2
    · cases h
  · cases h

end Go.Proofs.YtfmcngncaffloaaDoor

namespace Go.Proofs.YtfmcngncaffloaaDoor
open Go.RowKit Go.Extern.Stop Go.Stop Go.Extern
set_option maxRecDepth 100000

theorem isTypeOf (v : Value) (w : World) : (Extern.ReflectliteType.typeOf #[.iface 149 v]).run Tryd.prog w = .ok (.iface 120 (.agg #[.pointer (some ⟨10, 149, none⟩)])) w := by kernel_rfl
def cmpE : Array Value → Sem Value := Extern.ReflectliteType.method fun t => do Extern.Rtype.noPackHeld "Comparable" t; pure (.bool (← typeInfo t).comparable)
theorem isComparable (w : World) : (cmpE #[.agg #[.pointer (some ⟨10, 149, none⟩)]]).run Tryd.prog w = .ok (.bool true) w := by kernel_rfl
theorem isComp : (Tryd.prog.info? 149).map (·.comparable) = some true := by kernel_rfl
theorem isSize : (Tryd.prog.info? 173).map (·.size) = some 1 := by kernel_rfl

theorem noIsF (v : Value) (xT : TypeId) (w : World) : (Instr.typeAssert (.iface 91 v) xT 122 true).run Tryd.prog w = .ok (.tuple #[.nilIface, .bool false]) w := run_typeAssert_lacksB Tryd.underlying122 (by kernel_rfl) (by kernel_rfl) v xT w
theorem hasUnwrapF (v : Value) (xT : TypeId) (w : World) : (Instr.typeAssert (.iface 91 v) xT 125 true).run Tryd.prog w = .ok (.tuple #[.iface 91 v, .bool true]) w := run_typeAssert_hasB Tryd.underlying125 (by kernel_rfl) v xT w
theorem noIsE (v : Value) (xT : TypeId) (w : World) : (Instr.typeAssert (.iface 149 v) xT 122 true).run Tryd.prog w = .ok (.tuple #[.nilIface, .bool false]) w := run_typeAssert_lacksB Tryd.underlying122 (by kernel_rfl) (by kernel_rfl) v xT w
theorem noUnwrapE (v : Value) (xT : TypeId) (w : World) : (Instr.typeAssert (.iface 149 v) xT 125 true).run Tryd.prog w = .ok (.tuple #[.nilIface, .bool false]) w := run_typeAssert_lacksB Tryd.underlying125 (by kernel_rfl) (by kernel_rfl) v xT w
theorem noUnwrapsE (v : Value) (xT : TypeId) (w : World) : (Instr.typeAssert (.iface 149 v) xT 127 true).run Tryd.prog w = .ok (.tuple #[.nilIface, .bool false]) w := run_typeAssert_lacksB Tryd.underlying127 (by kernel_rfl) (by kernel_rfl) v xT w

set_option maxHeartbeats 1600000 in
theorem is_fault (s : ByteArray) (a b : Addr) (ca cb : Array Value) (ta tb : TypeId) (w : World) (hne : a ≠ b) (ha : w.heap[a.block]? = some (.cells ca ta (0, 0))) (hb : w.heap[b.block]? = some (.cells cb tb (0, 0))) :
    Calls Tryd.prog 37 #[Flt s (Sent a), Sent b] w fun e w' => e = .returned (.bool false) ∧ Below w.heap.size w w' := by
  obtain ⟨i, hi, hcmp⟩ := Option.map_eq_some_iff.1 isComp
  obtain ⟨j, hj, hjs⟩ := Option.map_eq_some_iff.1 isSize
  have h8 := @run_callFunc_extern Tryd.prog 52 _ Extern.ReflectliteType.typeOf Tryd.func52 (by kernel_rfl) (by kernel_rfl) (by kernel_rfl) (by kernel_rfl)
  have h32 := @run_callFunc_extern Tryd.prog 109 _ cmpE Tryd.func109 (by kernel_rfl) (by kernel_rfl) (by kernel_rfl) (by kernel_rfl)
  have tT := isTypeOf
  have cT := isComparable
  have nE := noIsE
  have uE := noUnwrapE
  have vE := noUnwrapsE
  have nW := noIsF
  have uW := hasUnwrapF
  have hty := run_eql_iface_types (P := Tryd.prog) 91 149 (.agg #[.string s, Sent a]) (.pointer (some b)) Tryd.underlying55 (by decide) w
  have heq := run_eql_iface_ptr_other (P := Tryd.prog) (w.alloc (.cells #[.string s, Sent a] 91)) Tryd.underlying55 Tryd.underlying149 hi hcmp hj (by rw [hjs]; decide) hne (heap_new ha _) (heap_new hb _)
  clear ha hb hne hi hcmp hj hjs
  go_enter Tryd.func37, Tryd.ntmps37
  go_wp2
  refine wp_loop_rounds 2 ?_
  rw [rounds_succ]
  go_wp2
  rw [rounds_succ]
  go_wp2
  go_ret
  exact ⟨rfl, (Below.refl _ _).alloc (Nat.le_refl _) _⟩

set_option maxHeartbeats 3200000 in
theorem is_fault2 (s t : ByteArray) (a b : Addr) (ca cb : Array Value) (ta tb : TypeId) (w : World) (hne : a ≠ b) (ha : w.heap[a.block]? = some (.cells ca ta (0, 0))) (hb : w.heap[b.block]? = some (.cells cb tb (0, 0))) :
    Calls Tryd.prog 37 #[Flt s (Flt t (Sent a)), Sent b] w fun e w' => e = .returned (.bool false) ∧ Below w.heap.size w w' := by
  obtain ⟨i, hi, hcmp⟩ := Option.map_eq_some_iff.1 isComp
  obtain ⟨j, hj, hjs⟩ := Option.map_eq_some_iff.1 isSize
  have h8 := @run_callFunc_extern Tryd.prog 52 _ Extern.ReflectliteType.typeOf Tryd.func52 (by kernel_rfl) (by kernel_rfl) (by kernel_rfl) (by kernel_rfl)
  have h32 := @run_callFunc_extern Tryd.prog 109 _ cmpE Tryd.func109 (by kernel_rfl) (by kernel_rfl) (by kernel_rfl) (by kernel_rfl)
  have tT := isTypeOf
  have cT := isComparable
  have nE := noIsE
  have uE := noUnwrapE
  have vE := noUnwrapsE
  have nW := noIsF
  have uW := hasUnwrapF
  have hty := run_eql_iface_types (P := Tryd.prog) 91 149 (.agg #[.string s, Flt t (Sent a)]) (.pointer (some b)) Tryd.underlying55 (by decide) w
  have hty2 := run_eql_iface_types (P := Tryd.prog) 91 149 (.agg #[.string t, Sent a]) (.pointer (some b)) Tryd.underlying55 (by decide) (w.alloc (.cells #[.string s, Flt t (Sent a)] 91))
  have heq := run_eql_iface_ptr_other (P := Tryd.prog) ((w.alloc (.cells #[.string s, Flt t (Sent a)] 91)).alloc (.cells #[.string t, Sent a] 91)) Tryd.underlying55 Tryd.underlying149 hi hcmp hj (by rw [hjs]; decide) hne (heap_new (heap_new ha _) _) (heap_new (heap_new hb _) _)
  clear ha hb hne hi hcmp hj hjs
  go_enter Tryd.func37, Tryd.ntmps37
  go_wp2
  refine wp_loop_rounds 3 ?_
  rw [rounds_succ]
  go_wp2
  rw [rounds_succ]
  go_wp2
  rw [rounds_succ]
  go_wp2
  go_ret
  exact ⟨rfl, ((Below.refl _ _).alloc (Nat.le_refl _) _).alloc (by simp) _⟩

end Go.Proofs.YtfmcngncaffloaaDoor

namespace Go.Proofs.YtfmcngncaffloaaDoor
open Go.RowKit Go.Extern.Stop Go.Stop Go.Extern
set_option maxRecDepth 100000

theorem hasIsG (v : Value) (xT : TypeId) (w : World) : (Instr.typeAssert (.iface 110 v) xT 122 true).run Tryd.prog w = .ok (.tuple #[.iface 110 v, .bool true]) w := run_typeAssert_hasB Tryd.underlying122 (by kernel_rfl) v xT w

set_option maxHeartbeats 1600000 in
theorem is_frame (n : Int) (y : Value) (w : World) (eb ef : Addr) (g : Gl w eb ef) :
    Calls Tryd.prog 37 #[FltF n y, Sent ef] w fun e w' => e = .returned (.bool true) ∧ Below w.heap.size w w' := by
  obtain ⟨i, hi, hcmp⟩ := Option.map_eq_some_iff.1 isComp
  obtain ⟨j, hj, hjs⟩ := Option.map_eq_some_iff.1 isSize
  have h8 := @run_callFunc_extern Tryd.prog 52 _ Extern.ReflectliteType.typeOf Tryd.func52 (by kernel_rfl) (by kernel_rfl) (by kernel_rfl) (by kernel_rfl)
  have h32 := @run_callFunc_extern Tryd.prog 109 _ cmpE Tryd.func109 (by kernel_rfl) (by kernel_rfl) (by kernel_rfl) (by kernel_rfl)
  have tT := isTypeOf
  have cT := isComparable
  have nW := hasIsG
  have hF := g.errFrame
  have hz := lt_of_cell hF
  have hty := run_eql_iface_types (P := Tryd.prog) 110 149 (.agg #[I n, y]) (.pointer (some ef)) Tryd.underlying55 (by decide) w
  have heq : ∀ w1 : World, _ := fun w1 => run_eql_iface_ptr_same (P := Tryd.prog) (w := w1) ef Tryd.underlying55 Tryd.underlying149 hi hcmp hj
  clear g hi hcmp hj hjs
  go_enter Tryd.func37, Tryd.ntmps37
  go_wp2
  refine wp_loop_rounds 1 ?_
  rw [rounds_succ]
  go_wp2
  go_ret
  exact ⟨rfl, (Below.refl _ _).alloc (Nat.le_refl _) _⟩

set_option maxHeartbeats 800000 in
theorem errno_frame (n : Int) (y : Value) (w : World) (eb ef : Addr) (g : Gl w eb ef) :
    Calls Tryd.prog 21 #[FltF n y] w fun e w' => e = .returned (I 15) ∧ Below w.heap.size w w' := by
  have hF := g.errFrame
  have hz := lt_of_cell hF
  have g' : Hid (Gl w eb ef) := g
  clear g
  go_enter Tryd.func21, Tryd.ntmps21
  go_wp2_with (first | (go_at_call 37; refine (is_frame n y _ eb ef ?_).mono ?_; exact g'.out; rintro e w1 ⟨rfl, hb1⟩))
  go_ret
  exact ⟨rfl, hb1⟩

end Go.Proofs.YtfmcngncaffloaaDoor

namespace Go.Proofs.YtfmcngncaffloaaDoor
open Go.RowKit
set_option maxRecDepth 100000

set_option maxHeartbeats 400000 in
theorem errno_nil (w : World) :
    Calls Tryd.prog 21 #[.nilIface] w fun e w' => e = .returned (I 0) ∧ w' = w := by
  go_enter Tryd.func21, Tryd.ntmps21
  go_wp2
  go_ret
  exact ⟨rfl, rfl⟩

theorem is_faults (v : Value) (w : World) (eb ef : Addr) (g : Gl w eb ef) (hv : IsFault2 eb v) :
    Calls Tryd.prog 37 #[v, Sent ef] w fun e w' => e = .returned (.bool false) ∧ Below w.heap.size w w' := by
  obtain ⟨ca, ta, ha⟩ := g.atB
  obtain ⟨cb, tb, hb⟩ := g.atF
  rcases hv with ⟨s, rfl⟩ | ⟨s, t, rfl⟩
  · exact is_fault s eb ef ca cb ta tb w g.ne ha hb
  · exact is_fault2 s t eb ef ca cb ta tb w g.ne ha hb

set_option maxHeartbeats 800000 in
theorem errno_fault (T : TypeId) (x : Value) (w : World) (eb ef : Addr) (g : Gl w eb ef) (hv : IsFault2 eb (.iface T x)) :
    Calls Tryd.prog 21 #[.iface T x] w fun e w' => e = .returned (I 16) ∧ Below w.heap.size w w' := by
  have hF := g.errFrame
  have hz := lt_of_cell hF
  have g' : Hid (Gl w eb ef) := g
  have hv' : Hid (IsFault2 eb (.iface T x)) := hv
  clear g hv
  go_enter Tryd.func21, Tryd.ntmps21
  go_wp2_with (first | (go_at_call 37; refine (is_faults _ _ eb ef ?_ hv'.out).mono ?_; exact g'.out; rintro e w1 ⟨rfl, hb1⟩))
  go_ret
  exact ⟨rfl, hb1⟩

end Go.Proofs.YtfmcngncaffloaaDoor

namespace Go.Proofs.YtfmcngncaffloaaDoor
open Go.RowKit
set_option maxRecDepth 100000

set_option maxHeartbeats 1600000 in
theorem wdec_none (l : List UInt8) (w : World) (eb ef : Addr) (hI : ItoaSaid) (gl : Gl w eb ef) (hp : Pw w) (g0 : Gd w) (hlen : l.length ≤ 9223372036854775807) (h : Wv.dec l = none) :
    Calls Tryd.prog 10 #[.string ⟨l.toArray⟩] w fun e w' => e = .returned (.tuple #[zeroBat, I 15]) ∧ Below w.heap.size w w' := by
  have HA : Hid (Below w.heap.size w (w.alloc (.cells #[.int .i64 0, .int .i64 0, .int .i64 0, .slice none 0 0, .slice none 0 0] 25))) := (Below.refl _ _).alloc (Nat.le_refl _) _
  have HK : Hid (Blk (w.alloc (.cells #[.int .i64 0, .int .i64 0, .int .i64 0, .slice none 0 0, .slice none 0 0] 25)) w.heap.size #[.int .i64 0, .int .i64 0, .int .i64 0, .slice none 0 0, .slice none 0 0] 25) := heap_alloc_new w _
  have G0 : Hid (Gd (w.alloc (.cells #[.int .i64 0, .int .i64 0, .int .i64 0, .slice none 0 0, .slice none 0 0] 25))) := g0.kept HA.out
  have GL : Hid (Gl (w.alloc (.cells #[.int .i64 0, .int .i64 0, .int .i64 0, .slice none 0 0, .slice none 0 0] 25)) eb ef) := gl.kept HA.out
  have HP : Hid (Pw (w.alloc (.cells #[.int .i64 0, .int .i64 0, .int .i64 0, .slice none 0 0, .slice none 0 0] 25))) := hp.kept HA.out
  have HN : Hid (Wv.dec l = none) := h
  clear g0 gl hp h
  go_enter Tryd.func10, Tryd.ntmps10
  go_wp2_with fail
  generalize w.alloc (.cells #[.int .i64 0, .int .i64 0, .int .i64 0, .slice none 0 0, .slice none 0 0] 25) = wA at *
  refine (fdec_refuse l wA eb ef hI GL.out HP.out G0.out hlen HN.out).mono ?_
  rintro e w1 ⟨⟨n, y, rfl⟩, hb1⟩
  have hwA : w.heap.size < wA.heap.size := HK.out.lt
  have hs1 : wA.heap.size ≤ w1.heap.size := hb1.size
  have HB1 : Hid (Below wA.heap.size wA (w1.alloc (.cells #[I 0, I 0, I 0, .slice none 0 0, .slice none 0 0] 25))) := hb1.alloc hs1 _
  have HKB : Hid (Blk (w1.alloc (.cells #[I 0, I 0, I 0, .slice none 0 0, .slice none 0 0] 25)) w1.heap.size #[I 0, I 0, I 0, .slice none 0 0, .slice none 0 0] 25) := heap_alloc_new w1 _
  clear hb1
  go_wp2_with fail
  generalize w1.alloc (.cells #[I 0, I 0, I 0, .slice none 0 0, .slice none 0 0] 25) = wB at *
  have HKR : Hid (Blk wB w.heap.size #[.int .i64 0, .int .i64 0, .int .i64 0, .slice none 0 0, .slice none 0 0] 25) := HK.out.kept HB1.out hwA
  have hw1 : w1.heap.size < wB.heap.size := HKB.out.lt
  have b0 : wB.cell? ⟨w1.heap.size, 0, none⟩ = some (I 0) := HKB.out.cell 0
  have b1 : wB.cell? ⟨w1.heap.size, 1, none⟩ = some (I 0) := HKB.out.cell 1
  have b2 : wB.cell? ⟨w1.heap.size, 2, none⟩ = some (I 0) := HKB.out.cell 2
  have b3 : wB.cell? ⟨w1.heap.size, 3, none⟩ = some (.slice none 0 0) := HKB.out.cell 3
  have b4 : wB.cell? ⟨w1.heap.size, 4, none⟩ = some (.slice none 0 0) := HKB.out.cell 4
  go_region_law ((go_simp; go_at_call 21; refine (errno_frame n y _ eb ef (by first | exact GL.out.kept HB1.out | exact GL.out.kept HB1.out.drew)).mono ?_; rintro e w3 ⟨rfl, hb3⟩; have HB3' : Below wB.heap.size wB w3 := (by first | exact hb3 | exact (Below.refl _ _).drew.trans hb3); clear hb3; have HB3 : Hid (Below wB.heap.size wB w3) := HB3'; have HK3 : Hid (Blk w3 w.heap.size #[.int .i64 0, .int .i64 0, .int .i64 0, .slice none 0 0, .slice none 0 0] 25) := HKR.out.kept HB3.out HKR.out.lt; have a0 : w3.cell? ⟨w1.heap.size, 0, none⟩ = some (I 0) := cell_kept HB3.out b0; have a1 : w3.cell? ⟨w1.heap.size, 1, none⟩ = some (I 0) := cell_kept HB3.out b1; have a2 : w3.cell? ⟨w1.heap.size, 2, none⟩ = some (I 0) := cell_kept HB3.out b2; have a3 : w3.cell? ⟨w1.heap.size, 3, none⟩ = some (.slice none 0 0) := cell_kept HB3.out b3; have a4 : w3.cell? ⟨w1.heap.size, 4, none⟩ = some (.slice none 0 0) := cell_kept HB3.out b4; have k0 : w3.cell? ⟨w.heap.size, 0, none⟩ = some (.int .i64 0) := HK3.out.cell 0; have z0 := HK3.out.frozen 0; have k1 : w3.cell? ⟨w.heap.size, 1, none⟩ = some (.int .i64 0) := HK3.out.cell 1; have z1 := HK3.out.frozen 1; have k2 : w3.cell? ⟨w.heap.size, 2, none⟩ = some (.int .i64 0) := HK3.out.cell 2; have z2 := HK3.out.frozen 2; have k3 : w3.cell? ⟨w.heap.size, 3, none⟩ = some (.slice none 0 0) := HK3.out.cell 3; have z3 := HK3.out.frozen 3; have k4 : w3.cell? ⟨w.heap.size, 4, none⟩ = some (.slice none 0 0) := HK3.out.cell 4; have z4 := HK3.out.frozen 4; clear HB3'; dsimp only))
  all_goals
    (go_wp2
     have HBw : Hid (Below w.heap.size w w3) := HA.out.trans ((HB1.out.trans (HB3.out.mono (by omega))).mono HA.out.size)
     have HF : Hid (Blk (put5 w3 w.heap.size (I 0) (I 0) (I 0) (.slice none 0 0) (.slice none 0 0)) w.heap.size #[I 0, I 0, I 0, .slice none 0 0, .slice none 0 0] 25) := put5_blk HK3.out _ _ _ _ _
     have HY : Hid (Below w.heap.size w (put5 w3 w.heap.size (I 0) (I 0) (I 0) (.slice none 0 0) (.slice none 0 0))) := ((((HBw.out.setCell (Nat.le_refl _) _).setCell (Nat.le_refl _) _).setCell (Nat.le_refl _) _).setCell (Nat.le_refl _) _).setCell (Nat.le_refl _) _
     have HPP : Hid (∀ bb, bb ≠ w.heap.size → (put5 w3 w.heap.size (I 0) (I 0) (I 0) (.slice none 0 0) (.slice none 0 0)).heap[bb]? = w3.heap[bb]?) := fun bb hk => put5_heap _ _ _ _ _ _ _ bb hk
     unfold put5 at HF HY HPP
     generalize (((((w3.setCell ⟨w.heap.size, 0, none⟩ (I 0)).setCell ⟨w.heap.size, 1, none⟩ (I 0)).setCell ⟨w.heap.size, 2, none⟩ (I 0)).setCell ⟨w.heap.size, 3, none⟩ (.slice none 0 0)).setCell ⟨w.heap.size, 4, none⟩ (.slice none 0 0)) = wF at *
     have f0 : wF.cell? ⟨w.heap.size, 0, none⟩ = some (I 0) := HF.out.cell 0
     have f1 : wF.cell? ⟨w.heap.size, 1, none⟩ = some (I 0) := HF.out.cell 1
     have f2 : wF.cell? ⟨w.heap.size, 2, none⟩ = some (I 0) := HF.out.cell 2
     have f3 : wF.cell? ⟨w.heap.size, 3, none⟩ = some (.slice none 0 0) := HF.out.cell 3
     have f4 : wF.cell? ⟨w.heap.size, 4, none⟩ = some (.slice none 0 0) := HF.out.cell 4
     refine bodyPost_ret (v := .tuple #[zeroBat, I 15]) (by simp [results, Tryd.results10, go_sem, f0, f1, f2, f3, f4]) rfl ⟨rfl, HY.out⟩)

set_option maxHeartbeats 1600000 in
theorem wdec_some (l : List UInt8) (b : Wv.Bt) (w : World) (eb ef : Addr) (hI : ItoaSaid) (gl : Gl w eb ef) (hp : Pw w) (g0 : Gd w) (h : Wv.dec l = some b) :
    Calls Tryd.prog 10 #[.string ⟨l.toArray⟩] w fun e w' => (∃ ca ea cc ec ms, e = .returned (.tuple #[bV b ca ea cc ec, I 0]) ∧ b.effs = ms.map (·.e) ∧ Ob w' w.heap.size (.slice ca b.clock.length cc) (.slice ea b.effs.length ec) b.clock ms) ∧ Below w.heap.size w w' := by
  have HA : Hid (Below w.heap.size w (w.alloc (.cells #[.int .i64 0, .int .i64 0, .int .i64 0, .slice none 0 0, .slice none 0 0] 25))) := (Below.refl _ _).alloc (Nat.le_refl _) _
  have HK : Hid (Blk (w.alloc (.cells #[.int .i64 0, .int .i64 0, .int .i64 0, .slice none 0 0, .slice none 0 0] 25)) w.heap.size #[.int .i64 0, .int .i64 0, .int .i64 0, .slice none 0 0, .slice none 0 0] 25) := heap_alloc_new w _
  have G0 : Hid (Gd (w.alloc (.cells #[.int .i64 0, .int .i64 0, .int .i64 0, .slice none 0 0, .slice none 0 0] 25))) := g0.kept HA.out
  have GL : Hid (Gl (w.alloc (.cells #[.int .i64 0, .int .i64 0, .int .i64 0, .slice none 0 0, .slice none 0 0] 25)) eb ef) := gl.kept HA.out
  have HP : Hid (Pw (w.alloc (.cells #[.int .i64 0, .int .i64 0, .int .i64 0, .slice none 0 0, .slice none 0 0] 25))) := hp.kept HA.out
  have HN : Hid (Wv.dec l = some b) := h
  clear g0 gl hp h
  go_enter Tryd.func10, Tryd.ntmps10
  go_wp2_with fail
  generalize w.alloc (.cells #[.int .i64 0, .int .i64 0, .int .i64 0, .slice none 0 0, .slice none 0 0] 25) = wA at *
  refine (fdec_take l b wA eb ef hI GL.out HP.out G0.out HN.out).mono ?_
  rintro e w1 ⟨⟨ca, ea, cc, ec, ms, rfl, hef, hob⟩, hb1⟩
  have hwA : w.heap.size < wA.heap.size := HK.out.lt
  have hs1 : wA.heap.size ≤ w1.heap.size := hb1.size
  have HB1 : Hid (Below wA.heap.size wA (w1.alloc (.cells #[I b.o, I b.s, I b.t, .slice ca b.clock.length cc, .slice ea b.effs.length ec] 25))) := hb1.alloc hs1 _
  have HKB : Hid (Blk (w1.alloc (.cells #[I b.o, I b.s, I b.t, .slice ca b.clock.length cc, .slice ea b.effs.length ec] 25)) w1.heap.size #[I b.o, I b.s, I b.t, .slice ca b.clock.length cc, .slice ea b.effs.length ec] 25) := heap_alloc_new w1 _
  have HOB : Hid (Ob (w1.alloc (.cells #[I b.o, I b.s, I b.t, .slice ca b.clock.length cc, .slice ea b.effs.length ec] 25)) wA.heap.size (.slice ca b.clock.length cc) (.slice ea b.effs.length ec) b.clock ms) := hob.kept (fun b h1 _ => Below.heap_alloc w1 _ b h1)
  have HEF : Hid (b.effs = ms.map (·.e)) := hef
  clear hob hef
  clear hb1
  go_wp2_with fail
  generalize w1.alloc (.cells #[I b.o, I b.s, I b.t, .slice ca b.clock.length cc, .slice ea b.effs.length ec] 25) = wB at *
  have HKR : Hid (Blk wB w.heap.size #[.int .i64 0, .int .i64 0, .int .i64 0, .slice none 0 0, .slice none 0 0] 25) := HK.out.kept HB1.out hwA
  have hw1 : w1.heap.size < wB.heap.size := HKB.out.lt
  have b0 : wB.cell? ⟨w1.heap.size, 0, none⟩ = some (I b.o) := HKB.out.cell 0
  have b1 : wB.cell? ⟨w1.heap.size, 1, none⟩ = some (I b.s) := HKB.out.cell 1
  have b2 : wB.cell? ⟨w1.heap.size, 2, none⟩ = some (I b.t) := HKB.out.cell 2
  have b3 : wB.cell? ⟨w1.heap.size, 3, none⟩ = some (.slice ca b.clock.length cc) := HKB.out.cell 3
  have b4 : wB.cell? ⟨w1.heap.size, 4, none⟩ = some (.slice ea b.effs.length ec) := HKB.out.cell 4
  go_region_law ((go_simp; go_at_call 21; refine (errno_nil _).mono ?_; rintro e w3 ⟨rfl, hw3⟩; have HB3' : Below wB.heap.size wB w3 := (by first | (rw [hw3]; exact Below.refl _ _) | (rw [hw3]; exact (Below.refl _ _).drew)); clear hw3; have HB3 : Hid (Below wB.heap.size wB w3) := HB3'; have HK3 : Hid (Blk w3 w.heap.size #[.int .i64 0, .int .i64 0, .int .i64 0, .slice none 0 0, .slice none 0 0] 25) := HKR.out.kept HB3.out HKR.out.lt; have a0 : w3.cell? ⟨w1.heap.size, 0, none⟩ = some (I b.o) := cell_kept HB3.out b0; have a1 : w3.cell? ⟨w1.heap.size, 1, none⟩ = some (I b.s) := cell_kept HB3.out b1; have a2 : w3.cell? ⟨w1.heap.size, 2, none⟩ = some (I b.t) := cell_kept HB3.out b2; have a3 : w3.cell? ⟨w1.heap.size, 3, none⟩ = some (.slice ca b.clock.length cc) := cell_kept HB3.out b3; have a4 : w3.cell? ⟨w1.heap.size, 4, none⟩ = some (.slice ea b.effs.length ec) := cell_kept HB3.out b4; have k0 : w3.cell? ⟨w.heap.size, 0, none⟩ = some (.int .i64 0) := HK3.out.cell 0; have z0 := HK3.out.frozen 0; have k1 : w3.cell? ⟨w.heap.size, 1, none⟩ = some (.int .i64 0) := HK3.out.cell 1; have z1 := HK3.out.frozen 1; have k2 : w3.cell? ⟨w.heap.size, 2, none⟩ = some (.int .i64 0) := HK3.out.cell 2; have z2 := HK3.out.frozen 2; have k3 : w3.cell? ⟨w.heap.size, 3, none⟩ = some (.slice none 0 0) := HK3.out.cell 3; have z3 := HK3.out.frozen 3; have k4 : w3.cell? ⟨w.heap.size, 4, none⟩ = some (.slice none 0 0) := HK3.out.cell 4; have z4 := HK3.out.frozen 4; clear HB3'; dsimp only))
  all_goals
    (go_wp2
     have HBw : Hid (Below w.heap.size w w3) := HA.out.trans ((HB1.out.trans (HB3.out.mono (by omega))).mono HA.out.size)
     have HF : Hid (Blk (put5 w3 w.heap.size (I b.o) (I b.s) (I b.t) (.slice ca b.clock.length cc) (.slice ea b.effs.length ec)) w.heap.size #[I b.o, I b.s, I b.t, .slice ca b.clock.length cc, .slice ea b.effs.length ec] 25) := put5_blk HK3.out _ _ _ _ _
     have HY : Hid (Below w.heap.size w (put5 w3 w.heap.size (I b.o) (I b.s) (I b.t) (.slice ca b.clock.length cc) (.slice ea b.effs.length ec))) := ((((HBw.out.setCell (Nat.le_refl _) _).setCell (Nat.le_refl _) _).setCell (Nat.le_refl _) _).setCell (Nat.le_refl _) _).setCell (Nat.le_refl _) _
     have HPP : Hid (∀ bb, bb ≠ w.heap.size → (put5 w3 w.heap.size (I b.o) (I b.s) (I b.t) (.slice ca b.clock.length cc) (.slice ea b.effs.length ec)).heap[bb]? = w3.heap[bb]?) := fun bb hk => put5_heap _ _ _ _ _ _ _ bb hk
     unfold put5 at HF HY HPP
     generalize (((((w3.setCell ⟨w.heap.size, 0, none⟩ (I b.o)).setCell ⟨w.heap.size, 1, none⟩ (I b.s)).setCell ⟨w.heap.size, 2, none⟩ (I b.t)).setCell ⟨w.heap.size, 3, none⟩ (.slice ca b.clock.length cc)).setCell ⟨w.heap.size, 4, none⟩ (.slice ea b.effs.length ec)) = wF at *
     have f0 : wF.cell? ⟨w.heap.size, 0, none⟩ = some (I b.o) := HF.out.cell 0
     have f1 : wF.cell? ⟨w.heap.size, 1, none⟩ = some (I b.s) := HF.out.cell 1
     have f2 : wF.cell? ⟨w.heap.size, 2, none⟩ = some (I b.t) := HF.out.cell 2
     have f3 : wF.cell? ⟨w.heap.size, 3, none⟩ = some (.slice ca b.clock.length cc) := HF.out.cell 3
     have f4 : wF.cell? ⟨w.heap.size, 4, none⟩ = some (.slice ea b.effs.length ec) := HF.out.cell 4
     refine bodyPost_ret (v := .tuple #[bV b ca ea cc ec, I 0]) (by simp [results, Tryd.results10, go_sem, f0, f1, f2, f3, f4]) rfl ⟨⟨ca, ea, cc, ec, ms, rfl, HEF.out, ?_⟩, HY.out⟩
     have hp2 : ∀ k, k ≠ w.heap.size → wF.heap[k]? = w3.heap[k]? := HPP.out
     exact (HOB.out.kept (fun k h1 h2 => (hp2 k (by omega)).trans (HB3.out.block k h1))).mono (by omega))

end Go.Proofs.YtfmcngncaffloaaDoor
