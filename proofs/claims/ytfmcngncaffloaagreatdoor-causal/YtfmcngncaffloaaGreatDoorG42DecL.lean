import Derived.Test.YtfmcngncaffloaaGreatDoorG39DecG
import Derived.Test.YtfmcngncaffloaaGreatDoorDecI
import Derived.Test.YtfmcngncaffloaaGreatDoorG28Check
import Derived.Deep.QuietTactic
import Derived.BigQuiet
namespace Go.Proofs.YtfmcngncaffloaaGreatDoor
open Go.RowKit
set_option maxRecDepth 100000

abbrev zeroBat : Value := .agg #[I 0, I 0, I 0, .slice none 0 0, .slice none 0 0]
theorem fopen_no (l : List UInt8) (w : World) (g0 : Gd w) (hlen : l.length ≤ 9223372036854775807) (ho : ¬ opens l) :
    Calls Tryz.prog 164 #[.string ⟨l.toArray⟩] w fun e w' => (∃ n y, e = .returned (.tuple #[.pointer none, FltF n y])) ∧ Below w.heap.size w w' := by
  by_cases h : l.length < 2
  · exact fopen_short l w g0 h
  · by_cases hn : Wv.num2 l = l.length
    · exact fopen_sum l w g0 (by omega) hlen hn ho
    · exact fopen_len l w g0 (by omega) hlen hn
theorem own_at' {w : World} {base : Nat} {e : TypeId} {size n c : Nat} {a : Option Addr} {xs : List Value} (h : w.ownsRow base e size (.slice a n c) n xs) : At w a xs := by
  rcases h.2 with ⟨h2, hn⟩ | ⟨g, cap, cur, hv, _⟩
  · have : xs = [] := by have := h.1; rw [hn, Nat.zero_mul] at this; exact List.eq_nil_of_length_eq_zero this
    subst this
    intro j u hj
    simp at hj
  · cases hv
    exact own_at h
theorem OwB.bat {w : World} {base : Nat} {b : Wv.Bt} {ca ea : Option Addr} {cc ec : Nat} {ms : List Em} (h : OwB w base (.slice ca b.clock.length cc) (.slice ea b.effs.length ec) b.clock ms) (he : b.effs = ms.map (·.e)) : BatAt w b ca ea ms := by
  refine ⟨own_at' h.clock, he, ?_, fun m hm => own_at' (h.dots m hm)⟩
  have := h.cells
  have hl : b.effs.length = ms.length := by rw [he]; simp
  rw [hl] at this
  exact own_at' this

set_option maxHeartbeats 800000 in
theorem fdec_closed (l : List UInt8) (w : World) (g0 : Gd w) (hlen : l.length ≤ 9223372036854775807) (ho : ¬ opens l) :
    Calls Tryz.prog 120 #[.string ⟨l.toArray⟩] w fun e w' => (∃ n y, e = .returned (.tuple #[zeroBat, FltF n y])) ∧ Below w.heap.size w w' := by
  have HA : Hid (Below w.heap.size w (w.alloc (.cells #[.int .i64 0, .int .i64 0, .int .i64 0, .slice none 0 0, .slice none 0 0] 124))) := (Below.refl _ _).alloc (Nat.le_refl _) _
  have HK : Hid (Blk (w.alloc (.cells #[.int .i64 0, .int .i64 0, .int .i64 0, .slice none 0 0, .slice none 0 0] 124)) w.heap.size #[.int .i64 0, .int .i64 0, .int .i64 0, .slice none 0 0, .slice none 0 0] 124) := heap_alloc_new w _
  have G0 : Hid (Gd (w.alloc (.cells #[.int .i64 0, .int .i64 0, .int .i64 0, .slice none 0 0, .slice none 0 0] 124))) := g0.kept HA.out
  have HO : Hid (¬ opens l) := ho
  clear g0 ho
  go_enter Tryz.func120, Tryz.ntmps120
  go_wp2_with fail
  generalize w.alloc (.cells #[.int .i64 0, .int .i64 0, .int .i64 0, .slice none 0 0, .slice none 0 0] 124) = wA at *
  refine (fopen_no l wA G0.out hlen HO.out).mono ?_
  rintro e w1 ⟨⟨n, y, rfl⟩, hb1⟩
  have HB1 : Hid (Below w.heap.size w w1) := HA.out.trans (hb1.mono HA.out.size)
  have HK1 : Hid (Blk w1 w.heap.size #[.int .i64 0, .int .i64 0, .int .i64 0, .slice none 0 0, .slice none 0 0] 124) := HK.out.kept hb1 HK.out.lt
  clear hb1 HK
  have k0 : w1.cell? ⟨w.heap.size, 0, none⟩ = some (.int .i64 0) := HK1.out.cell 0
  have z0 := HK1.out.frozen 0
  have k1 : w1.cell? ⟨w.heap.size, 1, none⟩ = some (.int .i64 0) := HK1.out.cell 1
  have z1 := HK1.out.frozen 1
  have k2 : w1.cell? ⟨w.heap.size, 2, none⟩ = some (.int .i64 0) := HK1.out.cell 2
  have z2 := HK1.out.frozen 2
  have k3 : w1.cell? ⟨w.heap.size, 3, none⟩ = some (.slice none 0 0) := HK1.out.cell 3
  have z3 := HK1.out.frozen 3
  have k4 : w1.cell? ⟨w.heap.size, 4, none⟩ = some (.slice none 0 0) := HK1.out.cell 4
  have z4 := HK1.out.frozen 4
  go_wp2
  have HF : Hid (Blk (put5 w1 w.heap.size (.int .i64 0) (.int .i64 0) (.int .i64 0) (.slice none 0 0) (.slice none 0 0)) w.heap.size #[.int .i64 0, .int .i64 0, .int .i64 0, .slice none 0 0, .slice none 0 0] 124) := put5_blk HK1.out _ _ _ _ _
  have HY : Hid (Below w.heap.size w (put5 w1 w.heap.size (.int .i64 0) (.int .i64 0) (.int .i64 0) (.slice none 0 0) (.slice none 0 0))) := (((((HB1.out.setCell (Nat.le_refl _) _).setCell (Nat.le_refl _) _).setCell (Nat.le_refl _) _).setCell (Nat.le_refl _) _).setCell (Nat.le_refl _) _)
  have HP : Hid (∀ bb, bb ≠ w.heap.size → (put5 w1 w.heap.size (.int .i64 0) (.int .i64 0) (.int .i64 0) (.slice none 0 0) (.slice none 0 0)).heap[bb]? = w1.heap[bb]?) := fun bb hk => put5_heap _ _ _ _ _ _ _ bb hk
  unfold put5 at HF HY HP
  generalize (((((w1.setCell ⟨w.heap.size, 0, none⟩ (.int .i64 0)).setCell ⟨w.heap.size, 1, none⟩ (.int .i64 0)).setCell ⟨w.heap.size, 2, none⟩ (.int .i64 0)).setCell ⟨w.heap.size, 3, none⟩ (.slice none 0 0)).setCell ⟨w.heap.size, 4, none⟩ (.slice none 0 0)) = wF at *
  have f0 : wF.cell? ⟨w.heap.size, 0, none⟩ = some (.int .i64 0) := HF.out.cell 0
  have f1 : wF.cell? ⟨w.heap.size, 1, none⟩ = some (.int .i64 0) := HF.out.cell 1
  have f2 : wF.cell? ⟨w.heap.size, 2, none⟩ = some (.int .i64 0) := HF.out.cell 2
  have f3 : wF.cell? ⟨w.heap.size, 3, none⟩ = some (.slice none 0 0) := HF.out.cell 3
  have f4 : wF.cell? ⟨w.heap.size, 4, none⟩ = some (.slice none 0 0) := HF.out.cell 4
  refine bodyPost_ret (v := .tuple #[zeroBat, FltF n y]) (by simp [results, Tryz.results120, go_sem, f0, f1, f2, f3, f4]) rfl ⟨⟨_, _, rfl⟩, HY.out⟩

/-- The decoding under way: the answer's block, the batch's, its lists. -/
structure Dw (w wA wi : World) (D base : Nat) (b : Wv.Bt) (ca ea : Option Addr) (cc ec : Nat) (ms : List Em) : Prop where
  below : Below wA.heap.size wA wi
  kR : Blk wi w.heap.size #[.int .i64 0, .int .i64 0, .int .i64 0, .slice none 0 0, .slice none 0 0] 124
  kD : Blk wi D #[I b.o, I b.s, I b.t, .slice ca b.clock.length cc, .slice ea b.effs.length ec] 124
  ob : OwB wi base (.slice ca b.clock.length cc) (.slice ea b.effs.length ec) b.clock ms
  lt : w.heap.size < wA.heap.size
  ltb : wA.heap.size < base
  ltD : wA.heap.size < D
theorem Dw.kept {w wA wi wj : World} {D base : Nat} {b : Wv.Bt} {ca ea : Option Addr} {cc ec : Nat} {ms : List Em} (h : Dw w wA wi D base b ca ea cc ec ms) (hb : Below wi.heap.size wi wj) : Dw w wA wj D base b ca ea cc ec ms :=
  ⟨h.below.trans (hb.mono h.below.size), h.kR.kept hb h.kR.lt, h.kD.kept hb h.kD.lt, h.ob.kept (fun b h1 _ => hb.block b h1), h.lt, h.ltb, h.ltD⟩
theorem Dw.drewN {w wA wi : World} {D base : Nat} {b : Wv.Bt} {ca ea : Option Addr} {cc ec : Nat} {ms : List Em} (h : Dw w wA wi D base b ca ea cc ec ms) (n : Nat) : Dw w wA (wi.drewN n) D base b ca ea cc ec ms :=
  h.kept (belowN (Below.refl _ _) n)
theorem Dw.read {w wA wi wj : World} {D base : Nat} {b : Wv.Bt} {ca ea : Option Addr} {cc ec : Nat} {ms : List Em} (h : Dw w wA wi D base b ca ea cc ec ms) (hg : wi.grownBy wj (some wA.heap.size)) : Dw w wA wj D base b ca ea cc ec ms := by
  have h1 := h.lt
  have h2 := h.ltb
  have h3 := h.ltD
  exact ⟨below_g h.below hg (Nat.le_refl _), h.kR.grown hg (by simp; omega), h.kD.grown hg (by simp; omega), h.ob.kept (fun b hb1 hb2 => hg.block b hb1 (by simp; omega)), h1, h2, h3⟩
theorem Rd.drewN {w : World} {g : Nat} {c : List UInt8} {q : Wv.St} (h : Rd w g c q) (n : Nat) : Rd (w.drewN n) g c q := by
  cases q with
  | some k => exact h
  | none => obtain ⟨b, n, y, h⟩ := h; exact ⟨b, n, y, h⟩

theorem effF_dots (c : List UInt8) (q : Wv.St) : (Wv.effF true c q).1.dots.length ≤ 255 := by
  show (Wv.effD true c q).1.length ≤ 255
  unfold Wv.effD
  split
  · rw [Wv.run_len]; have := Wv.one_lt c (Wv.eff6 true c q); omega
  · simp
theorem run_mem {α : Type} (F : Wv.St → α × Wv.St) (P : α → Prop) (hF : ∀ q, P (F q).1) : ∀ (n : Nat) (q : Wv.St), ∀ e ∈ (Wv.run F n q).1, P e
  | 0, _, _, h => by cases h
  | n + 1, q, e, h => by
    rw [Wv.run, List.mem_append, List.mem_singleton] at h
    rcases h with h | rfl
    · exact run_mem F P hF n q e h
    · exact hF _
theorem batF_sizes (c : List UInt8) (q : Wv.St) : (Wv.batF true c q).1.clock.length ≤ 9223372036854775807 ∧ (Wv.batF true c q).1.effs.length ≤ 9223372036854775807 ∧ ∀ e ∈ (Wv.batF true c q).1.effs, e.dots.length ≤ 9223372036854775807 := by
  refine ⟨?_, ?_, ?_⟩
  · show (Wv.batC c q).1.length ≤ _
    unfold Wv.batC
    rw [Wv.run_len]; have := Wv.one_lt c (Wv.nxt3 c q); omega
  · show (Wv.batE true c q).1.length ≤ _
    unfold Wv.batE
    rw [Wv.run_len]; have := Wv.one_lt c (Wv.batC c q).2; omega
  · exact run_mem _ _ (fun q => by have := effF_dots c q; omega) _ _

end Go.Proofs.YtfmcngncaffloaaGreatDoor

namespace Go.Proofs.YtfmcngncaffloaaGreatDoor
open Go.RowKit
set_option maxRecDepth 100000

set_option maxHeartbeats 1600000 in
theorem fdec_none (l : List UInt8) (w : World) (eb ef : Addr) (_hI : ItoaSaid) (gl : Gl w eb ef) (hp : Pw w) (g0 : Gd w) (ho : opens l) (hq0 : (Wv.batF true (Wv.body l) (some 2)).2 = none) :
    Calls Tryz.prog 120 #[.string ⟨l.toArray⟩] w fun e w' => (∃ n y, e = .returned (.tuple #[zeroBat, FltF n y])) ∧ Below w.heap.size w w' := by
  have HA : Hid (Below w.heap.size w (w.alloc (.cells #[.int .i64 0, .int .i64 0, .int .i64 0, .slice none 0 0, .slice none 0 0] 124))) := (Below.refl _ _).alloc (Nat.le_refl _) _
  have HK : Hid (Blk (w.alloc (.cells #[.int .i64 0, .int .i64 0, .int .i64 0, .slice none 0 0, .slice none 0 0] 124)) w.heap.size #[.int .i64 0, .int .i64 0, .int .i64 0, .slice none 0 0, .slice none 0 0] 124) := heap_alloc_new w _
  have G0 : Hid (Gd (w.alloc (.cells #[.int .i64 0, .int .i64 0, .int .i64 0, .slice none 0 0, .slice none 0 0] 124))) := g0.kept HA.out
  have GL : Hid (Gl (w.alloc (.cells #[.int .i64 0, .int .i64 0, .int .i64 0, .slice none 0 0, .slice none 0 0] 124)) eb ef) := gl.kept HA.out
  have HPW : Hid (Pw (w.alloc (.cells #[.int .i64 0, .int .i64 0, .int .i64 0, .slice none 0 0, .slice none 0 0] 124))) := hp.kept HA.out
  have HO : Hid (opens l) := ho
  have hcl : (Wv.body l).length ≤ 9223372036854775807 := by have := ho.2.1; have := (Wv.num2_le l).2; rw [Wv.body_len]; omega
  have HQ : Hid ((Wv.batF true (Wv.body l) (some 2)).2 = none) := hq0
  clear hq0
  have HLE : Hid (∀ k, (Wv.batF true (Wv.body l) (some 2)).2 = some k → k ≤ (Wv.body l).length) := fun k h => Wv.batF_le h
  generalize hc : Wv.body l = c at *
  have HC : Hid (Wv.body l = c) := hc
  clear g0 ho gl hp hc
  go_enter Tryz.func120, Tryz.ntmps120
  go_wp2_with fail
  generalize w.alloc (.cells #[.int .i64 0, .int .i64 0, .int .i64 0, .slice none 0 0, .slice none 0 0] 124) = wA at *
  refine (fopen_yes l wA G0.out HO.out).mono ?_
  rintro e w1 ⟨rfl, hR1, hb1⟩
  rw [HC.out] at hR1
  have HR1 : Hid (Rd w1 wA.heap.size c (some 2)) := hR1
  have HB1 : Hid (Below wA.heap.size wA w1) := hb1
  have HK1 : Hid (Blk w1 w.heap.size #[.int .i64 0, .int .i64 0, .int .i64 0, .slice none 0 0, .slice none 0 0] 124) := HK.out.kept hb1 HK.out.lt
  have hwA : w.heap.size < wA.heap.size := HK.out.lt
  clear hR1 hb1 HK
  go_wp2_with fail
  refine (rbat_any c (some 2) wA.heap.size w1 wA eb ef GL.out G0.out HB1.out (Nat.le_refl _) HR1.out hcl).mono ?_
  rintro e w2 ⟨ca, ea, cc, ec, ms, rfl, hef, hOb, hR2, hG2⟩
  have hsz1 : wA.heap.size < w1.heap.size := HR1.out.lt
  have HB2 : Hid (Below wA.heap.size wA w2) := below_g HB1.out hG2 (Nat.le_refl _)
  have HK2 : Hid (Blk w2 w.heap.size #[.int .i64 0, .int .i64 0, .int .i64 0, .slice none 0 0, .slice none 0 0] 124) := HK1.out.grown hG2 (by simp; omega)
  generalize Wv.batF true c (some 2) = bq at *
  have HR2 : Hid (Rd w2 wA.heap.size c bq.2) := hR2
  have HOb : Hid (OwB w2 w1.heap.size (.slice ca bq.1.clock.length cc) (.slice ea bq.1.effs.length ec) bq.1.clock ms) := hOb
  have HEF : Hid (bq.1.effs = ms.map (·.e)) := hef
  have hs2 : w1.heap.size ≤ w2.heap.size := hG2.size
  clear hR2 hG2 hOb hef HR1 HB1 HK1
  go_wp2_with fail
  have DB : Hid (Dw w wA (w2.alloc (.cells #[I bq.1.o, I bq.1.s, I bq.1.t, .slice ca bq.1.clock.length cc, .slice ea bq.1.effs.length ec] 124)) w2.heap.size w1.heap.size bq.1 ca ea cc ec ms) := ⟨HB2.out.alloc (by omega) _, HK2.out.alloc _, heap_alloc_new w2 _, HOb.out.kept (fun b h1 _ => Below.heap_alloc w2 _ b h1), hwA, hsz1, by omega⟩
  have RB : Hid (Rd (w2.alloc (.cells #[I bq.1.o, I bq.1.s, I bq.1.t, .slice ca bq.1.clock.length cc, .slice ea bq.1.effs.length ec] 124)) wA.heap.size c bq.2) := HR2.out.alloc _
  generalize w2.alloc (.cells #[I bq.1.o, I bq.1.s, I bq.1.t, .slice ca bq.1.clock.length cc, .slice ea bq.1.effs.length ec] 124) = wB at *
  clear HR2 HOb HK2 HB2
  have hcs := str_size c
  obtain ⟨ad, ha⟩ := (G0.out.kept DB.out.below).rest
  have hz := lt_of_cell ha
  have hq := HQ.out
  rw [hq] at RB
  obtain ⟨a0, n0, y0, hX⟩ := RB.out
  have c0 : wB.cell? ⟨wA.heap.size, 0, none⟩ = some (.string ⟨c.toArray⟩) := hX.cell 0
  have c1 : wB.cell? ⟨wA.heap.size, 1, none⟩ = some (I a0) := hX.cell 1
  by_cases hal : a0 < (c.length : Int)
  · go_quiet (fail)
    go_wp2_with fail
    have DX : Hid (Dw w wA (wB.drewN nq) w2.heap.size w1.heap.size bq.1 ca ea cc ec ms) := DB.out.drewN nq
    have RX : Hid (Rd (wB.drewN nq) wA.heap.size c none) := RB.out.drewN nq
    clear DB RB hX c0 c1 ha hz hq
    generalize wB.drewN nq = wX at *
    refine (fail_none c wA.heap.size _ wX RX.out).mono ?_
    rintro e w3 ⟨rfl, ⟨a, n, y, hX⟩, hG⟩
    have HX : Hid (Blk w3 wA.heap.size #[.string ⟨c.toArray⟩, I a, FltF n y] 252) := hX
    have D3 : Hid (Dw w wA w3 w2.heap.size w1.heap.size bq.1 ca ea cc ec ms) := DX.out.read hG
    clear hX hG
    have c2 : w3.cell? ⟨wA.heap.size, 2, none⟩ = some (FltF n y) := HX.out.cell 2
    have k0 : w3.cell? ⟨w.heap.size, 0, none⟩ = some (.int .i64 0) := D3.out.kR.cell 0
    have z0 := D3.out.kR.frozen 0
    have k1 : w3.cell? ⟨w.heap.size, 1, none⟩ = some (.int .i64 0) := D3.out.kR.cell 1
    have z1 := D3.out.kR.frozen 1
    have k2 : w3.cell? ⟨w.heap.size, 2, none⟩ = some (.int .i64 0) := D3.out.kR.cell 2
    have z2 := D3.out.kR.frozen 2
    have k3 : w3.cell? ⟨w.heap.size, 3, none⟩ = some (.slice none 0 0) := D3.out.kR.cell 3
    have z3 := D3.out.kR.frozen 3
    have k4 : w3.cell? ⟨w.heap.size, 4, none⟩ = some (.slice none 0 0) := D3.out.kR.cell 4
    have z4 := D3.out.kR.frozen 4
    have HBw : Hid (Below w.heap.size w w3) := HA.out.trans (D3.out.below.mono HA.out.size)
    have HKw : Hid (Blk w3 w.heap.size #[.int .i64 0, .int .i64 0, .int .i64 0, .slice none 0 0, .slice none 0 0] 124) := D3.out.kR
    go_wp2
    go_region
    all_goals
      (go_wp2
       have HF : Hid (Blk (put5 w3 w.heap.size (.int .i64 0) (.int .i64 0) (.int .i64 0) (.slice none 0 0) (.slice none 0 0)).drew w.heap.size #[.int .i64 0, .int .i64 0, .int .i64 0, .slice none 0 0, .slice none 0 0] 124) := put5_blk HKw.out _ _ _ _ _
       have HY : Hid (Below w.heap.size w (put5 w3 w.heap.size (.int .i64 0) (.int .i64 0) (.int .i64 0) (.slice none 0 0) (.slice none 0 0)).drew) := (((((HBw.out.setCell (Nat.le_refl _) _).setCell (Nat.le_refl _) _).setCell (Nat.le_refl _) _).setCell (Nat.le_refl _) _).setCell (Nat.le_refl _) _).drew
       unfold put5 at HF HY
       generalize (((((w3.setCell ⟨w.heap.size, 0, none⟩ (.int .i64 0)).setCell ⟨w.heap.size, 1, none⟩ (.int .i64 0)).setCell ⟨w.heap.size, 2, none⟩ (.int .i64 0)).setCell ⟨w.heap.size, 3, none⟩ (.slice none 0 0)).setCell ⟨w.heap.size, 4, none⟩ (.slice none 0 0)).drew = wF at *
       have f0 : wF.cell? ⟨w.heap.size, 0, none⟩ = some (.int .i64 0) := HF.out.cell 0
       have f1 : wF.cell? ⟨w.heap.size, 1, none⟩ = some (.int .i64 0) := HF.out.cell 1
       have f2 : wF.cell? ⟨w.heap.size, 2, none⟩ = some (.int .i64 0) := HF.out.cell 2
       have f3 : wF.cell? ⟨w.heap.size, 3, none⟩ = some (.slice none 0 0) := HF.out.cell 3
       have f4 : wF.cell? ⟨w.heap.size, 4, none⟩ = some (.slice none 0 0) := HF.out.cell 4
       refine bodyPost_ret (v := .tuple #[zeroBat, FltF n y]) (by simp [results, Tryz.results120, go_sem, f0, f1, f2, f3, f4]) rfl ⟨⟨_, _, rfl⟩, HY.out⟩)
  · go_quiet (fail)
    have DX : Hid (Dw w wA (wB.drewN nq) w2.heap.size w1.heap.size bq.1 ca ea cc ec ms) := DB.out.drewN nq
    have RX : Hid (Rd (wB.drewN nq) wA.heap.size c none) := RB.out.drewN nq
    clear DB RB hX c0 c1 ha hz hq
    generalize wB.drewN nq = wX at *
    obtain ⟨a, n, y, hX⟩ := RX.out
    have HX : Hid (Blk wX wA.heap.size #[.string ⟨c.toArray⟩, I a, FltF n y] 252) := hX
    clear hX
    have c2 : wX.cell? ⟨wA.heap.size, 2, none⟩ = some (FltF n y) := HX.out.cell 2
    have k0 : wX.cell? ⟨w.heap.size, 0, none⟩ = some (.int .i64 0) := DX.out.kR.cell 0
    have z0 := DX.out.kR.frozen 0
    have k1 : wX.cell? ⟨w.heap.size, 1, none⟩ = some (.int .i64 0) := DX.out.kR.cell 1
    have z1 := DX.out.kR.frozen 1
    have k2 : wX.cell? ⟨w.heap.size, 2, none⟩ = some (.int .i64 0) := DX.out.kR.cell 2
    have z2 := DX.out.kR.frozen 2
    have k3 : wX.cell? ⟨w.heap.size, 3, none⟩ = some (.slice none 0 0) := DX.out.kR.cell 3
    have z3 := DX.out.kR.frozen 3
    have k4 : wX.cell? ⟨w.heap.size, 4, none⟩ = some (.slice none 0 0) := DX.out.kR.cell 4
    have z4 := DX.out.kR.frozen 4
    have HBw : Hid (Below w.heap.size w wX) := HA.out.trans (DX.out.below.mono HA.out.size)
    have HKw : Hid (Blk wX w.heap.size #[.int .i64 0, .int .i64 0, .int .i64 0, .slice none 0 0, .slice none 0 0] 124) := DX.out.kR
    go_wp2
    go_region
    all_goals
      (go_wp2
       have HF : Hid (Blk (put5 wX w.heap.size (.int .i64 0) (.int .i64 0) (.int .i64 0) (.slice none 0 0) (.slice none 0 0)).drew w.heap.size #[.int .i64 0, .int .i64 0, .int .i64 0, .slice none 0 0, .slice none 0 0] 124) := put5_blk HKw.out _ _ _ _ _
       have HY : Hid (Below w.heap.size w (put5 wX w.heap.size (.int .i64 0) (.int .i64 0) (.int .i64 0) (.slice none 0 0) (.slice none 0 0)).drew) := (((((HBw.out.setCell (Nat.le_refl _) _).setCell (Nat.le_refl _) _).setCell (Nat.le_refl _) _).setCell (Nat.le_refl _) _).setCell (Nat.le_refl _) _).drew
       unfold put5 at HF HY
       generalize (((((wX.setCell ⟨w.heap.size, 0, none⟩ (.int .i64 0)).setCell ⟨w.heap.size, 1, none⟩ (.int .i64 0)).setCell ⟨w.heap.size, 2, none⟩ (.int .i64 0)).setCell ⟨w.heap.size, 3, none⟩ (.slice none 0 0)).setCell ⟨w.heap.size, 4, none⟩ (.slice none 0 0)).drew = wF at *
       have f0 : wF.cell? ⟨w.heap.size, 0, none⟩ = some (.int .i64 0) := HF.out.cell 0
       have f1 : wF.cell? ⟨w.heap.size, 1, none⟩ = some (.int .i64 0) := HF.out.cell 1
       have f2 : wF.cell? ⟨w.heap.size, 2, none⟩ = some (.int .i64 0) := HF.out.cell 2
       have f3 : wF.cell? ⟨w.heap.size, 3, none⟩ = some (.slice none 0 0) := HF.out.cell 3
       have f4 : wF.cell? ⟨w.heap.size, 4, none⟩ = some (.slice none 0 0) := HF.out.cell 4
       refine bodyPost_ret (v := .tuple #[zeroBat, FltF n y]) (by simp [results, Tryz.results120, go_sem, f0, f1, f2, f3, f4]) rfl ⟨⟨_, _, rfl⟩, HY.out⟩)

end Go.Proofs.YtfmcngncaffloaaGreatDoor
