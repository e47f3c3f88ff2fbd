import Derived.Test.YtfmcngncaffloaaGreatDoorG34RpP
import Derived.Test.YtfmcngncaffloaaGreatDoorG15HpM
import Derived.Deep.RegionHeldLaw
import Derived.Test.YtfmcngncaffloaaGreatDoorG18BkJ
namespace Go.Proofs.YtfmcngncaffloaaGreatDoor
open Go.RowKit
set_option maxRecDepth 100000

theorem Env.below {w0 w w' : World} {own : Clr} {eb ef : Addr} (h : Env w0 w own eb ef) (hB : Below w.heap.size w w') : Gl w' eb ef := h.gl.kept (h.bel.trans (hB.mono h.bel.size))
set_option maxHeartbeats 800000 in
theorem do_badop (own : Clr) (c p : Nat) (R : Rp) (cg cc hp : Nat) (mv hv ev : Value) (hs : List Bm) (es : List Em) (op x y : Int) (k : Nat) (o : Ob) (w w0 : World) (eb ef : Addr) (hen : Env w0 w own eb ef) (h : RpIn w own c p R cg cc hp mv hv ev hs es) (h1 : R.st = 1) (hop : ¬ (1 ≤ op ∧ op ≤ 6))
    (hk : R.obs[k]? = some o) (hobs : R.obs.length = 8)
    (hl : R.clock.length ≤ 1000) (hn0 : 0 ≤ R.n) (hn1 : R.n < R.clock.length) (hs0 : ∀ z ∈ R.clock, 0 ≤ z ∧ z ≤ 1000000) (ht0 : 0 ≤ R.time) (ht1 : R.time ≤ 1000000000)
    (N : Nat) (hN : N + R.effs.length ≤ 100000) (hbd : o.bound N) (hval : ∀ e ∈ R.effs, -1000 ≤ e.va ∧ e.va ≤ 1000 ∧ e.dots.length ≤ 1048576) :
    Calls Tryz.prog 43 #[.pointer (some ⟨p, 0, none⟩), I op, I k, I x, I y] w fun e w' => e = .returned (I 9) ∧ Below w.heap.size w w' := by
  have c1 : w.cell? ⟨p, 1, none⟩ = some (I R.st) := h.blk.cell 1
  have hb : (R.st == 1) = true := by simp [h1]
  have HC : Hid (Calls Tryz.prog 66 #[.pointer (some ⟨p, 0, none⟩), I k] w fun e w' => SeeOk own (seeTo (pendB R) k o R.effs.length) w e w') := see_yes own c p R cg cc hp mv hv ev hs es k o w h hk hobs hl hn0 hn1 hs0 ht0 ht1 N hN hbd hval
  have HEN : Hid (Env w0 w own eb ef) := hen
  have HOP : Hid (¬ (1 ≤ op ∧ op ≤ 6)) := hop
  clear h h1 hen hk hobs hl hn0 hn1 hs0 ht0 ht1 hN hbd hval hop
  go_enter Tryz.func43, Tryz.ntmps43
  go_wp2_with fail
  refine HC.out.mono ?_
  rintro e w1 ⟨v, d, own', rfl, hE, hO, hB⟩
  have HB : Hid (Below w.heap.size w w1) := hB
  obtain ⟨tw, pw, hvf⟩ := ObAt.face hO
  subst hvf
  clear hE hO hB HC
  go_wp2_with fail
  refine (ruleof_no op w1 eb ef (HEN.out.below HB.out) HOP.out).mono ?_
  rintro e w2 ⟨⟨s, rfl⟩, hB2⟩
  have HB2 : Hid (Below w.heap.size w w2) := HB.out.trans (hB2.mono HB.out.size)
  clear hB2
  go_wp2_with fail
  go_quiet (fail)
  go_wp2
  go_ret
  exact ⟨rfl, belowN (HB2.out.alloc HB2.out.size _) _⟩
set_option maxHeartbeats 800000 in
theorem do_badkind (own : Clr) (c p : Nat) (R : Rp) (cg cc hp : Nat) (mv hv ev : Value) (hs : List Bm) (es : List Em) (op x y : Int) (k : Nat) (o : Ob) (w w0 : World) (eb ef : Addr) (hen : Env w0 w own eb ef) (h : RpIn w own c p R cg cc hp mv hv ev hs es) (h1 : R.st = 1) (hop : 1 ≤ op ∧ op ≤ 6) (hkd : (k : Int) % 4 ≠ Wv.rKind op)
    (hk : R.obs[k]? = some o) (hobs : R.obs.length = 8)
    (hl : R.clock.length ≤ 1000) (hn0 : 0 ≤ R.n) (hn1 : R.n < R.clock.length) (hs0 : ∀ z ∈ R.clock, 0 ≤ z ∧ z ≤ 1000000) (ht0 : 0 ≤ R.time) (ht1 : R.time ≤ 1000000000)
    (N : Nat) (hN : N + R.effs.length ≤ 100000) (hbd : o.bound N) (hval : ∀ e ∈ R.effs, -1000 ≤ e.va ∧ e.va ≤ 1000 ∧ e.dots.length ≤ 1048576) :
    Calls Tryz.prog 43 #[.pointer (some ⟨p, 0, none⟩), I op, I k, I x, I y] w fun e w' => e = .returned (I 9) ∧ Below w.heap.size w w' := by
  have c1 : w.cell? ⟨p, 1, none⟩ = some (I R.st) := h.blk.cell 1
  have hb : (R.st == 1) = true := by simp [h1]
  have HC : Hid (Calls Tryz.prog 66 #[.pointer (some ⟨p, 0, none⟩), I k] w fun e w' => SeeOk own (seeTo (pendB R) k o R.effs.length) w e w') := see_yes own c p R cg cc hp mv hv ev hs es k o w h hk hobs hl hn0 hn1 hs0 ht0 ht1 N hN hbd hval
  have HEN : Hid (Env w0 w own eb ef) := hen
  have HOP : Hid (1 ≤ op ∧ op ≤ 6) := hop
  have hA1 : (0 : Int) ≤ k := by omega
  have hA2 : (k : Int) ≤ 7 := by
    obtain ⟨h, _⟩ := List.getElem?_eq_some_iff.1 hk
    omega
  have hB : (Wv.rKind op != (k : Int) % 4) = true := by simpa using fun e => hkd e.symm
  clear h h1 hen hk hobs hl hn0 hn1 hs0 ht0 ht1 hN hbd hval hop hkd
  go_enter Tryz.func43, Tryz.ntmps43
  go_wp2_with fail
  refine HC.out.mono ?_
  rintro e w1 ⟨v, d, own', rfl, hE, hO, hB⟩
  have HB : Hid (Below w.heap.size w w1) := hB
  obtain ⟨tw, pw, hvf⟩ := ObAt.face hO
  subst hvf
  clear hE hO hB HC
  go_wp2_with fail
  refine (ruleof_yes op w1 eb ef (HEN.out.below HB.out) HOP.out).mono ?_
  rintro e w2 ⟨rfl, hB2⟩
  unfold ruleV
  have HB2 : Hid (Below w.heap.size w w2) := HB.out.trans (hB2.mono HB.out.size)
  clear hB2
  go_wp2_with fail
  go_quiet (first | (go_at_call 64; exact Calls.quiet_of_same (kindOf_any _ hA1 hA2 _)))
  go_wp2
  go_ret
  exact ⟨rfl, belowN (HB2.out.alloc HB2.out.size _) _⟩

end Go.Proofs.YtfmcngncaffloaaGreatDoor

namespace Go.Proofs.YtfmcngncaffloaaGreatDoor
open Go.RowKit
set_option maxRecDepth 100000

set_option maxHeartbeats 800000 in
theorem do_err (own : Clr) (c p : Nat) (R : Rp) (cg cc hp : Nat) (mv hv ev : Value) (hs : List Bm) (es : List Em) (op x y : Int) (k : Nat) (o : Ob) (w w0 : World) (eb ef : Addr) (hen : Env w0 w own eb ef) (h : RpIn w own c p R cg cc hp mv hv ev hs es) (h1 : R.st = 1) (hop : 1 ≤ op ∧ op ≤ 6) (hkd : (k : Int) % 4 = Wv.rKind op) (hpl : o.plain) (her : ((seeTo (pendB R) k o R.effs.length).says op x y).2.2 ≠ 0)
    (hk : R.obs[k]? = some o) (hobs : R.obs.length = 8)
    (hl : R.clock.length ≤ 1000) (hn0 : 0 ≤ R.n) (hn1 : R.n < R.clock.length) (hs0 : ∀ z ∈ R.clock, 0 ≤ z ∧ z ≤ 1000000) (ht0 : 0 ≤ R.time) (ht1 : R.time ≤ 1000000000)
    (N : Nat) (hN : N + R.effs.length ≤ 100000) (hbd : o.bound N) (hval : ∀ e ∈ R.effs, -1000 ≤ e.va ∧ e.va ≤ 1000 ∧ e.dots.length ≤ 1048576) :
    Calls Tryz.prog 43 #[.pointer (some ⟨p, 0, none⟩), I op, I k, I x, I y] w fun e w' => e = .returned (I ((seeTo (pendB R) k o R.effs.length).says op x y).2.2) ∧ Below w.heap.size w w' := by
  have c1 : w.cell? ⟨p, 1, none⟩ = some (I R.st) := h.blk.cell 1
  have hb : (R.st == 1) = true := by simp [h1]
  have HC : Hid (Calls Tryz.prog 66 #[.pointer (some ⟨p, 0, none⟩), I k] w fun e w' => SeeOk own (seeTo (pendB R) k o R.effs.length) w e w') := see_yes own c p R cg cc hp mv hv ev hs es k o w h hk hobs hl hn0 hn1 hs0 ht0 ht1 N hN hbd hval
  have HEN : Hid (Env w0 w own eb ef) := hen
  have HOP : Hid (1 ≤ op ∧ op ≤ 6) := hop
  have hA1 : (0 : Int) ≤ k := by omega
  have hA2 : (k : Int) ≤ 7 := by
    obtain ⟨h, _⟩ := List.getElem?_eq_some_iff.1 hk
    omega
  have hB : (Wv.rKind op != (k : Int) % 4) = false := by simpa using hkd.symm
  have HSM : Hid ((seeTo (pendB R) k o R.effs.length).small) := Ob.bound_small (see_bound (b := pendB R) hbd hval R.effs.length (Nat.le_refl _)) hN
  have HPL : Hid ((seeTo (pendB R) k o R.effs.length).plain) := see_plain hpl _
  have HER : Hid (((seeTo (pendB R) k o R.effs.length).says op x y).2.2 ≠ 0) := her
  clear h h1 hen hk hobs hl hn0 hn1 hs0 ht0 ht1 hN hbd hval hop hkd hpl her
  generalize seeTo (pendB R) k o R.effs.length = o2 at *
  go_enter Tryz.func43, Tryz.ntmps43
  go_wp2_with fail
  refine HC.out.mono ?_
  rintro e w1 ⟨v, d, own', rfl, hE, hO, hB⟩
  have HB : Hid (Below w.heap.size w w1) := hB
  obtain ⟨tw, pw, hvf⟩ := ObAt.face hO
  subst hvf
  have HO : Hid (ObAt w1 own' d (.iface tw pw) o2) := hO
  clear hE hO hB HC
  go_wp2_with fail
  refine (ruleof_yes op w1 eb ef (HEN.out.below HB.out) HOP.out).mono ?_
  rintro e w2 ⟨rfl, hB2⟩
  unfold ruleV
  have HBX : Hid (Below w1.heap.size w1 w2) := hB2
  have HB2 : Hid (Below w.heap.size w w2) := HB.out.trans (hB2.mono HB.out.size)
  clear hB2
  go_wp2_with fail
  go_quiet (first | (go_at_call 64; exact Calls.quiet_of_same (kindOf_any _ hA1 hA2 _)))
  obtain ⟨w3, hw3⟩ : ∃ w3, w3 = (w2.alloc (.cells #[I (Wv.rKind op), I (Wv.rLeast op), I (Wv.rGreat op), I (Wv.rRef op), I (Wv.rLeastD op), I (Wv.rMostD op)] 140)).drewN nq := ⟨_, rfl⟩
  have HB13 : Hid (Below w1.heap.size w1 w3) := by rw [hw3]; exact belowN (HBX.out.alloc HBX.out.size _) nq
  change Exit.then _ _ Exit.normal _ ((w2.alloc (.cells #[I (Wv.rKind op), I (Wv.rLeast op), I (Wv.rGreat op), I (Wv.rRef op), I (Wv.rLeastD op), I (Wv.rMostD op)] 140)).drewN nq)
  rw [← hw3]
  clear hw3
  have HO3 : Hid (ObAt w3 own' d (.iface tw pw) o2) := HO.out.keep (fun b hl _ => HB13.out.block b hl) (Ext.refl _ _)
  go_wp2_with (first
    | (refine wpList_invoke_effect rfl _ _ _ _ _ rfl (.iface tw pw) o2 op x y own' d (by simp [Act.eval]) (by simp [Act.eval]) (by simp [Act.eval]) (by simp [Act.eval]) HO3.out HSM.out HPL.out ?_; intro w4 hB4; have HB4 : Hid (Below w3.heap.size w3 w4) := hB4; clear hB4; have hne := HER.out)
    | fail)
  have hB3 : Below w.heap.size w w3 := HB.out.trans (HB13.out.mono HB.out.size)
  have hB4 : Below w.heap.size w w4 := hB3.trans (HB4.out.mono hB3.size)
  go_ret
  exact ⟨rfl, hB4.alloc hB4.size _⟩

end Go.Proofs.YtfmcngncaffloaaGreatDoor

namespace Go.Proofs.YtfmcngncaffloaaGreatDoor
open Go.RowKit
set_option maxRecDepth 100000

/-- The effect that Do adds. -/
def doM (op k : Int) (s : Int × Wv.Dt × Int) : Em := ⟨⟨op, k, s.1, s.2.1, []⟩, none, 0⟩
theorem AddOk.from {w w5 w6 : World} {own : Clr} {c p : Nat} {R : Rp} {cg cc hp : Nat} {mv hv : Value} {hs : List Bm} {es : List Em} (hB : Below w.heap.size w w5) (h : AddOk w5 (newTo own w.heap.size 0) c p R cg cc hp mv hv hs es w6) : AddOk w own c p R cg cc hp mv hv hs es w6 := by
  obtain ⟨own', ev', hE, hR, hT⟩ := h
  refine ⟨own', ev', (newTo_ext own w.heap.size 0).trans hE hB.size, hR, (Tch.below hB).trans hT (fun _ _ h => h) (fun k hk h => ?_)⟩
  rw [newTo_same _ _ _ _ hk] at h
  exact h
set_option maxHeartbeats 800000 in
theorem do_add (own : Clr) (c p : Nat) (R : Rp) (cg cc hp : Nat) (mv hv ev : Value) (hs : List Bm) (es : List Em) (op x y : Int) (k : Nat) (o : Ob) (w w0 : World) (eb ef : Addr) (hen : Env w0 w own eb ef) (h : RpIn w own c p R cg cc hp mv hv ev hs es) (h1 : R.st = 1) (hop : 1 ≤ op ∧ op ≤ 6) (hc0 : 0 < c) (hn5 : es.length < 5) (hls : ¬ (0 : Int) < Wv.rLeastD op) (hms : ¬ (0 : Int) > Wv.rMostD op) (hkd : (k : Int) % 4 = Wv.rKind op) (hpl : o.plain) (her : ((seeTo (pendB R) k o R.effs.length).says op x y).2.2 = 0)
    (hk : R.obs[k]? = some o) (hobs : R.obs.length = 8)
    (hl : R.clock.length ≤ 1000) (hn0 : 0 ≤ R.n) (hn1 : R.n < R.clock.length) (hs0 : ∀ z ∈ R.clock, 0 ≤ z ∧ z ≤ 1000000) (ht0 : 0 ≤ R.time) (ht1 : R.time ≤ 1000000000)
    (N : Nat) (hN : N + R.effs.length ≤ 100000) (hbd : o.bound N) (hval : ∀ e ∈ R.effs, -1000 ≤ e.va ∧ e.va ≤ 1000 ∧ e.dots.length ≤ 1048576) :
    Calls Tryz.prog 43 #[.pointer (some ⟨p, 0, none⟩), I op, I k, I x, I y] w fun e w' => e = .returned (I 0) ∧ AddOk w own c p { R with effs := R.effs ++ [(doM op k ((seeTo (pendB R) k o R.effs.length).says op x y)).e] } cg cc hp mv hv hs (es ++ [doM op k ((seeTo (pendB R) k o R.effs.length).says op x y)]) w' := by
  have HLS : Hid (¬ (0 : Int) < Wv.rLeastD op) := hls
  have HMS : Hid (¬ (0 : Int) > Wv.rMostD op) := hms
  clear hls hms
  have HRW : Hid (RpIn w own c p R cg cc hp mv hv ev hs es) := h
  have c1 : w.cell? ⟨p, 1, none⟩ = some (I R.st) := h.blk.cell 1
  have hb : (R.st == 1) = true := by simp [h1]
  have HC : Hid (Calls Tryz.prog 66 #[.pointer (some ⟨p, 0, none⟩), I k] w fun e w' => SeeOk own (seeTo (pendB R) k o R.effs.length) w e w') := see_yes own c p R cg cc hp mv hv ev hs es k o w h hk hobs hl hn0 hn1 hs0 ht0 ht1 N hN hbd hval
  have HEN : Hid (Env w0 w own eb ef) := hen
  have HOP : Hid (1 ≤ op ∧ op ≤ 6) := hop
  have hA1 : (0 : Int) ≤ k := by omega
  have hA2 : (k : Int) ≤ 7 := by
    obtain ⟨h, _⟩ := List.getElem?_eq_some_iff.1 hk
    omega
  have hB : (Wv.rKind op != (k : Int) % 4) = false := by simpa using hkd.symm
  have HSM : Hid ((seeTo (pendB R) k o R.effs.length).small) := Ob.bound_small (see_bound (b := pendB R) hbd hval R.effs.length (Nat.le_refl _)) hN
  have HPL : Hid ((seeTo (pendB R) k o R.effs.length).plain) := see_plain hpl _
  have HER : Hid (((seeTo (pendB R) k o R.effs.length).says op x y).2.2 = 0) := her
  clear h h1 hen hk hobs hl hn0 hn1 hs0 ht0 ht1 hN hbd hval hop hkd hpl her
  generalize seeTo (pendB R) k o R.effs.length = o2 at *
  go_enter Tryz.func43, Tryz.ntmps43
  go_wp2_with fail
  refine HC.out.mono ?_
  rintro e w1 ⟨v, d, own', rfl, hE, hO, hB⟩
  have HB : Hid (Below w.heap.size w w1) := hB
  obtain ⟨tw, pw, hvf⟩ := ObAt.face hO
  subst hvf
  have HO : Hid (ObAt w1 own' d (.iface tw pw) o2) := hO
  clear hE hO hB HC
  go_wp2_with fail
  refine (ruleof_yes op w1 eb ef (HEN.out.below HB.out) HOP.out).mono ?_
  rintro e w2 ⟨rfl, hB2⟩
  unfold ruleV
  have HBX : Hid (Below w1.heap.size w1 w2) := hB2
  have HB2 : Hid (Below w.heap.size w w2) := HB.out.trans (hB2.mono HB.out.size)
  clear hB2
  go_wp2_with fail
  go_quiet (first | (go_at_call 64; exact Calls.quiet_of_same (kindOf_any _ hA1 hA2 _)))
  obtain ⟨w3, hw3⟩ : ∃ w3, w3 = (w2.alloc (.cells #[I (Wv.rKind op), I (Wv.rLeast op), I (Wv.rGreat op), I (Wv.rRef op), I (Wv.rLeastD op), I (Wv.rMostD op)] 140)).drewN nq := ⟨_, rfl⟩
  have HB13 : Hid (Below w1.heap.size w1 w3) := by rw [hw3]; exact belowN (HBX.out.alloc HBX.out.size _) nq
  have HRU3 : Hid (Blk w3 w2.heap.size #[I (Wv.rKind op), I (Wv.rLeast op), I (Wv.rGreat op), I (Wv.rRef op), I (Wv.rLeastD op), I (Wv.rMostD op)] 140) := by rw [hw3]; exact heap_alloc_new w2 _
  change Exit.then _ _ Exit.normal _ ((w2.alloc (.cells #[I (Wv.rKind op), I (Wv.rLeast op), I (Wv.rGreat op), I (Wv.rRef op), I (Wv.rLeastD op), I (Wv.rMostD op)] 140)).drewN nq)
  rw [← hw3]
  clear hw3
  have HO3 : Hid (ObAt w3 own' d (.iface tw pw) o2) := HO.out.keep (fun b hl _ => HB13.out.block b hl) (Ext.refl _ _)
  go_wp2_with (first
    | (refine wpList_invoke_effect rfl _ _ _ _ _ rfl (.iface tw pw) o2 op x y own' d (by simp [Act.eval]) (by simp [Act.eval]) (by simp [Act.eval]) (by simp [Act.eval]) HO3.out HSM.out HPL.out ?_; intro w4 hB4; have HB4 : Hid (Below w3.heap.size w3 w4) := hB4; clear hB4; rw [HER.out]; have HRU4 : Hid (Blk w4 w2.heap.size #[I (Wv.rKind op), I (Wv.rLeast op), I (Wv.rGreat op), I (Wv.rRef op), I (Wv.rLeastD op), I (Wv.rMostD op)] 140) := HRU3.out.kept HB4.out HRU3.out.lt; have hlt4 : w2.heap.size < w4.heap.size := HRU4.out.lt; have r0 : w4.cell? ⟨w2.heap.size, 0, none⟩ = some (I (Wv.rKind op)) := HRU4.out.cell 0; have r1 : w4.cell? ⟨w2.heap.size, 1, none⟩ = some (I (Wv.rLeast op)) := HRU4.out.cell 1; have r2 : w4.cell? ⟨w2.heap.size, 2, none⟩ = some (I (Wv.rGreat op)) := HRU4.out.cell 2; have r3 : w4.cell? ⟨w2.heap.size, 3, none⟩ = some (I (Wv.rRef op)) := HRU4.out.cell 3; have r4 : w4.cell? ⟨w2.heap.size, 4, none⟩ = some (I (Wv.rLeastD op)) := HRU4.out.cell 4; have r5 : w4.cell? ⟨w2.heap.size, 5, none⟩ = some (I (Wv.rMostD op)) := HRU4.out.cell 5)
    | fail)
  have hB3 : Below w.heap.size w w3 := HB.out.trans (HB13.out.mono HB.out.size)
  have hB4 : Below w.heap.size w w4 := hB3.trans (HB4.out.mono hB3.size)
  have HB5 : Hid (Below w.heap.size w (w4.alloc (.cells (efC (doM op k (o2.says op x y))) 149))) := hB4.alloc hB4.size _
  clear hB3 hB4
  refine (add_put (newTo own w.heap.size 0) c p R cg cc hp mv hv ev hs es (doM op k (o2.says op x y)) (Wv.rKind op) (Wv.rLeast op) (Wv.rGreat op) (Wv.rRef op) (Wv.rLeastD op) (Wv.rMostD op) (w4.alloc (.cells (efC (doM op k (o2.says op x y))) 149)) hc0 (HRW.out.keep (fun b hb _ => HB5.out.block b hb) (fun _ _ _ b hb _ => HB5.out.block b hb) (newTo_ext _ _ _)) (by have h := HLS.out; show ¬ ((0 : Nat) : Int) < Wv.rLeastD op; omega) (by have h := HMS.out; show ¬ ((0 : Nat) : Int) > Wv.rMostD op; omega) hn5 (fun j u hj => by simp [doM, flat] at hj)).mono ?_
  rintro e w6 ⟨rfl, hA⟩
  have HA : Hid (AddOk w own c p { R with effs := R.effs ++ [(doM op k (o2.says op x y)).e] } cg cc hp mv hv hs (es ++ [doM op k (o2.says op x y)]) w6) := AddOk.from HB5.out hA
  clear hA HB5
  go_wp2
  go_ret
  exact ⟨rfl, HA.out⟩

end Go.Proofs.YtfmcngncaffloaaGreatDoor

namespace Go.Proofs.YtfmcngncaffloaaGreatDoor
open Go.RowKit
set_option maxRecDepth 100000

set_option maxHeartbeats 800000 in
theorem do_big (own : Clr) (c p : Nat) (R : Rp) (cg cc hp : Nat) (mv hv ev : Value) (hs : List Bm) (es : List Em) (op x y : Int) (k : Nat) (o : Ob) (w w0 : World) (eb ef : Addr) (hen : Env w0 w own eb ef) (h : RpIn w own c p R cg cc hp mv hv ev hs es) (h1 : R.st = 1) (hop : 1 ≤ op ∧ op ≤ 6) (hn5 : es.length = 5) (hls : ¬ (0 : Int) < Wv.rLeastD op) (hkd : (k : Int) % 4 = Wv.rKind op) (hpl : o.plain) (her : ((seeTo (pendB R) k o R.effs.length).says op x y).2.2 = 0)
    (hk : R.obs[k]? = some o) (hobs : R.obs.length = 8)
    (hl : R.clock.length ≤ 1000) (hn0 : 0 ≤ R.n) (hn1 : R.n < R.clock.length) (hs0 : ∀ z ∈ R.clock, 0 ≤ z ∧ z ≤ 1000000) (ht0 : 0 ≤ R.time) (ht1 : R.time ≤ 1000000000)
    (N : Nat) (hN : N + R.effs.length ≤ 100000) (hbd : o.bound N) (hval : ∀ e ∈ R.effs, -1000 ≤ e.va ∧ e.va ≤ 1000 ∧ e.dots.length ≤ 1048576) :
    Calls Tryz.prog 43 #[.pointer (some ⟨p, 0, none⟩), I op, I k, I x, I y] w fun e w' => e = .returned (I 12) ∧ Below w.heap.size w w' := by
  have HLS : Hid (¬ (0 : Int) < Wv.rLeastD op) := hls
  have HN5 : Hid (es.length = 5) := hn5
  clear hls hn5
  have HRW : Hid (RpIn w own c p R cg cc hp mv hv ev hs es) := h
  have c1 : w.cell? ⟨p, 1, none⟩ = some (I R.st) := h.blk.cell 1
  have hb : (R.st == 1) = true := by simp [h1]
  have HC : Hid (Calls Tryz.prog 66 #[.pointer (some ⟨p, 0, none⟩), I k] w fun e w' => SeeOk own (seeTo (pendB R) k o R.effs.length) w e w') := see_yes own c p R cg cc hp mv hv ev hs es k o w h hk hobs hl hn0 hn1 hs0 ht0 ht1 N hN hbd hval
  have HEN : Hid (Env w0 w own eb ef) := hen
  have HOP : Hid (1 ≤ op ∧ op ≤ 6) := hop
  have hA1 : (0 : Int) ≤ k := by omega
  have hA2 : (k : Int) ≤ 7 := by
    obtain ⟨h, _⟩ := List.getElem?_eq_some_iff.1 hk
    omega
  have hB : (Wv.rKind op != (k : Int) % 4) = false := by simpa using hkd.symm
  have HSM : Hid ((seeTo (pendB R) k o R.effs.length).small) := Ob.bound_small (see_bound (b := pendB R) hbd hval R.effs.length (Nat.le_refl _)) hN
  have HPL : Hid ((seeTo (pendB R) k o R.effs.length).plain) := see_plain hpl _
  have HER : Hid (((seeTo (pendB R) k o R.effs.length).says op x y).2.2 = 0) := her
  clear h h1 hen hk hobs hl hn0 hn1 hs0 ht0 ht1 hN hbd hval hop hkd hpl her
  generalize seeTo (pendB R) k o R.effs.length = o2 at *
  go_enter Tryz.func43, Tryz.ntmps43
  go_wp2_with fail
  refine HC.out.mono ?_
  rintro e w1 ⟨v, d, own', rfl, hE, hO, hB⟩
  have HB : Hid (Below w.heap.size w w1) := hB
  obtain ⟨tw, pw, hvf⟩ := ObAt.face hO
  subst hvf
  have HO : Hid (ObAt w1 own' d (.iface tw pw) o2) := hO
  clear hE hO hB HC
  go_wp2_with fail
  refine (ruleof_yes op w1 eb ef (HEN.out.below HB.out) HOP.out).mono ?_
  rintro e w2 ⟨rfl, hB2⟩
  unfold ruleV
  have HBX : Hid (Below w1.heap.size w1 w2) := hB2
  have HB2 : Hid (Below w.heap.size w w2) := HB.out.trans (hB2.mono HB.out.size)
  clear hB2
  go_wp2_with fail
  go_quiet (first | (go_at_call 64; exact Calls.quiet_of_same (kindOf_any _ hA1 hA2 _)))
  obtain ⟨w3, hw3⟩ : ∃ w3, w3 = (w2.alloc (.cells #[I (Wv.rKind op), I (Wv.rLeast op), I (Wv.rGreat op), I (Wv.rRef op), I (Wv.rLeastD op), I (Wv.rMostD op)] 140)).drewN nq := ⟨_, rfl⟩
  have HB13 : Hid (Below w1.heap.size w1 w3) := by rw [hw3]; exact belowN (HBX.out.alloc HBX.out.size _) nq
  have HRU3 : Hid (Blk w3 w2.heap.size #[I (Wv.rKind op), I (Wv.rLeast op), I (Wv.rGreat op), I (Wv.rRef op), I (Wv.rLeastD op), I (Wv.rMostD op)] 140) := by rw [hw3]; exact heap_alloc_new w2 _
  change Exit.then _ _ Exit.normal _ ((w2.alloc (.cells #[I (Wv.rKind op), I (Wv.rLeast op), I (Wv.rGreat op), I (Wv.rRef op), I (Wv.rLeastD op), I (Wv.rMostD op)] 140)).drewN nq)
  rw [← hw3]
  clear hw3
  have HO3 : Hid (ObAt w3 own' d (.iface tw pw) o2) := HO.out.keep (fun b hl _ => HB13.out.block b hl) (Ext.refl _ _)
  go_wp2_with (first
    | (refine wpList_invoke_effect rfl _ _ _ _ _ rfl (.iface tw pw) o2 op x y own' d (by simp [Act.eval]) (by simp [Act.eval]) (by simp [Act.eval]) (by simp [Act.eval]) HO3.out HSM.out HPL.out ?_; intro w4 hB4; have HB4 : Hid (Below w3.heap.size w3 w4) := hB4; clear hB4; rw [HER.out]; have HRU4 : Hid (Blk w4 w2.heap.size #[I (Wv.rKind op), I (Wv.rLeast op), I (Wv.rGreat op), I (Wv.rRef op), I (Wv.rLeastD op), I (Wv.rMostD op)] 140) := HRU3.out.kept HB4.out HRU3.out.lt; have hlt4 : w2.heap.size < w4.heap.size := HRU4.out.lt; have r0 : w4.cell? ⟨w2.heap.size, 0, none⟩ = some (I (Wv.rKind op)) := HRU4.out.cell 0; have r1 : w4.cell? ⟨w2.heap.size, 1, none⟩ = some (I (Wv.rLeast op)) := HRU4.out.cell 1; have r2 : w4.cell? ⟨w2.heap.size, 2, none⟩ = some (I (Wv.rGreat op)) := HRU4.out.cell 2; have r3 : w4.cell? ⟨w2.heap.size, 3, none⟩ = some (I (Wv.rRef op)) := HRU4.out.cell 3; have r4 : w4.cell? ⟨w2.heap.size, 4, none⟩ = some (I (Wv.rLeastD op)) := HRU4.out.cell 4; have r5 : w4.cell? ⟨w2.heap.size, 5, none⟩ = some (I (Wv.rMostD op)) := HRU4.out.cell 5)
    | fail)
  have hB3 : Below w.heap.size w w3 := HB.out.trans (HB13.out.mono HB.out.size)
  have hB4 : Below w.heap.size w w4 := hB3.trans (HB4.out.mono hB3.size)
  have HB5 : Hid (Below w.heap.size w (w4.alloc (.cells (efC (doM op k (o2.says op x y))) 149))) := hB4.alloc hB4.size _
  clear hB3 hB4
  refine (add_big (newTo own w.heap.size 0) c p R cg cc hp mv hv ev hs es (doM op k (o2.says op x y)) (Wv.rKind op) (Wv.rLeast op) (Wv.rGreat op) (Wv.rRef op) (Wv.rLeastD op) (Wv.rMostD op) (w4.alloc (.cells (efC (doM op k (o2.says op x y))) 149)) (HRW.out.keep (fun b hb _ => HB5.out.block b hb) (fun _ _ _ b hb _ => HB5.out.block b hb) (newTo_ext _ _ _)) (by have h := HLS.out; show ¬ ((0 : Nat) : Int) < Wv.rLeastD op; omega) (Or.inr HN5.out)).mono ?_
  rintro e w6 ⟨rfl, hA⟩
  have HA : Hid (Below w.heap.size w w6) := HB5.out.trans (hA.mono HB5.out.size)
  clear hA HB5
  go_wp2
  go_ret
  exact ⟨rfl, HA.out⟩

end Go.Proofs.YtfmcngncaffloaaGreatDoor

namespace Go.Proofs.YtfmcngncaffloaaGreatDoor
open Go.RowKit
set_option maxRecDepth 100000

set_option maxHeartbeats 1600000 in
theorem hold_full (own : Clr) (c p : Nat) (R : Rp) (cg cc hp : Nat) (mv hv ev : Value) (hs : List Bm) (es : List Em) (x : Bm) (w : World) (h : RpIn w own c p R cg cc hp mv hv ev hs es) (hf : ¬ hs.length < 6) :
    Calls Tryz.prog 123 #[.pointer (some ⟨p, 0, none⟩), bmV x] w fun e w' => e = .returned (.tuple #[]) ∧ Below w.heap.size w w' := by
  obtain ⟨wA, hwA⟩ : ∃ wA, wA = w.alloc (.cells (bmC x) 124) := ⟨_, rfl⟩
  have HBA : Hid (Below w.heap.size w wA) := by rw [hwA]; exact (Below.refl _ _).alloc (Nat.le_refl _) _
  have HX : Hid (Blk wA w.heap.size (bmC x) 124) := by rw [hwA]; exact heap_alloc_new w _
  have HR : Hid (RpIn wA own c p R cg cc hp mv hv ev hs es) := h.keep (fun b hb _ => HBA.out.block b hb) (fun d _ _ b hb _ => HBA.out.block b hb) (Ext.refl _ _)
  have hfi : decide ((hs.length : Int) < 6) = false := decide_eq_false (by omega)
  have c7 : wA.cell? ⟨p, 7, none⟩ = some (.pointer (some ⟨hp, 0, none⟩)) := HR.out.blk.cell 7
  clear h hf
  go_enter Tryz.func123, Tryz.ntmps123
  go_wp2_with fail
  change Code.wp _ _ _ _ (w.alloc (.cells (bmC x) 124))
  rw [← hwA]
  clear hwA
  go_quiet (first | (go_at_call 82; exact Calls.quiet_of_same (hlen_any hp hv hs _ (by first | exact HR.out.held.hpx | exact HR.out.held.hpx.kept (belowN (Below.refl _ _) _) | exact HR.out.held.hpx.kept (Below.refl _ _).drew))))
  go_wp2
  go_end0
  exact ⟨rfl, belowN HBA.out _⟩
set_option maxHeartbeats 1600000 in
theorem hold_has (own : Clr) (c p : Nat) (R : Rp) (cg cc hp : Nat) (mv hv ev : Value) (hs : List Bm) (es : List Em) (x : Bm) (w : World) (h : RpIn w own c p R cg cc hp mv hv ev hs es) (hf : hs.length < 6) (han : (hs.any fun m => likeB x.b m.b) = true) :
    Calls Tryz.prog 123 #[.pointer (some ⟨p, 0, none⟩), bmV x] w fun e w' => e = .returned (.tuple #[]) ∧ Below w.heap.size w w' := by
  obtain ⟨wA, hwA⟩ : ∃ wA, wA = w.alloc (.cells (bmC x) 124) := ⟨_, rfl⟩
  have HBA : Hid (Below w.heap.size w wA) := by rw [hwA]; exact (Below.refl _ _).alloc (Nat.le_refl _) _
  have HX : Hid (Blk wA w.heap.size (bmC x) 124) := by rw [hwA]; exact heap_alloc_new w _
  have HR : Hid (RpIn wA own c p R cg cc hp mv hv ev hs es) := h.keep (fun b hb _ => HBA.out.block b hb) (fun d _ _ b hb _ => HBA.out.block b hb) (Ext.refl _ _)
  have HRW : Hid (RpIn w own c p R cg cc hp mv hv ev hs es) := h
  have hfi : decide ((hs.length : Int) < 6) = true := decide_eq_true (by omega)
  have hfl : hs.length ≤ 1048576 := by omega
  have c7 : wA.cell? ⟨p, 7, none⟩ = some (.pointer (some ⟨hp, 0, none⟩)) := HR.out.blk.cell 7
  have HXD : Hid (Blk wA.drew w.heap.size (bmC x) 124) := HX.out
  have HAN : Hid ((hs.any fun m => likeB x.b m.b) = true) := han
  clear h hf han
  have d7 : wA.drew.cell? ⟨p, 7, none⟩ = some (.pointer (some ⟨hp, 0, none⟩)) := c7
  have dy0 : wA.drew.cell? ⟨w.heap.size, 0, none⟩ = some (I x.b.o) := HXD.out.cell 0
  have dy1 : wA.drew.cell? ⟨w.heap.size, 1, none⟩ = some (I x.b.s) := HXD.out.cell 1
  have dy2 : wA.drew.cell? ⟨w.heap.size, 2, none⟩ = some (I x.b.t) := HXD.out.cell 2
  have dy3 : wA.drew.cell? ⟨w.heap.size, 3, none⟩ = some (.slice x.ca x.b.clock.length x.cc) := HXD.out.cell 3
  have dy4 : wA.drew.cell? ⟨w.heap.size, 4, none⟩ = some (.slice x.ea x.b.effs.length x.ec) := HXD.out.cell 4
  go_enter Tryz.func123, Tryz.ntmps123
  go_wp2_with fail
  change Code.wp _ _ _ _ (w.alloc (.cells (bmC x) 124))
  rw [← hwA]
  clear hwA
  go_region_held_law (fun w' => w'.cell? ⟨p, 7, none⟩ = some (.pointer (some ⟨hp, 0, none⟩)) ∧ w'.cell? ⟨w.heap.size, 0, none⟩ = some (I x.b.o) ∧ w'.cell? ⟨w.heap.size, 1, none⟩ = some (I x.b.s) ∧ w'.cell? ⟨w.heap.size, 2, none⟩ = some (I x.b.t) ∧ w'.cell? ⟨w.heap.size, 3, none⟩ = some (.slice x.ca x.b.clock.length x.cc) ∧ w'.cell? ⟨w.heap.size, 4, none⟩ = some (.slice x.ea x.b.effs.length x.ec)) (exact ⟨by with_reducible assumption, by with_reducible assumption, by with_reducible assumption, by with_reducible assumption, by with_reducible assumption, by with_reducible assumption⟩)
    (first
    | (go_at_call 82; refine (hlen_any hp hv hs _ (HR.out.held.hpx.kept (Below.refl _ _).drew)).mono ?_; rintro e w3 ⟨rfl, hw3⟩; subst hw3)
    | (go_at_call 118; refine (like_any x _).mono ?_; rintro e w4 ⟨rfl, hw4⟩; have HB4 : Hid (Below wA.heap.size wA w4) := (by rw [hw4]; exact ((Below.refl _ _).drew).alloc (Nat.le_refl _) _); have HG4 : Hid (Blk w4 wA.heap.size (bmC x) 124) := (by rw [hw4]; exact heap_alloc_new wA.drew _); clear hw4; have HX4 : Hid (Blk w4 w.heap.size (bmC x) 124) := HX.out.kept HB4.out HX.out.lt; have f7 : w4.cell? ⟨p, 7, none⟩ = some (.pointer (some ⟨hp, 0, none⟩)) := cell_kept HB4.out c7; have fy0 : w4.cell? ⟨w.heap.size, 0, none⟩ = some (I x.b.o) := HX4.out.cell 0; have fy1 : w4.cell? ⟨w.heap.size, 1, none⟩ = some (I x.b.s) := HX4.out.cell 1; have fy2 : w4.cell? ⟨w.heap.size, 2, none⟩ = some (I x.b.t) := HX4.out.cell 2; have fy3 : w4.cell? ⟨w.heap.size, 3, none⟩ = some (.slice x.ca x.b.clock.length x.cc) := HX4.out.cell 3; have fy4 : w4.cell? ⟨w.heap.size, 4, none⟩ = some (.slice x.ea x.b.effs.length x.ec) := HX4.out.cell 4)
    | (go_at_call 167; refine (has_like hp hv hs x wA.heap.size _ (HR.out.held.hpx.kept HB4.out) HG4.out hfl).mono ?_; rintro e w5 ⟨rfl, hb5⟩; have HB5 : Hid (Below wA.heap.size wA w5) := HB4.out.trans (hb5.mono HB4.out.size); clear hb5; have HX5 : Hid (Blk w5 w.heap.size (bmC x) 124) := HX.out.kept HB5.out HX.out.lt; have g7 : w5.cell? ⟨p, 7, none⟩ = some (.pointer (some ⟨hp, 0, none⟩)) := cell_kept HB5.out c7; have gy0 : w5.cell? ⟨w.heap.size, 0, none⟩ = some (I x.b.o) := HX5.out.cell 0; have gy1 : w5.cell? ⟨w.heap.size, 1, none⟩ = some (I x.b.s) := HX5.out.cell 1; have gy2 : w5.cell? ⟨w.heap.size, 2, none⟩ = some (I x.b.t) := HX5.out.cell 2; have gy3 : w5.cell? ⟨w.heap.size, 3, none⟩ = some (.slice x.ca x.b.clock.length x.cc) := HX5.out.cell 3; have gy4 : w5.cell? ⟨w.heap.size, 4, none⟩ = some (.slice x.ea x.b.effs.length x.ec) := HX5.out.cell 4; rw [HAN.out]))
  go_wp2
  go_end0
  exact ⟨rfl, HBA.out.trans (HB5.out.mono HBA.out.size)⟩

end Go.Proofs.YtfmcngncaffloaaGreatDoor

namespace Go.Proofs.YtfmcngncaffloaaGreatDoor
open Go.RowKit
set_option maxRecDepth 100000

theorem HeldAt.put {w w' : World} {own : Clr} {c hp : Nat} {hv : Value} {hs l : List Bm} (h : HeldAt w own c hp hv hs) (hc : 0 < c) (ho : HpOk w hp hv l w') (hm : ∀ m ∈ l, BatIn w own m) : ∃ hv', HeldAt w' (newTo own w.heap.size c) c hp hv' l ∧ TchC own c w w' := by
  obtain ⟨hv', h1, hT, hv⟩ := ho
  have hTc : TchC own c w w' := hT.mono (fun k _ hk => by rcases hk with rfl | hk; exact h.own1; exact h.own2 k hk)
  refine ⟨hv', ⟨h1, (newTo_same _ _ _ _ h.hpx.blk.lt).trans h.own1, fun g e => ?_, fun m hx => (hm m hx).keep (hTc.same (fun k e e2 => by omega)) (newTo_ext _ _ _)⟩, hTc⟩
  rcases hv g e with e2 | e2
  · exact (newTo_same _ _ _ _ (h.hpx.row.lt g e2).2).trans (h.own2 g e2)
  · exact newTo_new _ _ _ _ e2
theorem RpIn.put {w w' : World} {own : Clr} {c p : Nat} {R : Rp} {cg cc hp : Nat} {mv hv ev : Value} {hs l : List Bm} {es : List Em} (h : RpIn w own c p R cg cc hp mv hv ev hs es) (ho : HpOk w hp hv l w') (hm : ∀ m ∈ l, BatIn w own m) : ∃ hv', RpIn w' (newTo own w.heap.size (c + 9)) c p { R with held := l.map (·.b) } cg cc hp mv hv' ev l es ∧ TchC own (c + 9) w w' := by
  obtain ⟨hv', h1, hT⟩ := h.held.put (by omega) ho hm
  have he := newTo_ext own w.heap.size (c + 9)
  have hS : ∀ d, d ≠ c + 9 → Same own d w w' := fun d hd => hT.same (fun k e e2 => hd (e.symm.trans e2))
  exact ⟨hv', ⟨(hS c (by omega) p h.blk.lt h.own1).trans h.blk, (hS c (by omega) cg h.clk.lt h.own2).trans h.clk, (he p h.blk.lt).trans h.own1, (he cg h.clk.lt).trans h.own2, h.obs.keep (fun d a b => hS d (by omega)) he, h1, rfl, h.effs.keep (hS 0 (by omega)) (hS _ (by omega)) he, h.effsE⟩, hT⟩
/-- What hold leaves. -/
def HoldOk (w : World) (own : Clr) (c p : Nat) (R : Rp) (cg cc hp : Nat) (mv ev : Value) (hs : List Bm) (es : List Em) (w' : World) : Prop := ∃ own' hv', Ext own own' w.heap.size ∧ RpIn w' own' c p R cg cc hp mv hv' ev hs es ∧ TchR own c w w'
theorem hold_end {w w5 w6 : World} {own : Clr} {c p : Nat} {R : Rp} {cg cc hp : Nat} {mv hv ev : Value} {hs : List Bm} {es : List Em} {x : Bm} (h : RpIn w own c p R cg cc hp mv hv ev hs es) (hB : Below w.heap.size w w5) (hx : BatIn w own x) (ho : HpOk w5 hp hv (pushP lessM hs x) w6) : HoldOk w own c p { R with held := (pushP lessM hs x).map (·.b) } cg cc hp mv ev (pushP lessM hs x) es w6 := by
  have h5 : RpIn w5 (newTo own w.heap.size 0) c p R cg cc hp mv hv ev hs es := h.keep (fun b hb _ => hB.block b hb) (fun _ _ _ b hb _ => hB.block b hb) (newTo_ext _ _ _)
  obtain ⟨hv', hR, hT⟩ := h5.put ho (fun m hm => by
    rcases mem_pushP _ _ _ m hm with hm | hm
    · exact h5.held.bats m hm
    · rw [hm]; exact hx.keep (fun b hb _ => hB.block b hb) (newTo_ext _ _ _))
  refine ⟨_, hv', (newTo_ext own w.heap.size 0).trans (newTo_ext _ _ _) hB.size, hR, (Tch.below hB).trans hT (fun _ _ h => h) (fun k hk e => ?_)⟩
  have e2 : newTo own w.heap.size 0 k = c + 9 := e
  rw [newTo_same _ _ _ _ hk] at e2
  exact ⟨by omega, by omega⟩
set_option maxHeartbeats 1600000 in
theorem hold_push (own : Clr) (c p : Nat) (R : Rp) (cg cc hp : Nat) (mv hv ev : Value) (hs : List Bm) (es : List Em) (x : Bm) (w : World) (h : RpIn w own c p R cg cc hp mv hv ev hs es) (hf : hs.length < 6) (han : (hs.any fun m => likeB x.b m.b) = false) (hbx : BatIn w own x) :
    Calls Tryz.prog 123 #[.pointer (some ⟨p, 0, none⟩), bmV x] w fun e w' => e = .returned (.tuple #[]) ∧ HoldOk w own c p { R with held := (pushP lessM hs x).map (·.b) } cg cc hp mv ev (pushP lessM hs x) es w' := by
  obtain ⟨wA, hwA⟩ : ∃ wA, wA = w.alloc (.cells (bmC x) 124) := ⟨_, rfl⟩
  have HBA : Hid (Below w.heap.size w wA) := by rw [hwA]; exact (Below.refl _ _).alloc (Nat.le_refl _) _
  have HX : Hid (Blk wA w.heap.size (bmC x) 124) := by rw [hwA]; exact heap_alloc_new w _
  have HR : Hid (RpIn wA own c p R cg cc hp mv hv ev hs es) := h.keep (fun b hb _ => HBA.out.block b hb) (fun d _ _ b hb _ => HBA.out.block b hb) (Ext.refl _ _)
  have HRW : Hid (RpIn w own c p R cg cc hp mv hv ev hs es) := h
  have hfi : decide ((hs.length : Int) < 6) = true := decide_eq_true (by omega)
  have hfl : hs.length ≤ 1000000 := by omega
  have c7 : wA.cell? ⟨p, 7, none⟩ = some (.pointer (some ⟨hp, 0, none⟩)) := HR.out.blk.cell 7
  have HXD : Hid (Blk wA.drew w.heap.size (bmC x) 124) := HX.out
  have HAN : Hid ((hs.any fun m => likeB x.b m.b) = false) := han
  have HBX : Hid (BatIn w own x) := hbx
  clear h hf han hbx
  have d7 : wA.drew.cell? ⟨p, 7, none⟩ = some (.pointer (some ⟨hp, 0, none⟩)) := c7
  have dy0 : wA.drew.cell? ⟨w.heap.size, 0, none⟩ = some (I x.b.o) := HXD.out.cell 0
  have dy1 : wA.drew.cell? ⟨w.heap.size, 1, none⟩ = some (I x.b.s) := HXD.out.cell 1
  have dy2 : wA.drew.cell? ⟨w.heap.size, 2, none⟩ = some (I x.b.t) := HXD.out.cell 2
  have dy3 : wA.drew.cell? ⟨w.heap.size, 3, none⟩ = some (.slice x.ca x.b.clock.length x.cc) := HXD.out.cell 3
  have dy4 : wA.drew.cell? ⟨w.heap.size, 4, none⟩ = some (.slice x.ea x.b.effs.length x.ec) := HXD.out.cell 4
  go_enter Tryz.func123, Tryz.ntmps123
  go_wp2_with fail
  change Code.wp _ _ _ _ (w.alloc (.cells (bmC x) 124))
  rw [← hwA]
  clear hwA
  go_region_held_law (fun w' => w'.cell? ⟨p, 7, none⟩ = some (.pointer (some ⟨hp, 0, none⟩)) ∧ w'.cell? ⟨w.heap.size, 0, none⟩ = some (I x.b.o) ∧ w'.cell? ⟨w.heap.size, 1, none⟩ = some (I x.b.s) ∧ w'.cell? ⟨w.heap.size, 2, none⟩ = some (I x.b.t) ∧ w'.cell? ⟨w.heap.size, 3, none⟩ = some (.slice x.ca x.b.clock.length x.cc) ∧ w'.cell? ⟨w.heap.size, 4, none⟩ = some (.slice x.ea x.b.effs.length x.ec)) (exact ⟨by with_reducible assumption, by with_reducible assumption, by with_reducible assumption, by with_reducible assumption, by with_reducible assumption, by with_reducible assumption⟩)
    (first
    | (go_at_call 82; refine (hlen_any hp hv hs _ (HR.out.held.hpx.kept (Below.refl _ _).drew)).mono ?_; rintro e w3 ⟨rfl, hw3⟩; subst hw3)
    | (go_at_call 118; refine (like_any x _).mono ?_; rintro e w4 ⟨rfl, hw4⟩; have HB4 : Hid (Below wA.heap.size wA w4) := (by rw [hw4]; exact ((Below.refl _ _).drew).alloc (Nat.le_refl _) _); have HG4 : Hid (Blk w4 wA.heap.size (bmC x) 124) := (by rw [hw4]; exact heap_alloc_new wA.drew _); clear hw4; have HX4 : Hid (Blk w4 w.heap.size (bmC x) 124) := HX.out.kept HB4.out HX.out.lt; have f7 : w4.cell? ⟨p, 7, none⟩ = some (.pointer (some ⟨hp, 0, none⟩)) := cell_kept HB4.out c7; have fy0 : w4.cell? ⟨w.heap.size, 0, none⟩ = some (I x.b.o) := HX4.out.cell 0; have fy1 : w4.cell? ⟨w.heap.size, 1, none⟩ = some (I x.b.s) := HX4.out.cell 1; have fy2 : w4.cell? ⟨w.heap.size, 2, none⟩ = some (I x.b.t) := HX4.out.cell 2; have fy3 : w4.cell? ⟨w.heap.size, 3, none⟩ = some (.slice x.ca x.b.clock.length x.cc) := HX4.out.cell 3; have fy4 : w4.cell? ⟨w.heap.size, 4, none⟩ = some (.slice x.ea x.b.effs.length x.ec) := HX4.out.cell 4)
    | (go_at_call 167; refine (has_like hp hv hs x wA.heap.size _ (HR.out.held.hpx.kept HB4.out) HG4.out (Nat.le_trans hfl (by decide))).mono ?_; rintro e w5 ⟨rfl, hb5⟩; have HB5 : Hid (Below wA.heap.size wA w5) := HB4.out.trans (hb5.mono HB4.out.size); clear hb5; have HX5 : Hid (Blk w5 w.heap.size (bmC x) 124) := HX.out.kept HB5.out HX.out.lt; have g7 : w5.cell? ⟨p, 7, none⟩ = some (.pointer (some ⟨hp, 0, none⟩)) := cell_kept HB5.out c7; have gy0 : w5.cell? ⟨w.heap.size, 0, none⟩ = some (I x.b.o) := HX5.out.cell 0; have gy1 : w5.cell? ⟨w.heap.size, 1, none⟩ = some (I x.b.s) := HX5.out.cell 1; have gy2 : w5.cell? ⟨w.heap.size, 2, none⟩ = some (I x.b.t) := HX5.out.cell 2; have gy3 : w5.cell? ⟨w.heap.size, 3, none⟩ = some (.slice x.ca x.b.clock.length x.cc) := HX5.out.cell 3; have gy4 : w5.cell? ⟨w.heap.size, 4, none⟩ = some (.slice x.ea x.b.effs.length x.ec) := HX5.out.cell 4; rw [HAN.out]))
  go_wp2_with fail
  have hBW : Below w.heap.size w w5 := HBA.out.trans (HB5.out.mono HBA.out.size)
  have HBW : Hid (Below w.heap.size w w5) := hBW
  clear hBW
  go_region_law (first
    | (go_simp; go_at_call 162; refine (hpush_any hp hv hs x _ (by first | exact HR.out.held.hpx.kept HB5.out.drew | exact HR.out.held.hpx.kept HB5.out) hfl).mono ?_; rintro e w6 ⟨rfl, hO6⟩; have HE : Hid (HoldOk w own c p { R with held := (pushP lessM hs x).map (·.b) } cg cc hp mv ev (pushP lessM hs x) es w6) := (by first | exact hold_end HRW.out HBW.out.drew HBX.out hO6 | exact hold_end HRW.out HBW.out HBX.out hO6); clear hO6))
  all_goals
    (go_wp2
     go_end0
     exact ⟨rfl, HE.out⟩)

end Go.Proofs.YtfmcngncaffloaaGreatDoor

namespace Go.Proofs.YtfmcngncaffloaaGreatDoor
open Go.RowKit
set_option maxRecDepth 100000

/-- What a batch that may be gives. -/
theorem isB_parts {b : Wv.Bt} (h : Wv.isB b = true) : b.clock.length ≤ 4 ∧ 0 ≤ b.o ∧ b.o < b.clock.length ∧ 1 ≤ b.s ∧ b.s ≤ 30 ∧ 1 ≤ b.t ∧ b.t ≤ 200 ∧ b.effs.length ≤ 5 := by
  simp only [Wv.isB, Wv.headOk, Bool.and_eq_true, decide_eq_true_eq] at h
  obtain ⟨⟨⟨⟨⟨⟨h1, h2⟩, h3⟩, h4⟩, h5⟩, _⟩, _⟩ := h
  exact ⟨h1.2, h2.1, by omega, h3.1, h3.2, h4.1, h4.2, h5.2⟩
theorem isB_vals {b : Wv.Bt} (h : Wv.isB b = true) : ∀ e ∈ b.effs, 0 ≤ e.ob ∧ e.ob < 8 ∧ -1000 ≤ e.va ∧ e.va ≤ 1000 ∧ e.dots.length ≤ 1048576 := by
  intro e he
  obtain ⟨k, hk, rfl⟩ := List.mem_iff_getElem.1 he
  simp only [Wv.isB, Bool.and_eq_true] at h
  have h := effsTo_at b b.effs.length k hk h.2
  have e : b.effs.getD k ⟨0, 0, 0, ⟨0, 0, 0⟩, []⟩ = b.effs[k] := by simp [hk]
  rw [e] at h
  simp only [Wv.effOk, Wv.isOp, Bool.and_eq_true, decide_eq_true_eq] at h
  obtain ⟨⟨⟨⟨⟨_, h2⟩, h3⟩, _⟩, h5⟩, _⟩ := h
  have a1 : -1000 ≤ Wv.rLeast b.effs[k].op := by unfold Wv.rLeast; split <;> omega
  have a2 : Wv.rGreat b.effs[k].op ≤ 1000 := by unfold Wv.rGreat; repeat' split <;> omega
  have a3 : Wv.rMostD b.effs[k].op ≤ 150 := by unfold Wv.rMostD; repeat' split <;> omega
  exact ⟨h2.1.1, by omega, by omega, by omega, by omega⟩
/-- How many batches are delivered. -/
def sumN : List Int → Nat
  | [] => 0
  | z :: l => z.toNat + sumN l
theorem sumN_most (n : Nat) : ∀ l : List Int, (∀ z ∈ l, 0 ≤ z ∧ z ≤ n) → sumN l ≤ n * l.length
  | [], _ => by simp [sumN]
  | z :: l, h => by
    have h1 := h z (by simp)
    have := sumN_most n l (fun y hy => h y (by simp [hy]))
    simp only [sumN, List.length_cons, Nat.mul_succ]
    omega
theorem sumN_set : ∀ (l : List Int) (k : Nat) (z : Int), k < l.length → 0 ≤ l.getD k 0 → z = l.getD k 0 + 1 → sumN (l.set k z) = sumN l + 1
  | y :: l, 0, z, _, h0, hz => by
    simp only [List.set_cons_zero, sumN]
    simp at h0 hz
    omega
  | y :: l, k + 1, z, hk, h0, hz => by
    simp only [List.set_cons_succ, sumN]
    have := sumN_set l k z (by simpa using hk) (by simpa using h0) (by simpa using hz)
    omega
/-- What is always so of a replica that is up. -/
structure Rok (R : Rp) : Prop where
  obs8 : R.obs.length = 8
  bd : ∀ o ∈ R.obs, o.bound (5 * sumN R.clock)
  logl : R.log.length ≤ 70000 * sumN R.clock
  len : R.clock.length ≤ 4
  clk : ∀ z ∈ R.clock, 0 ≤ z ∧ z ≤ 30
  held : ∀ b ∈ R.held, Wv.isB b = true
  most : R.held.length ≤ 6
  time0 : 0 ≤ R.time
  time1 : R.time ≤ 200
theorem frameB_short {b : Wv.Bt} (hb : Wv.isB b = true) : (Wv.frameB b).length ≤ 70000 := by have := Wv.frame_len b hb; omega
theorem Rok.sum {R : Rp} (h : Rok R) : sumN R.clock ≤ 120 := by
  have := sumN_most 30 R.clock (fun z hz => ⟨(h.clk z hz).1, by have := (h.clk z hz).2; omega⟩)
  have := h.len
  omega
theorem getD_of {l : List Int} {P : Int → Prop} (h : ∀ z ∈ l, P z) (h0 : P 0) (k : Nat) : P (l.getD k 0) := by
  by_cases hk : k < l.length
  · have : l.getD k 0 = l[k] := by simp [hk]
    rw [this]; exact h _ (List.getElem_mem _)
  · have : l.getD k 0 = 0 := by simp [hk]
    rw [this]; exact h0
theorem Rok.getD {R : Rp} (h : Rok R) (k : Nat) : 0 ≤ R.clock.getD k 0 ∧ R.clock.getD k 0 ≤ 30 := getD_of (P := fun z => 0 ≤ z ∧ z ≤ 30) h.clk ⟨by omega, by omega⟩ k
theorem bound_obsTo (b : Wv.Bt) (obs : List Ob) (N : Nat) (hbd : ∀ o ∈ obs, o.bound N) (hval : ∀ e ∈ b.effs, 0 ≤ e.ob ∧ e.ob < 8 ∧ -1000 ≤ e.va ∧ e.va ≤ 1000 ∧ e.dots.length ≤ 1048576) : ∀ k, k ≤ b.effs.length → ∀ o ∈ obsTo b obs k, o.bound (N + k) := by
  intro k
  induction k with
  | zero => intro _; exact hbd
  | succ k ih =>
    intro hk
    have hq : b.effs[k]? = some b.effs[k] := List.getElem?_eq_getElem (by omega)
    rw [obsTo, hq]
    obtain ⟨_, _, h1, h2, _⟩ := hval _ (List.getElem_mem (by omega : k < b.effs.length))
    exact bound_step _ _ (ih (by omega)) h1 h2
theorem due_parts {cl : List Int} {b : Wv.Bt} (h : dueB cl b = true) : b.clock.length = cl.length ∧ (∀ j, j < b.clock.length → b.clock.getD j 0 ≤ cl.getD j 0) ∧ b.s = cl.getD b.o.toNat 0 + 1 := by
  simp only [dueB, Bool.and_eq_true, decide_eq_true_eq, List.all_eq_true, List.mem_range] at h
  exact ⟨h.1.1, h.1.2, h.2⟩
theorem Rok.deliver {R : Rp} {b : Wv.Bt} {fr : List UInt8} {hs : List Wv.Bt} (h : Rok R) (hb : Wv.isB b = true) (hf : fr.length ≤ 70000) (hd : dueB R.clock b = true) (hh : ∀ x ∈ hs, Wv.isB x = true) (hl : hs.length ≤ 6) : Rok (deliverR R b fr hs) := by
  obtain ⟨p1, p2, p3, p4, p5, p6, p7, p8⟩ := isB_parts hb
  obtain ⟨d1, _, d3⟩ := due_parts hd
  have hk : b.o.toNat < R.clock.length := by omega
  have hs1 : sumN (R.clock.set b.o.toNat b.s) = sumN R.clock + 1 := sumN_set _ _ _ hk (h.getD _).1 d3
  have h1 := h.logl
  have h2 := h.time0
  have h3 := h.time1
  refine ⟨(obsTo_len _ _ _).trans h.obs8, fun o ho => ?_, ?_, by show (R.clock.set _ _).length ≤ 4; rw [List.length_set]; exact h.len, fun z hz => ?_, hh, hl, ?_, ?_⟩
  · show o.bound (5 * sumN (R.clock.set b.o.toNat b.s))
    rw [hs1]
    exact Ob.bound_mono (bound_obsTo b R.obs _ h.bd (isB_vals hb) _ (Nat.le_refl _) o ho) (by omega)
  · show (R.log ++ fr).length ≤ 70000 * sumN (R.clock.set b.o.toNat b.s)
    rw [hs1, List.length_append]
    omega
  · rcases List.mem_or_eq_of_mem_set hz with hz | hz
    · exact h.clk z hz
    · omega
  · show 0 ≤ max R.time b.t; omega
  · show max R.time b.t ≤ 200; omega
theorem Rok.heldTo {R : Rp} {hs : List Wv.Bt} (h : Rok R) (hh : ∀ x ∈ hs, Wv.isB x = true) (hl : hs.length ≤ 6) : Rok { R with held := hs } := ⟨h.obs8, h.bd, h.logl, h.len, h.clk, hh, hl, h.time0, h.time1⟩
theorem popAll_fits {α : Type} (less : α → α → Bool) (f : α → Bool) (n : Nat) : ∀ (l os : List α) (x : α), (popAll less f n l os).1 = some x → f x = true := by
  induction n with
  | zero => intro l os x h; simp [popAll] at h
  | succ n ih =>
    intro l os x h
    rw [popAll] at h
    split at h
    · simp at h
    · split at h
      · rename_i hq; simp only [Option.some.injEq] at h; rw [← h]; exact hq
      · exact ih _ _ x h
theorem takeP_fits {α : Type} {less : α → α → Bool} {f : α → Bool} {bs : List α} {x : α} (h : (takeP less f bs).1 = some x) : f x = true := popAll_fits less f _ _ _ x h

/-- What is held back and due is delivered, until nothing is. -/
def heldAll : Nat → Rp → List Bm → Rp × List Bm
  | 0, R, hs => (R, hs)
  | n + 1, R, hs => match takeP lessM (fun m => dueB R.clock m.b) hs with
    | (none, l) => ({ R with held := l.map (·.b) }, l)
    | (some x, l) => heldAll n (deliverR R x.b (Wv.frameB x.b) ((takeP lessM (fun m => likeB x.b m.b) l).2.map (·.b))) (takeP lessM (fun m => likeB x.b m.b) l).2
theorem heldAll_none {n : Nat} {R : Rp} {hs : List Bm} (h : (takeP lessM (fun m => dueB R.clock m.b) hs).1 = none) : heldAll (n + 1) R hs = ({ R with held := (takeP lessM (fun m => dueB R.clock m.b) hs).2.map (·.b) }, (takeP lessM (fun m => dueB R.clock m.b) hs).2) := by
  rw [heldAll]
  generalize takeP lessM (fun m => dueB R.clock m.b) hs = q at *
  obtain ⟨a, l⟩ := q
  simp only at h
  subst h
  rfl
theorem heldAll_some {n : Nat} {R : Rp} {hs : List Bm} {x : Bm} (h : (takeP lessM (fun m => dueB R.clock m.b) hs).1 = some x) : heldAll (n + 1) R hs = heldAll n (deliverR R x.b (Wv.frameB x.b) ((takeP lessM (fun m => likeB x.b m.b) (takeP lessM (fun m => dueB R.clock m.b) hs).2).2.map (·.b))) (takeP lessM (fun m => likeB x.b m.b) (takeP lessM (fun m => dueB R.clock m.b) hs).2).2 := by
  rw [heldAll]
  generalize takeP lessM (fun m => dueB R.clock m.b) hs = q at *
  obtain ⟨a, l⟩ := q
  simp only at h
  subst h
  rfl

end Go.Proofs.YtfmcngncaffloaaGreatDoor

namespace Go.Proofs.YtfmcngncaffloaaGreatDoor
open Go.RowKit
set_option maxRecDepth 100000

/-! What is done to a list of things in order is done to what is told of them. -/
section
variable {α β : Type} (g : α → β) (less : α → α → Bool) (less' : β → β → Bool)
theorem updP_map (hl : ∀ x y, less x y = less' (g x) (g y)) (bs : List α) (l c : Nat) : updP less' (bs.map g) l c = updP less bs l c := by
  unfold updP
  simp only [List.getElem?_map]
  cases bs[c]? <;> cases bs[l]? <;> simp [hl]
theorem leastP_map (hl : ∀ x y, less x y = less' (g x) (g y)) (bs : List α) (i : Nat) : leastP less' (bs.map g) i = leastP less bs i := by
  unfold leastP
  rw [updP_map g less less' hl, updP_map g less less' hl]
theorem swapP_map (bs : List α) (i j : Nat) : swapP (bs.map g) i j = (swapP bs i j).map g := by
  unfold swapP
  simp only [List.getElem?_map]
  cases bs[i]? <;> cases bs[j]? <;> simp [List.map_set]
theorem sinkP_map (hl : ∀ x y, less x y = less' (g x) (g y)) (bs : List α) (i : Nat) : sinkP less' (bs.map g) i = (sinkP less bs i).map g := by
  induction hn : bs.length - i using Nat.strongRecOn generalizing bs i with
  | _ n ih =>
    rw [sinkP.eq_def less' (bs.map g) i, sinkP.eq_def less bs i]
    rw [leastP_map g less less' hl, List.length_map]
    split
    · rename_i hq
      have h1 := leastP_ge less bs i
      have h2 := leastP_lt less bs i hq.2
      have h3 := hq.1
      rw [swapP_map]
      exact ih (bs.length - leastP less bs i) (by omega) (swapP bs i (leastP less bs i)) (leastP less bs i) (by rw [swapP_len])
    · rfl
theorem riseP_map (hl : ∀ x y, less x y = less' (g x) (g y)) (bs : List α) (i : Nat) : riseP less' (bs.map g) i = (riseP less bs i).map g := by
  induction i using Nat.strongRecOn generalizing bs with
  | _ i ih =>
    rw [riseP.eq_def less' (bs.map g) i, riseP.eq_def less bs i, updP_map g less less' hl]
    split
    · rw [swapP_map]
      exact ih ((i - 1) / 2) (by omega) _
    · rfl
theorem pushP_map (hl : ∀ x y, less x y = less' (g x) (g y)) (bs : List α) (x : α) : pushP less' (bs.map g) (g x) = (pushP less bs x).map g := by
  unfold pushP
  rw [← riseP_map g less less' hl]
  simp
theorem pushAll_map (hl : ∀ x y, less x y = less' (g x) (g y)) (os : List α) : ∀ l : List α, (os.map g).foldl (pushP less') (l.map g) = (os.foldl (pushP less) l).map g := by
  induction os with
  | nil => intro l; rfl
  | cons x os ih =>
    intro l
    simp only [List.map_cons, List.foldl_cons]
    rw [pushP_map g less less' hl, ih]
theorem popP_map (hl : ∀ x y, less x y = less' (g x) (g y)) (bs : List α) : popP less' (bs.map g) = (popP less bs).map fun p => (g p.1, p.2.map g) := by
  cases bs with
  | nil => rfl
  | cons x l =>
    simp only [popP, List.map_cons, Option.map_some, Option.some.injEq, Prod.mk.injEq, true_and]
    rw [← sinkP_map g less less' hl]
    have e : ∀ (n : Nat) (h1 : n < (g x :: l.map g).length) (h2 : n < (x :: l).length), (g x :: l.map g)[n] = g ((x :: l)[n]) := by intro n h1 h2; cases n <;> simp
    have e2 := e (l.map g).length (by simp) (by simp)
    rw [e2]
    simp [List.map_take]
theorem popAll_map (hl : ∀ x y, less x y = less' (g x) (g y)) (f : α → Bool) (f' : β → Bool) (hf : ∀ x, f x = f' (g x)) (n : Nat) : ∀ bs os : List α, popAll less' f' n (bs.map g) (os.map g) = ((popAll less f n bs os).1.map g, (popAll less f n bs os).2.1.map g, (popAll less f n bs os).2.2.map g) := by
  induction n with
  | zero => intro bs os; rfl
  | succ n ih =>
    intro bs os
    rw [popAll, popAll, popP_map g less less' hl]
    cases popP less bs with
    | none => rfl
    | some p =>
      obtain ⟨x, l⟩ := p
      simp only [Option.map_some]
      rw [← hf]
      split
      · rfl
      · rw [← ih l (os ++ [x])]
        simp
theorem takeP_map (hl : ∀ x y, less x y = less' (g x) (g y)) (f : α → Bool) (f' : β → Bool) (hf : ∀ x, f x = f' (g x)) (bs : List α) : takeP less' f' (bs.map g) = ((takeP less f bs).1.map g, (takeP less f bs).2.map g) := by
  unfold takeP
  have h := popAll_map g less less' hl f f' hf (bs.length + 1) bs []
  simp only [List.map_nil] at h
  simp only [List.length_map]
  rw [h]
  simp only [Prod.mk.injEq, true_and]
  exact pushAll_map g less less' hl _ _
end
theorem takeM_map (f : Wv.Bt → Bool) (hs : List Bm) : takeP earlierB f (hs.map (·.b)) = ((takeP lessM (fun m => f m.b) hs).1.map (·.b), (takeP lessM (fun m => f m.b) hs).2.map (·.b)) :=
  takeP_map (·.b) lessM earlierB (fun _ _ => rfl) _ f (fun _ => rfl) hs
theorem pushM_map (hs : List Bm) (x : Bm) : pushP earlierB (hs.map (·.b)) x.b = (pushP lessM hs x).map (·.b) := pushP_map (·.b) lessM earlierB (fun _ _ => rfl) hs x

/-- What is held back and due is delivered, until nothing is: told of the batches alone. -/
def heldR : Nat → Rp → Rp
  | 0, R => R
  | n + 1, R => match takeP earlierB (dueB R.clock) R.held with
    | (none, l) => { R with held := l }
    | (some x, l) => heldR n (deliverR R x (Wv.frameB x) (takeP earlierB (likeB x) l).2)
theorem heldAll_R (n : Nat) : ∀ (R : Rp) (hs : List Bm), R.held = hs.map (·.b) → (heldAll n R hs).1 = heldR n R ∧ (heldAll n R hs).2.map (·.b) = (heldR n R).held := by
  induction n with
  | zero => intro R hs h; exact ⟨rfl, h.symm⟩
  | succ n ih =>
    intro R hs h
    have hm := takeM_map (dueB R.clock) hs
    rw [heldR, h, hm]
    cases hq : (takeP lessM (fun m => dueB R.clock m.b) hs).1 with
    | none =>
      rw [heldAll_none hq]
      exact ⟨rfl, rfl⟩
    | some x =>
      rw [heldAll_some hq]
      simp only [Option.map_some]
      have hm2 := takeM_map (likeB x.b) (takeP lessM (fun m => dueB R.clock m.b) hs).2
      rw [hm2]
      exact ih _ _ rfl
theorem Rok.heldR (n : Nat) : ∀ R : Rp, Rok R → Rok (heldR n R) := by
  induction n with
  | zero => intro R h; exact h
  | succ n ih =>
    intro R h
    have hl := takeP_len earlierB (dueB R.clock) R.held
    have hm := fun m => mem_takeP earlierB (dueB R.clock) R.held m
    have hf := @takeP_fits _ earlierB (dueB R.clock) R.held
    rw [Go.Proofs.YtfmcngncaffloaaGreatDoor.heldR]
    generalize takeP earlierB (dueB R.clock) R.held = q at *
    obtain ⟨a, l⟩ := q
    cases a with
    | none =>
      exact h.heldTo (fun x hx => h.held x (hm x (Or.inr hx))) (by have := h.most; simp at hl; omega)
    | some x =>
      have hl2 := takeP_len earlierB (likeB x) l
      have hm2 := fun m => mem_takeP earlierB (likeB x) l m
      refine ih _ (h.deliver (h.held x (hm x (Or.inl (by simp)))) (frameB_short (h.held x (hm x (Or.inl (by simp))))) (hf rfl) (fun y hy => h.held y (hm y (Or.inr (hm2 y (Or.inr hy))))) ?_)
      have := h.most
      simp at hl
      omega

end Go.Proofs.YtfmcngncaffloaaGreatDoor

namespace Go.Proofs.YtfmcngncaffloaaGreatDoor
open Go.RowKit
set_option maxRecDepth 100000

/-- What is still to come, with this answer of Take in hand. -/
def stepH (n : Nat) (R : Rp) (r : Option Bm) (l : List Bm) : Rp × List Bm := match r with
  | none => ({ R with held := l.map (·.b) }, l)
  | some x => heldAll n (deliverR R x.b (Wv.frameB x.b) ((takeP lessM (fun m => likeB x.b m.b) l).2.map (·.b))) (takeP lessM (fun m => likeB x.b m.b) l).2
theorem heldAll_step (n : Nat) (R : Rp) (hs : List Bm) : heldAll (n + 1) R hs = stepH n R (takeP lessM (fun m => dueB R.clock m.b) hs).1 (takeP lessM (fun m => dueB R.clock m.b) hs).2 := by
  cases h : (takeP lessM (fun m => dueB R.clock m.b) hs).1 with
  | none => exact heldAll_none h
  | some x => exact heldAll_some h
theorem HeldAt.ats {w : World} {own : Clr} {c hp : Nat} {hv : Value} {hs : List Bm} (h : HeldAt w own c hp hv hs) (hc : 0 < c) (hb : ∀ m ∈ hs, Wv.isB m.b = true) : ∀ w', Tch (fun k => k = hp ∨ hv.ownBlock = some k) w w' → ∀ x ∈ hs, At w' x.ca (x.b.clock.map I) ∧ 0 ≤ x.b.o ∧ x.b.o < x.b.clock.length := by
  intro w' hT x hx
  have h0 : Same own 0 w w' := hT.same (fun k e hk => by
    rcases hk with rfl | hk
    · have := h.own1; omega
    · have := h.own2 k hk; omega)
  obtain ⟨_, h1, h2, _⟩ := isB_parts (hb x hx)
  exact ⟨((h.bats x hx).keep h0 (Ext.refl _ _)).k.at.1, h1, h2⟩

/-- Deliveries of what was held back, under way. -/
structure DhAt (w wr : World) (own own' : Clr) (c p : Nat) (R : Rp) (cg cc hp : Nat) (mv hv ev : Value) (l : List Bm) (es : List Em) : Prop where
  rp : RpIn wr own' c p R cg cc hp mv hv ev l es
  ext : Ext own own' w.heap.size
  tch : TchR own c w wr
theorem DhAt.took {w wr w' : World} {own own' : Clr} {c p : Nat} {R : Rp} {cg cc hp : Nat} {mv hv ev : Value} {hs l : List Bm} {es : List Em} (h : DhAt w wr own own' c p R cg cc hp mv hv ev hs es) (ho : HpOk wr hp hv l w') (hm : ∀ m ∈ l, m ∈ hs) : ∃ own2 hv', DhAt w w' own own2 c p { R with held := l.map (·.b) } cg cc hp mv hv' ev l es ∧ Ext own' own2 wr.heap.size ∧ TchC own' (c + 9) wr w' := by
  obtain ⟨hv', hR, hT⟩ := h.rp.took ho hm
  refine ⟨_, hv', ⟨hR, h.ext.trans (newTo_ext _ _ _) h.tch.size, h.tch.trans hT (fun _ _ h => h) (fun k hk e => ?_)⟩, newTo_ext _ _ _, hT⟩
  have e : own' k = c + 9 := e
  rw [h.ext k hk] at e
  exact ⟨by omega, by omega⟩
theorem DhAt.belowD {w wr w2 : World} {own own' : Clr} {c p : Nat} {R : Rp} {cg cc hp : Nat} {mv hv ev : Value} {hs : List Bm} {es : List Em} (h : DhAt w wr own own' c p R cg cc hp mv hv ev hs es) (hb : Below wr.heap.size wr w2) (d : Nat) : DhAt w w2 own (newTo own' wr.heap.size d) c p R cg cc hp mv hv ev hs es :=
  ⟨h.rp.keep (fun b hl _ => hb.block b hl) (fun _ _ _ b hl _ => hb.block b hl) (newTo_ext _ _ _), h.ext.trans (newTo_ext _ _ _) h.tch.size, h.tch.then (Tch.below hb)⟩
theorem DhAt.below {w wr w2 : World} {own own' : Clr} {c p : Nat} {R : Rp} {cg cc hp : Nat} {mv hv ev : Value} {hs : List Bm} {es : List Em} (h : DhAt w wr own own' c p R cg cc hp mv hv ev hs es) (hb : Below wr.heap.size wr w2) : DhAt w w2 own (newTo own' wr.heap.size 0) c p R cg cc hp mv hv ev hs es := h.belowD hb 0
/-- A block that is nobody's is written. -/
theorem DhAt.box {w wr w2 : World} {own own' : Clr} {c p : Nat} {R : Rp} {cg cc hp : Nat} {mv hv ev : Value} {hs : List Bm} {es : List Em} {bb : Nat} (h : DhAt w wr own own' c p R cg cc hp mv hv ev hs es) (hT : Tch (fun k => k = bb) wr w2) (hb0 : own' bb ≠ 0) (hb1 : ¬ (c ≤ own' bb ∧ own' bb ≤ c + 10)) (hbw : w.heap.size ≤ bb) : DhAt w w2 own own' c p R cg cc hp mv hv ev hs es := by
  have hS : ∀ d, d ≠ own' bb → Same own' d wr w2 := fun d hd => hT.same (fun k e e2 => hd (by rw [← e, e2]))
  exact ⟨h.rp.keep (hS 0 (fun e => hb0 e.symm)) (fun d h1 h2 => hS d (fun e => hb1 ⟨by omega, by omega⟩)) (Ext.refl _ _), h.ext, h.tch.trans hT (fun _ _ h => h) (fun k hk e => absurd (show k = bb from e) (by omega))⟩
theorem DhAt.delivered {w wr w2 : World} {own own' : Clr} {c p : Nat} {R R2 : Rp} {cg cc hp : Nat} {mv hv ev : Value} {hs l : List Bm} {es : List Em} (h : DhAt w wr own own' c p R cg cc hp mv hv ev hs es) (hd : DelOk wr own' c p R2 cg cc hp mv ev l es w2) : ∃ own2 hv2, DhAt w w2 own own2 c p R2 cg cc hp mv hv2 ev l es ∧ Ext own' own2 wr.heap.size ∧ TchR own' c wr w2 := by
  obtain ⟨own2, hv2, hE, hR, hT⟩ := hd
  refine ⟨own2, hv2, ⟨hR, h.ext.trans hE h.tch.size, h.tch.trans hT (fun _ _ h => h) (fun k hk e => ?_)⟩, hE, hT⟩
  rw [h.ext k hk] at e
  exact e

/-- How many items a heap has. -/
def lenH (hp : Nat) (w : World) : Nat := match w.cell? ⟨hp, 0, none⟩ with
  | some (.slice _ n _) => n
  | _ => 0
def flagN : Value → Nat
  | .bool true => 1
  | _ => 0
theorem HpIn.lenH {w : World} {hp : Nat} {v : Value} {bs : List Bm} (h : HpIn w hp v bs) : lenH hp w = bs.length := by
  have h0 : w.cell? ⟨hp, 0, none⟩ = some v := h.blk.cell 0
  have : ∃ a c, v = .slice a bs.length c := by
    rcases h.row.2 with ⟨rfl, hz⟩ | ⟨g, cap, cur, rfl, _⟩
    · exact ⟨_, _, by rw [hz]⟩
    · exact ⟨_, _, rfl⟩
  obtain ⟨a, c, rfl⟩ := this
  unfold Go.Proofs.YtfmcngncaffloaaGreatDoor.lenH
  rw [h0]
/-- The state of the loop. -/
structure DhSt (w w0 wX : World) (own own' : Clr) (c p : Nat) (R : Rp) (cg cc hp : Nat) (mv hv ev : Value) (l : List Bm) (es : List Em) (r : Option Bm) (n bb : Nat) (eb ef : Addr) (F : Rp × List Bm) : Prop where
  d : DhAt w wX own own' c p R cg cc hp mv hv ev l es
  ans : F = stepH n R r l
  ok : Rok R
  cnt : l.length + r.toList.length ≤ n
  due : ∀ x, r = some x → dueB R.clock x.b = true ∧ Wv.isB x.b = true ∧ BatIn wX own' x
  box : Blk wX bb (bmC (r.getD bmZ)) 124
  boxc : ¬ (c ≤ own' bb ∧ own' bb ≤ c + 10)
  env : Env w0 wX own' eb ef
theorem dh_begin {w w0 wr w' wX : World} {own own' : Clr} {c p : Nat} {R : Rp} {cg cc hp : Nat} {mv hv ev : Value} {hs : List Bm} {es : List Em} {n bb : Nat} {eb ef : Addr} (h : DhAt w wr own own' c p R cg cc hp mv hv ev hs es) (hok : Rok R) (hen : Env w0 wr own' eb ef) (ho : HpOk wr hp hv (takeP lessM (fun m => dueB R.clock m.b) hs).2 w') (hn : hs.length ≤ n)
    (hx : ∀ own2 hv', DhAt w w' own own2 c p { R with held := (takeP lessM (fun m => dueB R.clock m.b) hs).2.map (·.b) } cg cc hp mv hv' ev (takeP lessM (fun m => dueB R.clock m.b) hs).2 es → Ext own' own2 wr.heap.size → TchC own' (c + 9) wr w' → ∃ own3, DhAt w wX own own3 c p { R with held := (takeP lessM (fun m => dueB R.clock m.b) hs).2.map (·.b) } cg cc hp mv hv' ev (takeP lessM (fun m => dueB R.clock m.b) hs).2 es ∧ Ext own' own3 wr.heap.size ∧ Tch (fun k => own' k ≠ 0) wr wX ∧ ¬ (c ≤ own3 bb ∧ own3 bb ≤ c + 10)) (hb : Blk wX bb (bmC ((takeP lessM (fun m => dueB R.clock m.b) hs).1.getD bmZ)) 124) :
    ∃ own3 hv3, DhSt w w0 wX own own3 c p { R with held := (takeP lessM (fun m => dueB R.clock m.b) hs).2.map (·.b) } cg cc hp mv hv3 ev (takeP lessM (fun m => dueB R.clock m.b) hs).2 es (takeP lessM (fun m => dueB R.clock m.b) hs).1 n bb eb ef (heldAll (n + 1) R hs) := by
  obtain ⟨own2, hv2, hD, hE, hT⟩ := h.took ho (fun m hm => mem_takeP _ _ _ m (Or.inr hm))
  obtain ⟨own3, hD3, hE3, hT3, hb0⟩ := hx own2 hv2 hD hE hT
  have hhb : ∀ m ∈ hs, Wv.isB m.b = true := fun m hm => hok.held m.b (by rw [h.rp.heldB]; exact List.mem_map_of_mem hm)
  have hhl : hs.length ≤ 6 := by have := hok.most; rw [h.rp.heldB, List.length_map] at this; exact this
  have hlen := takeP_len lessM (fun m => dueB R.clock m.b) hs
  refine ⟨own3, hv2, hD3, heldAll_step n R hs, hok.heldTo (fun b hb => ?_) ?_, by omega, fun x hx => ?_, hb, hb0, hen.tch hT3 (fun k e e2 => e2 e) hE3⟩
  · obtain ⟨m, hm, rfl⟩ := List.mem_map.1 hb
    exact hhb m (mem_takeP _ _ _ m (Or.inr hm))
  · rw [List.length_map]; omega
  · have hm : x ∈ hs := mem_takeP _ _ _ x (Or.inl (by rw [hx]; simp))
    exact ⟨takeP_fits (f := fun m : Bm => dueB R.clock m.b) hx, hhb x hm, (h.rp.held.bats x hm).keep (hT3.same (fun k e e2 => e2 e)) hE3⟩

set_option maxHeartbeats 1600000 in
theorem dheld_any (own : Clr) (c p : Nat) (R : Rp) (cg cc hp : Nat) (mv hv ev : Value) (hs : List Bm) (es : List Em) (w w0 : World) (eb ef : Addr) (hI : ItoaSaid) (hen : Env w0 w own eb ef) (hc0 : 0 < c) (h : RpIn w own c p R cg cc hp mv hv ev hs es) (hok : Rok R) :
    Calls Tryz.prog 124 #[.pointer (some ⟨p, 0, none⟩)] w fun e w' => e = .returned (.tuple #[]) ∧ DelOk w own c p (heldAll (hs.length + 1) R hs).1 cg cc hp mv ev (heldAll (hs.length + 1) R hs).2 es w' := by
  have HR : Hid (RpIn w own c p R cg cc hp mv hv ev hs es) := h
  have HEN : Hid (Env w0 w own eb ef) := hen
  have HOK : Hid (Rok R) := hok
  have c7 : w.cell? ⟨p, 7, none⟩ = some (.pointer (some ⟨hp, 0, none⟩)) := h.blk.cell 7
  clear h hen hok
  obtain ⟨F, HF⟩ : ∃ F, Hid (heldAll (hs.length + 1) R hs = F) := ⟨_, rfl⟩
  rw [HF.out]
  go_enter Tryz.func124, Tryz.ntmps124
  go_wp2_with fail
  have HNV : Hid (hp ≠ p ∧ ¬ hv.ownBlock = some p) := by
    have h9 := HR.out.held.own1
    have h8 := HR.out.own1
    refine ⟨fun e => ?_, fun e => ?_⟩
    · rw [e, h8] at h9; omega
    · have := HR.out.held.own2 p e; omega
  have HNG : Hid (hp ≠ cg ∧ ¬ hv.ownBlock = some cg) := by
    have h9 := HR.out.held.own1
    have h8 := HR.out.own2
    refine ⟨fun e => ?_, fun e => ?_⟩
    · rw [e, h8] at h9; omega
    · have := HR.out.held.own2 cg e; omega
  have HHB : Hid (∀ m ∈ hs, Wv.isB m.b = true) := fun m hm => HOK.out.held m.b (by rw [HR.out.heldB]; exact List.mem_map_of_mem hm)
  have HHL : Hid (hs.length ≤ 6) := by have := HOK.out.most; rw [HR.out.heldB, List.length_map] at this; exact this
  refine (htake_due hp hv hs p cg cc R.clock w HR.out.held.hpx (Nat.le_trans HHL.out (by omega)) HR.out.clkAt ⟨HNV.out.1.symm, HNV.out.2⟩ ⟨HNG.out.1.symm, HNG.out.2⟩ (Nat.le_trans HOK.out.len (by omega)) (fun j => Int.le_trans (HOK.out.getD j).2 (by omega)) (fun j => Int.le_trans (by omega) (HOK.out.getD j).1) (HR.out.held.ats (by omega) HHB.out)).mono ?_
  rintro e w1 ⟨rfl, ho1⟩
  obtain ⟨own1, hv1, hS1⟩ := dh_begin (n := hs.length) (bb := w1.heap.size) (wX := w1.alloc (.cells (bmC ((takeP lessM (fun m => dueB R.clock m.b) hs).1.getD bmZ)) 124)) ⟨HR.out, Ext.refl _ _, Tch.refl _ _⟩ HOK.out HEN.out ho1 (Nat.le_refl _) (fun own2 hv2 hD hE hT => ⟨newTo own2 w1.heap.size 0, hD.below ((Below.refl _ _).alloc (Nat.le_refl _) _), hE.trans (newTo_ext _ _ _) hT.size, (hT.mono (fun k _ e => by show own k ≠ 0; have e : own k = c + 9 := e; omega)).alloc _, by rw [newTo_new _ _ _ _ (Nat.le_refl _)]; omega⟩) (heap_alloc_new w1 _)
  rw [HF.out] at hS1
  have HS1 : Hid (DhSt w w0 (w1.alloc (.cells (bmC ((takeP lessM (fun m => dueB R.clock m.b) hs).1.getD bmZ)) 124)) own own1 c p { R with held := (takeP lessM (fun m => dueB R.clock m.b) hs).2.map (·.b) } cg cc hp mv hv1 ev (takeP lessM (fun m => dueB R.clock m.b) hs).2 es (takeP lessM (fun m => dueB R.clock m.b) hs).1 hs.length w1.heap.size eb ef F) := hS1
  have HPW : Hid (p < w.heap.size ∧ own p = c) := ⟨HR.out.blk.lt, HR.out.own1⟩
  clear ho1 hS1 c7
  generalize (takeP lessM (fun m => dueB R.clock m.b) hs).2 = l1 at *
  generalize (takeP lessM (fun m => dueB R.clock m.b) hs).1 = r1 at *
  go_wp2_with fail
  go_loopw [2, 3] (fun vb vf wX => ∃ (n bb : Nat) (r : Option Bm) (l : List Bm) (R' : Rp) (own' : Clr) (hv' : Value), vb = .pointer (some ⟨bb, 0, none⟩) ∧ vf = .bool r.isSome ∧ Hid (DhSt w w0 wX own own' c p R' cg cc hp mv hv' ev l es r n bb eb ef F)) (fun _ vf wX => lenH hp wX + flagN vf)
  case atStart => exact ⟨_, _, _, _, _, _, _, rfl, rfl, HS1⟩
  case round =>
    obtain ⟨n, bb, r, l, R', own', hv', rfl, rfl, HS⟩ := hrel
    clear HS1 HR HEN HOK HNV HNG HHB HHL
    cases r with
    | none =>
      have HE : Hid (DelOk w own c p F.1 cg cc hp mv ev F.2 es wr) := by
        have h9 := HS.out.ans
        show DelOk _ _ _ _ _ _ _ _ _ _ _ _ _
        rw [h9]
        have hd := HS.out.d
        have e : { R' with held := l.map (·.b) } = R' := by
          have := hd.rp.heldB
          cases R'
          simp only at this
          subst this
          rfl
        show DelOk w own c p { R' with held := l.map (·.b) } cg cc hp mv ev l es wr
        rw [e]
        exact ⟨own', hv', hd.ext, hd.rp, hd.tch⟩
      go_wp2
      go_end0
      exact ⟨rfl, HE.out⟩
    | some x =>
      obtain ⟨hdue, hisb, hbat⟩ := HS.out.due x rfl
      have HDUE : Hid (dueB R'.clock x.b = true) := hdue
      have HISB : Hid (Wv.isB x.b = true) := hisb
      have HBAT : Hid (BatIn wr own' x) := hbat
      have HXB : Hid (Blk wr bb (bmC x) 124) := HS.out.box
      clear hdue hisb hbat
      have HBD : Hid (Blk wr.drew bb (bmC x) 124) := HXB.out
      have y0 : wr.drew.cell? ⟨bb, 0, none⟩ = some (I x.b.o) := HBD.out.cell 0
      have y1 : wr.drew.cell? ⟨bb, 1, none⟩ = some (I x.b.s) := HBD.out.cell 1
      have y2 : wr.drew.cell? ⟨bb, 2, none⟩ = some (I x.b.t) := HBD.out.cell 2
      have y3 : wr.drew.cell? ⟨bb, 3, none⟩ = some (.slice x.ca x.b.clock.length x.cc) := HBD.out.cell 3
      have y4 : wr.drew.cell? ⟨bb, 4, none⟩ = some (.slice x.ea x.b.effs.length x.ec) := HBD.out.cell 4
      have HBAT2 : Hid (BatAt wr.drew x.b x.ca x.ea x.ms) := HBAT.out.k.at.kept (Below.refl _ _).drew
      have HGL : Hid (Gl wr.drew eb ef) := HS.out.env.gl.kept HS.out.env.bel.drew
      have HPWR : Hid (Pw wr.drew) := HS.out.env.pw.kept HS.out.env.bel.drew
      have HLG : Hid (R'.log.length + (Wv.frameB x.b).length ≤ 100000000) := by
        have h1 := HS.out.ok.logl
        have h2 := HS.out.ok.sum
        have h3 := Wv.frame_len x.b HISB.out
        show _ ≤ _
        omega
      have HOX : Hid (0 ≤ x.b.o ∧ x.b.o < (R'.clock.length : Int)) := by
        obtain ⟨_, h1, h2, _⟩ := isB_parts HISB.out
        have h3 := (due_parts HDUE.out).1
        exact ⟨h1, by omega⟩
      have HNN : Hid (5 * sumN R'.clock + x.b.effs.length ≤ 100000) := by
        have h2 := HS.out.ok.sum
        obtain ⟨_, _, _, _, _, _, _, h3⟩ := isB_parts HISB.out
        show _ ≤ _
        omega
      have HLL : Hid (l.length ≤ 1000) := by
        have h1 := HS.out.ok.most
        rw [HS.out.d.rp.heldB, List.length_map] at h1
        show _ ≤ _
        omega
      go_wp2_with fail
      go_region_held_law (fun w' => w'.cell? ⟨bb, 0, none⟩ = some (I x.b.o) ∧ w'.cell? ⟨bb, 1, none⟩ = some (I x.b.s) ∧ w'.cell? ⟨bb, 2, none⟩ = some (I x.b.t) ∧ w'.cell? ⟨bb, 3, none⟩ = some (.slice x.ca x.b.clock.length x.cc) ∧ w'.cell? ⟨bb, 4, none⟩ = some (.slice x.ea x.b.effs.length x.ec)) (exact ⟨by with_reducible assumption, by with_reducible assumption, by with_reducible assumption, by with_reducible assumption, by with_reducible assumption⟩)
        (first
        | (go_at_call 71; refine (frameOf_any x _ eb ef hI HGL.out HPWR.out HBAT2.out HISB.out).mono ?_; rintro e w4 ⟨rfl, hb4⟩; have HB4 : Hid (Below wr.heap.size wr w4) := (Below.refl _ _).drew.trans hb4; clear hb4; have HX4 : Hid (Blk w4 bb (bmC x) 124) := HXB.out.kept HB4.out HXB.out.lt; have f0 : w4.cell? ⟨bb, 0, none⟩ = some (I x.b.o) := HX4.out.cell 0; have f1 : w4.cell? ⟨bb, 1, none⟩ = some (I x.b.s) := HX4.out.cell 1; have f2 : w4.cell? ⟨bb, 2, none⟩ = some (I x.b.t) := HX4.out.cell 2; have f3 : w4.cell? ⟨bb, 3, none⟩ = some (.slice x.ca x.b.clock.length x.cc) := HX4.out.cell 3; have f4 : w4.cell? ⟨bb, 4, none⟩ = some (.slice x.ea x.b.effs.length x.ec) := HX4.out.cell 4)
        | (go_at_call 72; refine (deliver_any (newTo own' wr.heap.size 0) c p R' cg cc hp mv hv' ev l es x (Wv.frameB x.b) _ hc0 (HS.out.d.below HB4.out).rp ((HBAT.out.keep (fun b hb _ => HB4.out.block b hb) (newTo_ext _ _ _)).k.mono (fun d e => Or.inl e)) HLL.out HLG.out HOX.out.1 HOX.out.2 HS.out.ok.obs8 (5 * sumN R'.clock) HNN.out HS.out.ok.bd (isB_vals HISB.out)).mono ?_; rintro e w5 ⟨rfl, hd5⟩; have HD5 : Hid (DelOk w4 (newTo own' wr.heap.size 0) c p (deliverR R' x.b (Wv.frameB x.b) ((takeP lessM (fun m => likeB x.b m.b) l).2.map (·.b))) cg cc hp mv ev (takeP lessM (fun m => likeB x.b m.b) l).2 es w5) := hd5; clear hd5; have HX5 : Hid (Blk w5 bb (bmC x) 124) := (by obtain ⟨_, _, _, _, hT⟩ := HD5.out; refine hT.blk HX4.out (fun e => ?_); rw [newTo_same _ _ _ _ HXB.out.lt] at e; have := HS.out.boxc; omega); have g0 : w5.cell? ⟨bb, 0, none⟩ = some (I x.b.o) := HX5.out.cell 0; have g1 : w5.cell? ⟨bb, 1, none⟩ = some (I x.b.s) := HX5.out.cell 1; have g2 : w5.cell? ⟨bb, 2, none⟩ = some (I x.b.t) := HX5.out.cell 2; have g3 : w5.cell? ⟨bb, 3, none⟩ = some (.slice x.ca x.b.clock.length x.cc) := HX5.out.cell 3; have g4 : w5.cell? ⟨bb, 4, none⟩ = some (.slice x.ea x.b.effs.length x.ec) := HX5.out.cell 4))
      obtain ⟨own5, hv5, hD5, hE5, hT5⟩ := (HS.out.d.below HB4.out).delivered HD5.out
      obtain ⟨dc, hdc, hdm⟩ := fresh_colour own5 (c + 10) w5.heap.size
      have hen4 : Env w0 w4 (newTo own' wr.heap.size 0) eb ef := HS.out.env.tch (F := fun _ => False) (Tch.below HB4.out) (fun _ _ h => h) (newTo_ext _ _ _)
      have hen5 : Env w0 w5 own5 eb ef := hen4.tch hT5 (fun k e h => by rw [e] at h; omega) hE5
      obtain ⟨w6, hw6⟩ : ∃ w6, w6 = w5.alloc (.cells (bmC x) 124) := ⟨_, rfl⟩
      have hB6 : Below w5.heap.size w5 w6 := by rw [hw6]; exact (Below.refl _ _).alloc (Nat.le_refl _) _
      have HX6 : Hid (Blk w6 w5.heap.size (bmC x) 124) := by rw [hw6]; exact heap_alloc_new w5 _
      have HSZ6 : Hid (w5.heap.size < w6.heap.size) := HX6.out.lt
      have HEN6 : Hid (Env w0 w6 (newTo own5 w5.heap.size dc) eb ef) := hen5.tch (F := fun _ => False) (Tch.below hB6) (fun _ _ h => h) (newTo_ext _ _ _)
      have HDC : Hid (c + 10 < dc) := hdc
      obtain ⟨Rd, HRD⟩ : ∃ Rd, Hid (deliverR R' x.b (Wv.frameB x.b) ((takeP lessM (fun m => likeB x.b m.b) l).2.map (·.b)) = Rd) := ⟨_, rfl⟩
      have hok5 : Rok Rd := by
        rw [← HRD.out]
        have hhb : ∀ m ∈ l, Wv.isB m.b = true := fun m hm => HS.out.ok.held m.b (by rw [HS.out.d.rp.heldB]; exact List.mem_map_of_mem hm)
        refine HS.out.ok.deliver HISB.out (frameB_short HISB.out) HDUE.out (fun y hy => ?_) ?_
        · obtain ⟨m, hm, rfl⟩ := List.mem_map.1 hy
          exact hhb m (mem_takeP _ _ _ m (Or.inr hm))
        · have h1 := HS.out.ok.most
          rw [HS.out.d.rp.heldB, List.length_map] at h1
          have := takeP_len lessM (fun m => likeB x.b m.b) l
          rw [List.length_map]
          omega
      have HOK5 : Hid (Rok Rd) := hok5
      have HANS : Hid (F = heldAll n Rd (takeP lessM (fun m => likeB x.b m.b) l).2) := by
        show _ = _
        rw [HS.out.ans, ← HRD.out]
        rfl
      have HLE2 : Hid ((takeP lessM (fun m => likeB x.b m.b) l).2.length ≤ l.length) := by
        have := takeP_len lessM (fun m => likeB x.b m.b) l
        show _ ≤ _
        omega
      have HCNT : Hid (l.length + 1 ≤ n) := by have := HS.out.cnt; show _ ≤ _; simpa using this
      have hlH : lenH hp wr = l.length := HS.out.d.rp.held.hpx.lenH
      have HLH : Hid (lenH hp wr = l.length) := hlH
      rw [HRD.out] at hD5
      have HD6 : Hid (DhAt w w6 own (newTo own5 w5.heap.size dc) c p Rd cg cc hp mv hv5 ev (takeP lessM (fun m => likeB x.b m.b) l).2 es) := hD5.belowD hB6 dc
      have HW5 : Hid (w.heap.size ≤ w5.heap.size) := hD5.tch.size
      have HBC : Hid (newTo own5 w5.heap.size dc w5.heap.size = dc) := newTo_new _ _ _ _ (Nat.le_refl _)
      clear hD5 hE5 hT5 hdc hdm hen4 hen5 hB6 hok5 hlH HD5 HX5 HX4 HB4 f0 f1 f2 f3 f4 HS HXB HBD HBAT HBAT2 HGL HPWR HLG HOX HNN HLL HRD HDUE HISB
      generalize (takeP lessM (fun m => likeB x.b m.b) l).2 = l2 at *
      generalize newTo own5 w5.heap.size dc = own6 at *
      have c7 : (w5.alloc (.cells #[I x.b.o, I x.b.s, I x.b.t, .slice x.ca x.b.clock.length x.cc, .slice x.ea x.b.effs.length x.ec] 124)).cell? ⟨p, 7, none⟩ = some (.pointer (some ⟨hp, 0, none⟩)) := by
        have e : w5.alloc (.cells #[I x.b.o, I x.b.s, I x.b.t, .slice x.ca x.b.clock.length x.cc, .slice x.ea x.b.effs.length x.ec] 124) = w6 := hw6.symm
        rw [e]
        exact HD6.out.rp.blk.cell 7
      go_wp2_with fail
      change Calls _ _ _ (w5.alloc (.cells (bmC x) 124)) _
      rw [← hw6]
      clear hw6 g0 g1 g2 g3 g4 y0 y1 y2 y3 y4 c7
      have HHB : Hid (∀ m ∈ l2, Wv.isB m.b = true) := fun m hm => HOK5.out.held m.b (by rw [HD6.out.rp.heldB]; exact List.mem_map_of_mem hm)
      have HNV : Hid (hp ≠ p ∧ ¬ hv5.ownBlock = some p) := by
        have h9 := HD6.out.rp.held.own1
        have h8 := HD6.out.rp.own1
        refine ⟨fun e => ?_, fun e => ?_⟩
        · rw [e, h8] at h9; omega
        · have := HD6.out.rp.held.own2 p e; omega
      have HNG : Hid (hp ≠ cg ∧ ¬ hv5.ownBlock = some cg) := by
        have h9 := HD6.out.rp.held.own1
        have h8 := HD6.out.rp.own2
        refine ⟨fun e => ?_, fun e => ?_⟩
        · rw [e, h8] at h9; omega
        · have := HD6.out.rp.held.own2 cg e; omega
      have HBN : Hid (w5.heap.size ≠ hp ∧ ¬ hv5.ownBlock = some w5.heap.size) := by
        have h9 := HD6.out.rp.held.own1
        have h8 := HBC.out
        have h7 := HDC.out
        refine ⟨fun e => ?_, fun e => ?_⟩
        · rw [e] at h8; omega
        · have := HD6.out.rp.held.own2 _ e; omega
      have HL6 : Hid (l2.length ≤ 1000) := by
        have h1 := HOK5.out.most
        rw [HD6.out.rp.heldB, List.length_map] at h1
        show _ ≤ _
        omega
      refine (htake_due hp hv5 l2 p cg cc Rd.clock w6 HD6.out.rp.held.hpx HL6.out HD6.out.rp.clkAt ⟨HNV.out.1.symm, HNV.out.2⟩ ⟨HNG.out.1.symm, HNG.out.2⟩ (Nat.le_trans HOK5.out.len (by omega)) (fun j => Int.le_trans (HOK5.out.getD j).2 (by omega)) (fun j => Int.le_trans (by omega) (HOK5.out.getD j).1) (HD6.out.rp.held.ats (by omega) HHB.out)).mono ?_
      rintro e w7 ⟨rfl, ho7⟩
      have HO7 : Hid (HpOk w6 hp hv5 (takeP lessM (fun m => dueB Rd.clock m.b) l2).2 w7) := ho7
      have HX7 : Hid (Blk w7 w5.heap.size (bmC x) 124) := by
        obtain ⟨_, _, hT, _⟩ := ho7
        exact hT.blk HX6.out (by rintro (e | e); exact HBN.out.1 e; exact HBN.out.2 e)
      clear ho7 HX6
      have x0 : w7.cell? ⟨w5.heap.size, 0, none⟩ = some (I x.b.o) := HX7.out.cell 0
      have x1 : w7.cell? ⟨w5.heap.size, 1, none⟩ = some (I x.b.s) := HX7.out.cell 1
      have x2 : w7.cell? ⟨w5.heap.size, 2, none⟩ = some (I x.b.t) := HX7.out.cell 2
      have x3 : w7.cell? ⟨w5.heap.size, 3, none⟩ = some (.slice x.ca x.b.clock.length x.cc) := HX7.out.cell 3
      have x4 : w7.cell? ⟨w5.heap.size, 4, none⟩ = some (.slice x.ea x.b.effs.length x.ec) := HX7.out.cell 4
      have z0 := HX7.out.frozen 0
      have z1 := HX7.out.frozen 1
      have z2 := HX7.out.frozen 2
      have z3 := HX7.out.frozen 3
      have z4 := HX7.out.frozen 4
      obtain ⟨n', rfl⟩ : ∃ n', n = n' + 1 := ⟨n - 1, by have := HCNT.out; omega⟩
      have HNX : Hid (∃ own3 hv3, DhSt w w0 (put5b w7 w5.heap.size 0 ((takeP lessM (fun m => dueB Rd.clock m.b) l2).1.getD bmZ)) own own3 c p { Rd with held := (takeP lessM (fun m => dueB Rd.clock m.b) l2).2.map (·.b) } cg cc hp mv hv3 ev (takeP lessM (fun m => dueB Rd.clock m.b) l2).2 es (takeP lessM (fun m => dueB Rd.clock m.b) l2).1 n' w5.heap.size eb ef F) := by
        have h9 := dh_begin (n := n') (bb := w5.heap.size) (wX := put5b w7 w5.heap.size 0 ((takeP lessM (fun m => dueB Rd.clock m.b) l2).1.getD bmZ)) HD6.out HOK5.out HEN6.out HO7.out (by have := HCNT.out; have := HLE2.out; omega) (fun own2 hv2 hD hE hT => by
          have hbl : w5.heap.size < w6.heap.size := HSZ6.out
          have hcol : own2 w5.heap.size = dc := (hE _ hbl).trans HBC.out
          have hd := HDC.out
          have hP := put5b_grown w7 w5.heap.size 0 ((takeP lessM (fun m => dueB Rd.clock m.b) l2).1.getD bmZ)
          refine ⟨own2, hD.box hP (by omega) (by omega) HW5.out, hE, hT.trans hP (fun k _ e => ?_) (fun k _ e => ?_), by omega⟩
          · have e : own6 k = c + 9 := e
            show own6 k ≠ 0
            omega
          · have e : k = w5.heap.size := e
            show own6 k ≠ 0
            rw [e, HBC.out]
            omega) (((((HX7.out.set 0 _).set 1 _).set 2 _).set 3 _).set 4 _)
        rw [← HANS.out] at h9
        exact h9
      have HLM : Hid ((takeP lessM (fun m => dueB Rd.clock m.b) l2).2.length + (takeP lessM (fun m => dueB Rd.clock m.b) l2).1.toList.length ≤ l2.length) := by
        have := takeP_len lessM (fun m => dueB Rd.clock m.b) l2
        show _ ≤ _
        omega
      clear HO7 HX7 HD6 HOK5 HEN6
      generalize (takeP lessM (fun m => dueB Rd.clock m.b) l2).2 = l7 at *
      generalize (takeP lessM (fun m => dueB Rd.clock m.b) l2).1 = r7 at *
      obtain ⟨own3, hv3, HS7⟩ := HNX.out
      have HS7 : Hid (DhSt w w0 (put5b w7 w5.heap.size 0 (r7.getD bmZ)) own own3 c p { Rd with held := l7.map (·.b) } cg cc hp mv hv3 ev l7 es r7 n' w5.heap.size eb ef F) := HS7
      clear HNX
      go_wp2_with fail
      go_roundw
      case rel => exact ⟨_, _, _, _, _, _, _, rfl, rfl, HS7⟩
      case measure =>
        have h1 := HS7.out.d.rp.held.hpx.lenH
        have h2 := HLH.out
        have h3 := HLM.out
        have h4 := HLE2.out
        have h5 : flagN (.bool r7.isSome) = r7.toList.length := by cases r7 <;> rfl
        show lenH hp (put5b w7 w5.heap.size 0 (r7.getD bmZ)) + flagN (.bool r7.isSome) < lenH hp wr + flagN (.bool true)
        rw [h1, h2, h5]
        show _ < l.length + 1
        omega

end Go.Proofs.YtfmcngncaffloaaGreatDoor
