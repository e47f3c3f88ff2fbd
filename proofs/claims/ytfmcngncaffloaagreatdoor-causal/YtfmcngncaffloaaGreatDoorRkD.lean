import Derived.Test.YtfmcngncaffloaaGreatDoorG35RkC
import Derived.Test.YtfmcngncaffloaaGreatDoorG44DecR
namespace Go.Proofs.YtfmcngncaffloaaGreatDoor
open Go.RowKit
set_option maxRecDepth 100000

/-- What a call leaves of a replica. -/
def ROk (w : World) (own : Clr) (c p : Nat) (R : Rp) (w' : World) : Prop := ∃ own', Ext own own' w.heap.size ∧ RpAt w' own' c p R ∧ Tch (fun k => c ≤ own k ∧ own k ≤ c + 10) w w'
theorem ROk.del {w w' : World} {own : Clr} {c p : Nat} {R : Rp} {cg cc hp : Nat} {mv ev : Value} {hs : List Bm} {es : List Em} (h : DelOk w own c p R cg cc hp mv ev hs es w') : ROk w own c p R w' := by
  obtain ⟨own', hv', hE, hR, hT⟩ := h
  exact ⟨own', hE, ⟨_, _, _, _, _, _, _, _, hR⟩, hT.mono (fun k _ h => ⟨h.1, by omega⟩)⟩
theorem ROk.below {w w' : World} {own : Clr} {c p : Nat} {R : Rp} (h : RpAt w own c p R) (hb : Below w.heap.size w w') : ROk w own c p R w' := by
  obtain ⟨cg, cc, hp, mv, hv, ev, hs, es, h⟩ := h
  exact ⟨newTo own w.heap.size 0, newTo_ext _ _ _, ⟨_, _, _, _, _, _, _, _, h.keep (fun b hl _ => hb.block b hl) (fun _ _ _ b hl _ => hb.block b hl) (newTo_ext _ _ _)⟩, Tch.below hb⟩
theorem ROk.self {w w' : World} {own : Clr} {c p : Nat} {R : Rp} {cg cc hp : Nat} {mv hv ev : Value} {hs : List Bm} {es : List Em} (ho : own p = c) (h : SelfOk w own c p R cg cc hp mv hv ev hs es w') : ROk w own c p R w' :=
  ⟨own, Ext.refl _ _, ⟨_, _, _, _, _, _, _, _, h.1⟩, h.2.mono (fun k _ e => by rw [e, ho]; omega)⟩
theorem ROk.add {w w' : World} {own : Clr} {c p : Nat} {R : Rp} {cg cc hp : Nat} {mv hv : Value} {hs : List Bm} {es : List Em} (h : AddOk w own c p R cg cc hp mv hv hs es w') : ROk w own c p R w' := by
  obtain ⟨own', ev', hE, hR, hT⟩ := h
  exact ⟨own', hE, ⟨_, _, _, _, _, _, _, _, hR⟩, hT.mono (fun k _ h => by rcases h with h | h <;> omega)⟩
theorem ROk.cm {w w' : World} {own : Clr} {c p : Nat} {R : Rp} {cg cc hp : Nat} {mv : Value} {hs : List Bm} (h : CmOk w own c p R cg cc hp mv hs w') : ROk w own c p R w' := by
  obtain ⟨own', hv', hE, hR, hT⟩ := h
  exact ⟨own', hE, ⟨_, _, _, _, _, _, _, _, hR⟩, hT.mono (fun k _ h => ⟨h.1, by omega⟩)⟩
theorem ROk.hold {w w' : World} {own : Clr} {c p : Nat} {R : Rp} {cg cc hp : Nat} {mv ev : Value} {hs : List Bm} {es : List Em} (h : HoldOk w own c p R cg cc hp mv ev hs es w') : ROk w own c p R w' := by
  obtain ⟨own', hv', hE, hR, hT⟩ := h
  exact ⟨own', hE, ⟨_, _, _, _, _, _, _, _, hR⟩, hT.mono (fun k _ h => ⟨h.1, by omega⟩)⟩
theorem ROk.from {w w5 w6 : World} {own own5 : Clr} {c p : Nat} {R : Rp} (hE5 : Ext own own5 w.heap.size) (hT5 : Tch (fun k => c ≤ own k ∧ own k ≤ c + 10) w w5) (h : ROk w5 own5 c p R w6) : ROk w own c p R w6 := by
  obtain ⟨own', hE, hR, hT⟩ := h
  exact ⟨own', hE5.trans hE hT5.size, hR, hT5.trans hT (fun _ _ h => h) (fun k hk h => by rw [hE5 k hk] at h; exact h)⟩

/-- What a frame makes of a replica. -/
def frameR (R : Rp) (l : List UInt8) : Rp := match Wv.dec l with
  | none => R
  | some b => if b.clock.length ≠ R.clock.length ∨ b.s ≤ R.clock.getD b.o.toNat 0 then R
    else if dueB R.clock b then heldR ((takeP earlierB (likeB b) R.held).2.length + 1) (deliverR R b l (takeP earlierB (likeB b) R.held).2)
    else if R.held.length < 6 ∧ (R.held.any (likeB b)) = false then { R with held := pushP earlierB R.held b } else R
theorem dec_isB {l : List UInt8} {b : Wv.Bt} (h : Wv.dec l = some b) : Wv.isB b = true ∧ l.length ≤ 65535 := by
  unfold Wv.dec at h
  split at h
  · rename_i ho
    unfold Wv.decC at h
    split at h
    · rename_i hq
      cases h
      refine ⟨hq.2, ?_⟩
      have h2 := ho.2.1
      have : Wv.num2 l ≤ 65535 := by
        unfold Wv.num2
        have h8 := (l.getD 0 0).toNat_lt
        have h9 := (l.getD 1 0).toNat_lt
        omega
      omega
    · cases h
  · cases h
theorem own_at0 {w' : World} {own : Clr} {base : Nat} {e : TypeId} {z n m c : Nat} {a : Option Addr} {xs : List Value} (h : w'.ownsRow base e z (.slice a m c) n xs) : At0 w' (newTo own base 0) a xs := by
  intro j u hj
  rcases h.2 with ⟨_, hn⟩ | ⟨g, cap, cur, e1, hb, _⟩
  · have h1 := h.1
    rw [hn, Nat.zero_mul] at h1
    rw [List.eq_nil_of_length_eq_zero h1] at hj
    simp at hj
  · cases e1
    have hc := h.cells (g := g) rfl j u hj
    rw [Addr.add_lit] at hc
    exact ⟨g, 0, rfl, newTo_new _ _ _ _ hb, hc⟩
theorem ob_bat {w w' : World} {own : Clr} {b : Wv.Bt} {ca ea : Option Addr} {cc ec : Nat} {ms : List Em} (he : b.effs = ms.map (·.e)) (h : OwB w' w.heap.size (.slice ca b.clock.length cc) (.slice ea b.effs.length ec) b.clock ms) : BatIn w' (newTo own w.heap.size 0) ⟨b, ca, ea, cc, ec, ms⟩ :=
  ⟨own_at0 h.clock, he, own_at0 h.cells, fun x hx => own_at0 (h.dots x hx)⟩
set_option maxHeartbeats 1600000 in
theorem takeFrame_none (own : Clr) (c p : Nat) (R : Rp) (l : List UInt8) (w w0 : World) (eb ef : Addr) (hI : ItoaSaid) (hg : Gd w) (hen : Env w0 w own eb ef) (h : RpAt w own c p R) (hl : l.length ≤ 9223372036854775807) (hd : Wv.dec l = none) :
    Calls Tryz.prog 79 #[.pointer (some ⟨p, 0, none⟩), .string ⟨l.toArray⟩] w fun e w' => e = .returned (.tuple #[]) ∧ ROk w own c p R w' := by
  have HR : Hid (RpAt w own c p R) := h
  have HC : Hid (Calls Tryz.prog 120 #[.string ⟨l.toArray⟩] w fun e w' => (∃ n y, e = .returned (.tuple #[zeroBat, FltF n y])) ∧ Below w.heap.size w w') := fdec_refuse l w eb ef hI (hen.gl.kept hen.bel) (hen.pw.kept hen.bel) hg hl hd
  clear h hen hg
  go_enter Tryz.func79, Tryz.ntmps79
  go_wp2_with fail
  refine HC.out.mono ?_
  rintro e w1 ⟨⟨n, y, rfl⟩, hb1⟩
  have HB : Hid (Below w.heap.size w w1) := hb1
  clear hb1 HC
  go_wp2_with fail
  go_quiet (fail)
  go_wp2
  refine bodyPost_ret (results_none rfl _ _ _) rfl ?_
  exact ⟨rfl, ROk.below HR.out (belowN (HB.out.alloc HB.out.size _) _)⟩

/-- What Decode hands over, boxed, beside the replica. -/
structure TfAt (w w0 wr : World) (own own' : Clr) (c p : Nat) (R : Rp) (cg cc hp : Nat) (mv hv ev : Value) (hs : List Bm) (es : List Em) (x : Bm) (bb : Nat) (eb ef : Addr) : Prop where
  rp : RpIn wr own' c p R cg cc hp mv hv ev hs es
  bat : BatIn wr own' x
  box : Blk wr bb (bmC x) 124
  boxc : own' bb = 0
  ext : Ext own own' w.heap.size
  bel : Below w.heap.size w wr
  env : Env w0 wr own' eb ef
theorem TfAt.below {w w0 wr w2 : World} {own own' : Clr} {c p : Nat} {R : Rp} {cg cc hp : Nat} {mv hv ev : Value} {hs : List Bm} {es : List Em} {x : Bm} {bb : Nat} {eb ef : Addr} (h : TfAt w w0 wr own own' c p R cg cc hp mv hv ev hs es x bb eb ef) (hb : Below wr.heap.size wr w2) : TfAt w w0 w2 own (newTo own' wr.heap.size 0) c p R cg cc hp mv hv ev hs es x bb eb ef :=
  ⟨h.rp.keep (fun b hl _ => hb.block b hl) (fun _ _ _ b hl _ => hb.block b hl) (newTo_ext _ _ _), h.bat.keep (fun b hl _ => hb.block b hl) (newTo_ext _ _ _), h.box.kept hb h.box.lt, (newTo_same _ _ _ _ h.box.lt).trans h.boxc, h.ext.trans (newTo_ext _ _ _) h.bel.size, h.bel.trans (hb.mono h.bel.size), h.env.tch (F := fun _ => False) (Tch.below hb) (fun _ _ h => h) (newTo_ext _ _ _)⟩
set_option maxHeartbeats 3200000 in
theorem takeFrame_new (own : Clr) (c p : Nat) (R : Rp) (l : List UInt8) (b : Wv.Bt) (w w0 : World) (eb ef : Addr) (hI : ItoaSaid) (hg : Gd w) (hen : Env w0 w own eb ef) (hc0 : 0 < c) (h : RpAt w own c p R) (hok : Rok R) (hd : Wv.dec l = some b) (hf : b.clock.length = R.clock.length) (hs : ¬ b.s ≤ R.clock.getD b.o.toNat 0) :
    Calls Tryz.prog 79 #[.pointer (some ⟨p, 0, none⟩), .string ⟨l.toArray⟩] w fun e w' => e = .returned (.tuple #[]) ∧ ROk w own c p (frameR R l) w' := by
  obtain ⟨cg, cc, hp, mv, hv, ev, hs', es, hR⟩ := h
  have HR : Hid (RpIn w own c p R cg cc hp mv hv ev hs' es) := hR
  have HEN : Hid (Env w0 w own eb ef) := hen
  have HOK : Hid (Rok R) := hok
  have HIB : Hid (Wv.isB b = true ∧ l.length ≤ 65535) := dec_isB hd
  have HC : Hid (Calls Tryz.prog 120 #[.string ⟨l.toArray⟩] w fun e w' => (∃ ca ea cc ec ms, e = .returned (.tuple #[bV b ca ea cc ec, .nilIface]) ∧ b.effs = ms.map (·.e) ∧ OwB w' w.heap.size (.slice ca b.clock.length cc) (.slice ea b.effs.length ec) b.clock ms) ∧ Below w.heap.size w w') := fdec_take l b w eb ef hI (hen.gl.kept hen.bel) (hen.pw.kept hen.bel) hg hd
  obtain ⟨F, HF⟩ : ∃ F, Hid (frameR R l = F) := ⟨_, rfl⟩
  rw [HF.out]
  have HFR : Hid (F = if dueB R.clock b then heldR ((takeP earlierB (likeB b) R.held).2.length + 1) (deliverR R b l (takeP earlierB (likeB b) R.held).2) else if R.held.length < 6 ∧ (R.held.any (likeB b)) = false then { R with held := pushP earlierB R.held b } else R) := by
    show _ = _
    rw [← HF.out]
    unfold frameR
    rw [hd]
    simp only
    rw [if_neg (by rintro (h | h); exact h hf; exact hs h)]
  have HSQ : Hid (¬ b.s ≤ R.clock.getD b.o.toNat 0) := hs
  have HFT : Hid (b.clock.length = R.clock.length) := hf
  clear hR hen hok hd hs hf HF hg
  go_enter Tryz.func79, Tryz.ntmps79
  go_wp2_with fail
  refine HC.out.mono ?_
  rintro e w1 ⟨⟨ca, ea, cb, ec, ms, rfl, he, ho⟩, hb1⟩
  obtain ⟨x, hx⟩ : ∃ x : Bm, x = ⟨b, ca, ea, cb, ec, ms⟩ := ⟨_, rfl⟩
  obtain ⟨w2, hw2⟩ : ∃ w2, w2 = w1.alloc (.cells (bmC x) 124) := ⟨_, rfl⟩
  have HT2 : Hid (TfAt w w0 w2 own (newTo (newTo own w.heap.size 0) w1.heap.size 0) c p R cg cc hp mv hv ev hs' es x w1.heap.size eb ef) := by
    have hB2 : Below w1.heap.size w1 w2 := by rw [hw2]; exact (Below.refl _ _).alloc (Nat.le_refl _) _
    have hbat : BatIn w1 (newTo own w.heap.size 0) x := by rw [hx]; exact ob_bat he ho
    have h1 : RpIn w1 (newTo own w.heap.size 0) c p R cg cc hp mv hv ev hs' es := HR.out.keep (fun b hl _ => hb1.block b hl) (fun _ _ _ b hl _ => hb1.block b hl) (newTo_ext _ _ _)
    exact ⟨h1.keep (fun b hl _ => hB2.block b hl) (fun _ _ _ b hl _ => hB2.block b hl) (newTo_ext _ _ _), hbat.keep (fun b hl _ => hB2.block b hl) (newTo_ext _ _ _), by rw [hw2]; exact heap_alloc_new w1 _, newTo_new _ _ _ _ (Nat.le_refl _), (newTo_ext own w.heap.size 0).trans (newTo_ext _ _ _) hb1.size, hb1.trans (hB2.mono hb1.size), (HEN.out.tch (F := fun _ => False) (Tch.below hb1) (fun _ _ h => h) (newTo_ext _ _ _)).tch (F := fun _ => False) (Tch.below hB2) (fun _ _ h => h) (newTo_ext _ _ _)⟩
  have HXB : Hid (b = x.b) := by rw [hx]; exact (rfl : b = b)
  have hca : ca = x.ca := by rw [hx]
  have hea : ea = x.ea := by rw [hx]
  have hcb : cb = x.cc := by rw [hx]
  have hec : ec = x.ec := by rw [hx]
  have hbb : b = x.b := HXB.out
  clear hx he ho hb1 HC HR HEN HXB
  subst hca hea hcb hec hbb
  generalize newTo (newTo own w.heap.size 0) w1.heap.size 0 = own2 at *
  go_wp2_with fail
  change Code.wp _ _ _ _ (w1.alloc (.cells (bmC x) 124))
  rw [← hw2]
  clear hw2
  have HBD : Hid (Blk w2.drew w1.heap.size (bmC x) 124) := HT2.out.box
  have y0 : w2.drew.cell? ⟨w1.heap.size, 0, none⟩ = some (I x.b.o) := HBD.out.cell 0
  have y1 : w2.drew.cell? ⟨w1.heap.size, 1, none⟩ = some (I x.b.s) := HBD.out.cell 1
  have y2 : w2.drew.cell? ⟨w1.heap.size, 2, none⟩ = some (I x.b.t) := HBD.out.cell 2
  have y3 : w2.drew.cell? ⟨w1.heap.size, 3, none⟩ = some (.slice x.ca x.b.clock.length x.cc) := HBD.out.cell 3
  have y4 : w2.drew.cell? ⟨w1.heap.size, 4, none⟩ = some (.slice x.ea x.b.effs.length x.ec) := HBD.out.cell 4
  have y5 : w2.drew.cell? ⟨p, 2, none⟩ = some (.slice (some ⟨cg, 0, none⟩) R.clock.length cc) := HT2.out.rp.clkAt.cell
  have hox0 : 0 ≤ x.b.o := (isB_parts HIB.out.1).2.1
  have hox1 : x.b.o < (R.clock.length : Int) := by have := (isB_parts HIB.out.1).2.2.1; have := HFT.out; omega
  have hoxn : x.b.o.toNat < R.clock.length := by omega
  have y6 : w2.drew.cell? ⟨cg, x.b.o.toNat, none⟩ = some (I (R.clock.getD x.b.o.toNat 0)) := by
    have := HT2.out.rp.clkAt.row x.b.o.toNat hoxn
    rw [show w2.drew.cell? ⟨cg, x.b.o.toNat, none⟩ = w2.cell? ⟨cg, x.b.o.toNat, none⟩ from rfl, this]
    simp [hoxn]
  have hlt : decide (x.b.s ≤ R.clock.getD x.b.o.toNat 0) = false := decide_eq_false (by have := HSQ.out; omega)
  obtain ⟨dk, HDK⟩ : ∃ dk, Hid (R.clock.getD x.b.o.toNat 0 = dk) := ⟨_, rfl⟩
  rw [HDK.out] at y6 hlt
  have hdec : decide (x.b.clock.length = R.clock.length) = true := decide_eq_true HFT.out
  have HDEC : Hid (decide (x.b.clock.length = R.clock.length) = true) := hdec
  clear hdec
  go_region_held_law (fun w' => w'.cell? ⟨w1.heap.size, 0, none⟩ = some (I x.b.o) ∧ w'.cell? ⟨w1.heap.size, 1, none⟩ = some (I x.b.s) ∧ w'.cell? ⟨w1.heap.size, 2, none⟩ = some (I x.b.t) ∧ w'.cell? ⟨w1.heap.size, 3, none⟩ = some (.slice x.ca x.b.clock.length x.cc) ∧ w'.cell? ⟨w1.heap.size, 4, none⟩ = some (.slice x.ea x.b.effs.length x.ec) ∧ w'.cell? ⟨p, 2, none⟩ = some (.slice (some ⟨cg, 0, none⟩) R.clock.length cc) ∧ w'.cell? ⟨cg, x.b.o.toNat, none⟩ = some (I dk)) (exact ⟨by with_reducible assumption, by with_reducible assumption, by with_reducible assumption, by with_reducible assumption, by with_reducible assumption, by with_reducible assumption, by with_reducible assumption⟩)
    (first
    | (go_at_call 121; refine (fits_any p cg cc R.clock x _ (HT2.out.rp.clkAt.kept (Below.refl _ _).drew)).mono ?_; rintro e w3 ⟨rfl, hb3⟩; have HB3 : Hid (Below w2.heap.size w2 w3) := (Below.refl _ _).drew.trans hb3; clear hb3; have HX3 : Hid (Blk w3 w1.heap.size (bmC x) 124) := HT2.out.box.kept HB3.out HT2.out.box.lt; have f0 : w3.cell? ⟨w1.heap.size, 0, none⟩ = some (I x.b.o) := HX3.out.cell 0; have f1 : w3.cell? ⟨w1.heap.size, 1, none⟩ = some (I x.b.s) := HX3.out.cell 1; have f2 : w3.cell? ⟨w1.heap.size, 2, none⟩ = some (I x.b.t) := HX3.out.cell 2; have f3 : w3.cell? ⟨w1.heap.size, 3, none⟩ = some (.slice x.ca x.b.clock.length x.cc) := HX3.out.cell 3; have f4 : w3.cell? ⟨w1.heap.size, 4, none⟩ = some (.slice x.ea x.b.effs.length x.ec) := HX3.out.cell 4; have f5 : w3.cell? ⟨p, 2, none⟩ = some (.slice (some ⟨cg, 0, none⟩) R.clock.length cc) := cell_kept HB3.out y5; have f6 : w3.cell? ⟨cg, x.b.o.toNat, none⟩ = some (I dk) := cell_kept HB3.out y6; rw [HDEC.out]))
  have HT3 : Hid (TfAt w w0 w3 own (newTo own2 w2.heap.size 0) c p R cg cc hp mv hv ev hs' es x w1.heap.size eb ef) := HT2.out.below HB3.out
  generalize newTo own2 w2.heap.size 0 = own3 at *
  clear HT2 HB3 HBD y0 y1 y2 y3 y4 y5 y6 f5 f6 HX3 HDEC HDK HSQ
  go_wp2_with fail
  refine (isdue_any p cg cc R.clock x w3 HT3.out.rp.clkAt HT3.out.bat.k.at.1 hox0 (by have := HFT.out; omega) (Nat.le_trans HOK.out.len (by omega)) (fun j => Int.le_trans (HOK.out.getD j).2 (by omega)) (fun j => Int.le_trans (by omega) (HOK.out.getD j).1)).mono ?_
  rintro e w4 ⟨rfl, hb4⟩
  have HT4 : Hid (TfAt w w0 w4 own (newTo own3 w3.heap.size 0) c p R cg cc hp mv hv ev hs' es x w1.heap.size eb ef) := HT3.out.below hb4
  generalize newTo own3 w3.heap.size 0 = own4 at *
  clear HT3 hb4 f0 f1 f2 f3 f4
  have f0 : w4.cell? ⟨w1.heap.size, 0, none⟩ = some (I x.b.o) := HT4.out.box.cell 0
  have f1 : w4.cell? ⟨w1.heap.size, 1, none⟩ = some (I x.b.s) := HT4.out.box.cell 1
  have f2 : w4.cell? ⟨w1.heap.size, 2, none⟩ = some (I x.b.t) := HT4.out.box.cell 2
  have f3 : w4.cell? ⟨w1.heap.size, 3, none⟩ = some (.slice x.ca x.b.clock.length x.cc) := HT4.out.box.cell 3
  have f4 : w4.cell? ⟨w1.heap.size, 4, none⟩ = some (.slice x.ea x.b.effs.length x.ec) := HT4.out.box.cell 4
  have HTW : Hid (Tch (fun k => c ≤ own k ∧ own k ≤ c + 10) w w4) := Tch.below HT4.out.bel
  have HHS : Hid (hs'.length ≤ 6) := by
    have h1 := HOK.out.most
    rw [HT4.out.rp.heldB, List.length_map] at h1
    exact h1
  cases hdu : dueB R.clock x.b with
  | true =>
    have HFT2 : Hid (F = heldR ((takeP earlierB (likeB x.b) R.held).2.length + 1) (deliverR R x.b l (takeP earlierB (likeB x.b) R.held).2)) := by
      have := HFR.out
      rw [hdu] at this
      exact this
    have HDU : Hid (dueB R.clock x.b = true) := hdu
    have HLG : Hid (R.log.length + l.length ≤ 100000000) := by
      have h1 := HOK.out.logl
      have h2 := HOK.out.sum
      have h3 := HIB.out.2
      show _ ≤ _
      omega
    have HNN : Hid (5 * sumN R.clock + x.b.effs.length ≤ 100000) := by
      have h2 := HOK.out.sum
      obtain ⟨_, _, _, _, _, _, _, h3⟩ := isB_parts HIB.out.1
      show _ ≤ _
      omega
    clear hdu HFR
    go_wp2_with fail
    refine (deliver_any own4 c p R cg cc hp mv hv ev hs' es x l w4 hc0 HT4.out.rp (HT4.out.bat.k.mono (fun d e => Or.inl e)) (Nat.le_trans HHS.out (by omega)) HLG.out hox0 hox1 HOK.out.obs8 (5 * sumN R.clock) HNN.out HOK.out.bd (isB_vals HIB.out.1)).mono ?_
    rintro e w5 ⟨rfl, hd5⟩
    obtain ⟨own5, hv5, hE5, hR5, hT5⟩ := hd5
    have HR5 : Hid (RpIn w5 own5 c p (deliverR R x.b l ((takeP lessM (fun m => likeB x.b m.b) hs').2.map (·.b))) cg cc hp mv hv5 ev (takeP lessM (fun m => likeB x.b m.b) hs').2 es) := hR5
    have HEN5 : Hid (Env w0 w5 own5 eb ef) := HT4.out.env.tch hT5 (fun k e h => by rw [e] at h; omega) hE5
    have HE5 : Hid (Ext own own5 w.heap.size) := HT4.out.ext.trans hE5 HT4.out.bel.size
    have HT5 : Hid (Tch (fun k => c ≤ own k ∧ own k ≤ c + 10) w w5) := HTW.out.trans hT5 (fun _ _ h => h) (fun k hk h => by rw [HT4.out.ext k hk] at h; exact ⟨h.1, by omega⟩)
    have HM : Hid ((takeP earlierB (likeB x.b) R.held).2 = (takeP lessM (fun m => likeB x.b m.b) hs').2.map (·.b)) := by
      show _ = _
      rw [HT4.out.rp.heldB, takeM_map (likeB x.b) hs']
    have HOK5 : Hid (Rok (deliverR R x.b l ((takeP lessM (fun m => likeB x.b m.b) hs').2.map (·.b)))) := by
      have hhb : ∀ m ∈ hs', Wv.isB m.b = true := fun m hm => HOK.out.held m.b (by rw [HT4.out.rp.heldB]; exact List.mem_map_of_mem hm)
      refine HOK.out.deliver HIB.out.1 (Nat.le_trans HIB.out.2 (by omega)) HDU.out (fun y hy => ?_) ?_
      · obtain ⟨m, hm, rfl⟩ := List.mem_map.1 hy
        exact hhb m (mem_takeP _ _ _ m (Or.inr hm))
      · have h1 := HHS.out
        have := takeP_len lessM (fun m => likeB x.b m.b) hs'
        rw [List.length_map]
        omega
    rw [HM.out, List.length_map] at HFT2
    clear hE5 hR5 hT5 HT4 HM f0 f1 f2 f3 f4 HTW HHS HLG HNN HDU
    generalize (takeP lessM (fun m => likeB x.b m.b) hs').2 = l5 at *
    go_wp2_with fail
    refine (dheld_any own5 c p _ cg cc hp mv hv5 ev l5 es w5 w0 eb ef hI HEN5.out hc0 HR5.out HOK5.out).mono ?_
    rintro e w6 ⟨rfl, hd6⟩
    have HE : Hid (ROk w own c p F w6) := by
      have h9 := (heldAll_R (l5.length + 1) (deliverR R x.b l (l5.map (·.b))) l5 rfl).1
      rw [h9, ← HFT2.out] at hd6
      exact ROk.from HE5.out HT5.out (ROk.del hd6)
    clear hd6
    go_wp2
    go_end0
    exact ⟨rfl, HE.out⟩
  | false =>
    have HFT2 : Hid (F = if R.held.length < 6 ∧ (R.held.any (likeB x.b)) = false then { R with held := pushP earlierB R.held x.b } else R) := by
      have := HFR.out
      rw [hdu] at this
      exact this
    clear hdu HFR
    have HRL : Hid (R.held.length = hs'.length) := by show _ = _; rw [HT4.out.rp.heldB, List.length_map]
    have HRA : Hid (R.held.any (likeB x.b) = hs'.any (fun m => likeB x.b m.b)) := by show _ = _; rw [HT4.out.rp.heldB, List.any_map]; rfl
    have HRP : Hid (pushP earlierB R.held x.b = (pushP lessM hs' x).map (·.b)) := by show _ = _; rw [HT4.out.rp.heldB]; exact pushM_map hs' x
    rw [HRL.out, HRA.out, HRP.out] at HFT2
    have HSAME : Hid (∀ w5, F = R → Below w4.heap.size w4 w5 → ROk w own c p F w5) := fun w5 e hb => by
      rw [e]
      exact ROk.from HT4.out.ext HTW.out (ROk.below ⟨_, _, _, _, _, _, _, _, HT4.out.rp⟩ hb)
    clear HRL HRA HRP
    by_cases hfu : hs'.length < 6
    · cases hany : (hs'.any fun m => likeB x.b m.b) with
      | true =>
        have HFQ : Hid (F = R) := by show _ = _; have := HFT2.out; rw [hany] at this; simpa using this
        have HAN : Hid ((hs'.any fun m => likeB x.b m.b) = true) := hany
        clear hany HFT2
        go_wp2_with fail
        refine (hold_has own4 c p R cg cc hp mv hv ev hs' es x w4 HT4.out.rp hfu HAN.out).mono ?_
        rintro e w5 ⟨rfl, hb5⟩
        have HE : Hid (ROk w own c p F w5) := HSAME.out w5 HFQ.out hb5
        clear hb5
        go_wp2
        refine bodyPost_ret (results_none rfl _ _ _) rfl ?_
        exact ⟨rfl, HE.out⟩
      | false =>
        have HFQ : Hid (F = { R with held := (pushP lessM hs' x).map (·.b) }) := by show _ = _; have := HFT2.out; rw [hany] at this; simpa [hfu] using this
        have HAN : Hid ((hs'.any fun m => likeB x.b m.b) = false) := hany
        clear hany HFT2
        go_wp2_with fail
        refine (hold_push own4 c p R cg cc hp mv hv ev hs' es x w4 HT4.out.rp hfu HAN.out HT4.out.bat).mono ?_
        rintro e w5 ⟨rfl, hb5⟩
        have HE : Hid (ROk w own c p F w5) := by
          show ROk _ _ _ _ _ _
          rw [HFQ.out]
          exact ROk.from HT4.out.ext HTW.out (ROk.hold hb5)
        clear hb5
        go_wp2
        refine bodyPost_ret (results_none rfl _ _ _) rfl ?_
        exact ⟨rfl, HE.out⟩
    · have HFQ : Hid (F = R) := by show _ = _; have := HFT2.out; simpa [hfu] using this
      clear HFT2
      go_wp2_with fail
      refine (hold_full own4 c p R cg cc hp mv hv ev hs' es x w4 HT4.out.rp hfu).mono ?_
      rintro e w5 ⟨rfl, hb5⟩
      have HE : Hid (ROk w own c p F w5) := HSAME.out w5 HFQ.out hb5
      clear hb5
      go_wp2
      refine bodyPost_ret (results_none rfl _ _ _) rfl ?_
      exact ⟨rfl, HE.out⟩

end Go.Proofs.YtfmcngncaffloaaGreatDoor
