import Derived.Test.YtfmcngncaffloaaGreatDoorG23RpD
import Derived.Test.YtfmcngncaffloaaGreatDoorEnc
namespace Go.Proofs.YtfmcngncaffloaaGreatDoor
open Go.RowKit
set_option maxRecDepth 100000

def abortR (R : Rp) : Rp × Int := if R.st = 1 then (endR R, 0) else (R, 7)
set_option maxHeartbeats 800000 in
theorem rabort_any (own : Clr) (c p : Nat) (R : Rp) (cg cc hp : Nat) (mv hv ev : Value) (hs : List Bm) (es : List Em) (w : World) (hc0 : 0 < c) (h : RpIn w own c p R cg cc hp mv hv ev hs es) :
    Calls Tryz.prog 45 #[.pointer (some ⟨p, 0, none⟩)] w fun e w' => e = .returned (I (abortR R).2) ∧ ∃ ev' es', SelfOk w own c p (abortR R).1 cg cc hp mv hv ev' hs es' w' := by
  have HR : Hid (RpIn w own c p R cg cc hp mv hv ev hs es) := h
  have c1 : w.cell? ⟨p, 1, none⟩ = some (I R.st) := h.blk.cell 1
  clear h
  go_enter Tryz.func45, Tryz.ntmps45
  by_cases h1 : R.st = 1
  · have HV : Hid (abortR R = (endR R, 0)) := by show _ = _; unfold abortR; rw [if_pos h1]
    have hb : (R.st == 1) = true := by simp [h1]
    clear h1
    go_wp2_with fail
    refine (rend_any own c p R cg cc hp mv hv ev hs es w hc0 HR.out).mono ?_
    rintro e w1 ⟨rfl, ho⟩
    have HO : Hid (SelfOk w own c p (endR R) cg cc hp mv hv (.slice none 0 0) hs [] w1) := ho
    clear ho
    go_wp2
    go_ret
    rw [HV.out]
    exact ⟨rfl, _, _, HO.out⟩
  · have HV : Hid (abortR R = (R, 7)) := by show _ = _; unfold abortR; rw [if_neg h1]
    have hb : (R.st == 1) = false := by simp [h1]
    clear h1
    go_wp2
    go_ret
    rw [HV.out]
    exact ⟨rfl, _, _, HR.out, Tch.refl _ _⟩
set_option maxHeartbeats 800000 in
theorem risdown_any (own : Clr) (c p : Nat) (R : Rp) (cg cc hp : Nat) (mv hv ev : Value) (hs : List Bm) (es : List Em) (w : World) (h : RpIn w own c p R cg cc hp mv hv ev hs es) :
    Calls Tryz.prog 65 #[.pointer (some ⟨p, 0, none⟩)] w fun e w' => e = .returned (.bool (R.st == 2)) ∧ w' = w := by
  have c1 : w.cell? ⟨p, 1, none⟩ = some (I R.st) := h.blk.cell 1
  clear h
  go_enter Tryz.func65, Tryz.ntmps65
  go_wp2
  go_ret
  exact ⟨rfl, rfl⟩
set_option maxHeartbeats 800000 in
theorem rlog_any (own : Clr) (c p : Nat) (R : Rp) (cg cc hp : Nat) (mv hv ev : Value) (hs : List Bm) (es : List Em) (w : World) (h : RpIn w own c p R cg cc hp mv hv ev hs es) :
    Calls Tryz.prog 138 #[.pointer (some ⟨p, 0, none⟩)] w fun e w' => e = .returned (.string ⟨R.log.toArray⟩) ∧ w' = w := by
  have c1 : w.cell? ⟨p, 5, none⟩ = some (.string ⟨R.log.toArray⟩) := h.blk.cell 5
  clear h
  go_enter Tryz.func138, Tryz.ntmps138
  go_wp2
  go_ret
  exact ⟨rfl, rfl⟩
set_option maxHeartbeats 800000 in
theorem rheld_any (own : Clr) (c p : Nat) (R : Rp) (cg cc hp : Nat) (mv hv ev : Value) (hs : List Bm) (es : List Em) (w : World) (h : RpIn w own c p R cg cc hp mv hv ev hs es) :
    Calls Tryz.prog 55 #[.pointer (some ⟨p, 0, none⟩)] w fun e w' => e = .returned (I R.held.length) ∧ w' = w := by
  have c1 : w.cell? ⟨p, 7, none⟩ = some (.pointer (some ⟨hp, 0, none⟩)) := h.blk.cell 7
  have HH : Hid (HpIn w hp hv hs) := h.held.hpx
  have HL : Hid (R.held.length = hs.length) := by show _ = _; rw [h.heldB, List.length_map]
  clear h
  go_enter Tryz.func55, Tryz.ntmps55
  go_wp2_with fail
  refine (hlen_any hp hv hs w HH.out).mono ?_
  rintro e w1 ⟨rfl, rfl⟩
  go_wp2
  go_ret
  exact ⟨by rw [HL.out]; rfl, rfl⟩
def syncR (R : Rp) : Rp := { R with synced := R.log.length }
set_option maxHeartbeats 800000 in
theorem lsync_any (own : Clr) (c p : Nat) (R : Rp) (cg cc hp : Nat) (mv hv ev : Value) (hs : List Bm) (es : List Em) (w : World) (hc0 : 0 < c) (h : RpIn w own c p R cg cc hp mv hv ev hs es) :
    Calls Tryz.prog 73 #[.pointer (some ⟨p, 5, none⟩)] w fun e w' => e = .returned (.tuple #[]) ∧ SelfOk w own c p (syncR R) cg cc hp mv hv ev hs es w' := by
  have HR : Hid (RpIn w own c p R cg cc hp mv hv ev hs es) := h
  have c5 : w.cell? ⟨p, 5, none⟩ = some (.string ⟨R.log.toArray⟩) := h.blk.cell 5
  have c6 : w.cell? ⟨p, 6, none⟩ = some (I R.synced) := h.blk.cell 6
  have z6 : w.frozen? ⟨p, 6, none⟩ = false := h.blk.frozen 6
  clear h
  go_enter Tryz.func73, Tryz.ntmps73
  go_wp2
  go_end0
  exact ⟨rfl, HR.out.self hc0 (tch_set (Tch.refl _ _) _ _) (HR.out.blk.set 6 _) rfl rfl rfl rfl, tch_set (Tch.refl _ _) _ _⟩
theorem bytes_append (a b : List UInt8) : ((⟨a.toArray⟩ : ByteArray) ++ ⟨b.toArray⟩) = ⟨(a ++ b).toArray⟩ := by
  apply ByteArray.ext
  simp
set_option maxHeartbeats 800000 in
theorem ladd_any (own : Clr) (c p : Nat) (R : Rp) (cg cc hp : Nat) (mv hv ev : Value) (hs : List Bm) (es : List Em) (f : List UInt8) (w : World) (hc0 : 0 < c) (h : RpIn w own c p R cg cc hp mv hv ev hs es) (hl : R.log.length + f.length ≤ 100000000) :
    Calls Tryz.prog 119 #[.pointer (some ⟨p, 5, none⟩), .string ⟨f.toArray⟩] w fun e w' => e = .returned (.tuple #[]) ∧ SelfOk w own c p { R with log := R.log ++ f } cg cc hp mv hv ev hs es w' := by
  have HR : Hid (RpIn w own c p R cg cc hp mv hv ev hs es) := h
  have c5 : w.cell? ⟨p, 5, none⟩ = some (.string ⟨R.log.toArray⟩) := h.blk.cell 5
  have z5 : w.frozen? ⟨p, 5, none⟩ = false := h.blk.frozen 5
  clear h
  have HB := bytes_append R.log f
  go_enter Tryz.func119, Tryz.ntmps119
  go_wp2
  go_end0
  exact ⟨rfl, HR.out.self hc0 (tch_set (Tch.refl _ _) _ _) (HR.out.blk.set 5 _) rfl rfl rfl rfl, tch_set (Tch.refl _ _) _ _⟩
set_option maxHeartbeats 800000 in
theorem rsync_any (own : Clr) (c p : Nat) (R : Rp) (cg cc hp : Nat) (mv hv ev : Value) (hs : List Bm) (es : List Em) (w : World) (hc0 : 0 < c) (h : RpIn w own c p R cg cc hp mv hv ev hs es) :
    Calls Tryz.prog 147 #[.pointer (some ⟨p, 0, none⟩)] w fun e w' => e = .returned (.tuple #[]) ∧ SelfOk w own c p (syncR R) cg cc hp mv hv ev hs es w' := by
  go_enter Tryz.func147, Tryz.ntmps147
  go_wp2_with fail
  refine (lsync_any own c p R cg cc hp mv hv ev hs es w hc0 h).mono ?_
  rintro e w1 ⟨rfl, ho⟩
  have HO : Hid (SelfOk w own c p (syncR R) cg cc hp mv hv ev hs es w1) := ho
  clear ho h
  go_wp2
  go_end0
  exact ⟨rfl, HO.out⟩
theorem ints_one (zs : List Int) : ∀ u ∈ zs.map I, u.oneCell' = true := by
  intro u hu
  obtain ⟨z, _, rfl⟩ := List.mem_map.1 hu
  rfl
set_option maxHeartbeats 800000 in
theorem clonei_any (g c : Nat) (zs : List Int) (w : World) (hat : ∀ j (hj : j < zs.length), w.cell? ⟨g, j, none⟩ = some (I zs[j])) (hl : zs.length ≤ 1048576) :
    Calls Tryz.prog 76 #[.slice (some ⟨g, 0, none⟩) zs.length c] w fun e w' => ∃ v, e = .returned v ∧ w'.ownsRow w.heap.size 3 1 v zs.length (zs.map I) ∧ Below w.heap.size w w' := by
  have hnil := Lib.run_eql_slice_nil (P := Tryz.prog) w 34 3 (some ⟨g, 0, none⟩) zs.length c 0 0 Tryz.underlying34
  have OL : Hid ((w.alloc (.cells #[] 3)).ownsRow w.heap.size 3 1 (.slice (some ⟨w.heap.size, 0, none⟩) 0 0) 0 []) := ⟨rfl, .inr ⟨w.heap.size, 0, #[], rfl, Nat.le_refl _, heap_alloc_new w _, Nat.le_refl _, by unfold maxLen; omega, rfl, rfl⟩⟩
  obtain ⟨i, HI⟩ : ∃ i, Hid (Tryz.prog.info? 3 = some i ∧ i.zero = some (.int .i64 0) ∧ i.size = 1 ∧ i.bytes = 8) := by obtain ⟨i, h⟩ := info_parts infoIn; exact ⟨i, h⟩
  have n1 : 0 + zs.length ≤ maxLen := by unfold maxLen; omega
  have n2 : (0 + zs.length) * 8 ≤ 140737488355328 := by omega
  have n3 : w.heap.size ≤ (w.alloc (.cells #[] 3)).heap.size := by simp
  have n4 : (zs.map I).length = zs.length * 1 := by simp
  have n5 := ints_one zs
  have HN : Hid (∀ j u, (zs.map I)[j]? = some u → (w.alloc (.cells #[] 3)).cell? ((⟨g, 0, none⟩ : Addr).add j) = some u) := fun j u hj => by
    rw [Addr.add_lit, Nat.zero_add]
    rw [List.getElem?_map] at hj
    obtain ⟨z, hz, rfl⟩ := Option.map_eq_some_iff.1 hj
    obtain ⟨hjl, rfl⟩ := List.getElem?_eq_some_iff.1 hz
    exact cell_kept ((Below.refl _ _).alloc (Nat.le_refl _) _) (hat j hjl)
  clear hat
  go_enter Tryz.func76, Tryz.ntmps76
  go_wp2_with (first | (at_builtin; refine wpList_append_own_at _ rfl _ _ _ rfl w.heap.size 3 i (.int .i64 0) 1 8 Tryz.underlying34 HI.out.1 HI.out.2.1 HI.out.2.2.1 HI.out.2.2.2 rfl (by decide) (.slice (some ⟨w.heap.size, 0, none⟩) 0 0) 0 [] rfl OL.out ⟨g, 0, none⟩ zs.length c (zs.map I) rfl n4 HN.out n5 n1 n2 n3 ?_; intro v1 w1 hown1 hgrow1 hnil1 hat1; have HO : Hid (w1.ownsRow w.heap.size 3 1 v1 zs.length (zs.map I) ∧ Below w.heap.size w w1) := (by rw [Nat.zero_add, List.nil_append] at hown1; refine ⟨hown1, ((Below.refl w.heap.size w).alloc (Nat.le_refl _) (.cells #[] 3)).grown hgrow1 (by simp) (fun k e => ?_)⟩; have : w.heap.size = k := (by simpa [Value.ownBlock] using e); omega); clear hown1 hgrow1 hnil1 hat1))
  go_ret
  exact ⟨_, rfl, HO.out.1, HO.out.2⟩
set_option maxHeartbeats 800000 in
theorem rclock_any (own : Clr) (c p : Nat) (R : Rp) (cg cc hp : Nat) (mv hv ev : Value) (hs : List Bm) (es : List Em) (w : World) (h : RpIn w own c p R cg cc hp mv hv ev hs es) (hl : R.clock.length ≤ 1000) :
    Calls Tryz.prog 49 #[.pointer (some ⟨p, 0, none⟩)] w fun e w' => ∃ v, e = .returned v ∧ w'.ownsRow w.heap.size 3 1 v R.clock.length (R.clock.map I) ∧ Below w.heap.size w w' := by
  have c2 : w.cell? ⟨p, 2, none⟩ = some (.slice (some ⟨cg, 0, none⟩) R.clock.length cc) := h.blk.cell 2
  have HC : Hid (∀ j (hj : j < R.clock.length), w.cell? ⟨cg, j, none⟩ = some (I R.clock[j])) := h.clkAt.row
  clear h
  go_enter Tryz.func49, Tryz.ntmps49
  go_wp2_with fail
  refine (clonei_any cg cc R.clock w HC.out (by omega)).mono ?_
  rintro e w1 ⟨v, rfl, ho, hb⟩
  have HO : Hid (w1.ownsRow w.heap.size 3 1 v R.clock.length (R.clock.map I) ∧ Below w.heap.size w w1) := ⟨ho, hb⟩
  clear ho hb
  go_wp2
  go_ret
  exact ⟨_, rfl, HO.out⟩

end Go.Proofs.YtfmcngncaffloaaGreatDoor

namespace Go.Proofs.YtfmcngncaffloaaGreatDoor
open Go.RowKit
set_option maxRecDepth 100000

def stampB (b : Wv.Bt) (i : Int) : Stp := ⟨⟨b.o, b.s, i⟩, b.t⟩
set_option maxHeartbeats 800000 in
theorem stampOf_any (x : Bm) (i : Int) (w : World) :
    Calls Tryz.prog 114 #[bmV x, I i] w fun e w' => e = .returned (stV (stampB x.b i)) ∧ Below w.heap.size w w' := by
  have HE : Hid (Below w.heap.size w (w.alloc (.cells (bmC x) 124))) := (Below.refl _ _).alloc (Nat.le_refl _) _
  have HE2 : Hid (Below w.heap.size w ((w.alloc (.cells (bmC x) 124)).alloc (.cells #[I x.b.o, I x.b.s, I i, I x.b.t] 198))) := HE.out.alloc HE.out.size _
  clear HE
  go_enter Tryz.func114, Tryz.ntmps114
  go_wp2_with fail
  exact bodyPost_ret (v := stV (stampB x.b i)) (by simp [results, Tryz.results114, go_sem, stampB]) rfl ⟨rfl, HE2.out⟩
set_option maxHeartbeats 800000 in
theorem frameOf_any (x : Bm) (w : World) (eb ef : Addr) (hI : ItoaSaid) (g : Gl w eb ef) (hp : Pw w) (h : BatAt w x.b x.ca x.ea x.ms) (hb : Wv.isB x.b = true) :
    Calls Tryz.prog 71 #[bmV x] w fun e w' => e = .returned (.string ⟨(Wv.frameB x.b).toArray⟩) ∧ Below w.heap.size w w' := by
  have hA : Below w.heap.size w (w.alloc (.cells (bmC x) 124)) := (Below.refl _ _).alloc (Nat.le_refl _) _
  have HC : Hid (Calls Tryz.prog 116 #[bV x.b x.ca x.ea x.cc x.ec] (w.alloc (.cells (bmC x) 124)) fun e w' => e = .returned (.tuple #[.string ⟨(Wv.frameB x.b).toArray⟩, .nilIface]) ∧ Below (w.alloc (.cells (bmC x) 124)).heap.size (w.alloc (.cells (bmC x) 124)) w') := fencode_yes x.b x.ca x.ea x.cc x.ec x.ms _ eb ef hI (g.kept hA) (hp.kept hA) (h.kept hA) hb
  have HA : Hid (Below w.heap.size w (w.alloc (.cells (bmC x) 124))) := hA
  clear h hp g hA hb
  go_enter Tryz.func71, Tryz.ntmps71
  go_wp2_with fail
  refine HC.out.mono ?_
  rintro e w1 ⟨rfl, hb1⟩
  have HB : Hid (Below w.heap.size w w1) := HA.out.trans (hb1.mono HA.out.size)
  clear hb1 HC HA
  go_wp2
  go_ret
  exact ⟨rfl, HB.out⟩
/-- Where a batch lies: in blocks whose colours K takes. -/
def AtK (K : Nat → Prop) (w : World) (own : Clr) (a : Option Addr) (cs : List Value) : Prop := ∀ j u, cs[j]? = some u → ∃ b o, a = some ⟨b, o, none⟩ ∧ K (own b) ∧ w.cell? ⟨b, o + j, none⟩ = some u
theorem AtK.at {K : Nat → Prop} {w : World} {own : Clr} {a : Option Addr} {cs : List Value} (h : AtK K w own a cs) : At w a cs := fun j u hj => by
  obtain ⟨b, o, e, _, hc⟩ := h j u hj
  exact ⟨b, o, e, hc⟩
theorem AtK.keep {K : Nat → Prop} {w w' : World} {own own' : Clr} {a : Option Addr} {cs : List Value} (h : AtK K w own a cs) (hs : ∀ d, K d → Same own d w w') (he : Ext own own' w.heap.size) : AtK K w' own' a cs := fun j u hj => by
  obtain ⟨b, o, e, h0, hc⟩ := h j u hj
  exact ⟨b, o, e, by rw [he b (lt_of_cell hc)]; exact h0, cell_same hc (hs _ h0 b (lt_of_cell hc) rfl)⟩
theorem AtK.mono {K L : Nat → Prop} {w : World} {own : Clr} {a : Option Addr} {cs : List Value} (h : AtK K w own a cs) (hkl : ∀ d, K d → L d) : AtK L w own a cs := fun j u hj => by
  obtain ⟨b, o, e, h0, hc⟩ := h j u hj
  exact ⟨b, o, e, hkl _ h0, hc⟩
structure BatK (K : Nat → Prop) (w : World) (own : Clr) (m : Bm) : Prop where
  clock : AtK K w own m.ca (m.b.clock.map I)
  effs : m.b.effs = m.ms.map (·.e)
  cells : AtK K w own m.ea (flat Em.cells m.ms)
  dots : ∀ x ∈ m.ms, AtK K w own x.da (flat dotCells x.e.dots)
theorem BatK.at {K : Nat → Prop} {w : World} {own : Clr} {m : Bm} (h : BatK K w own m) : BatAt w m.b m.ca m.ea m.ms := ⟨h.clock.at, h.effs, h.cells.at, fun x hx => (h.dots x hx).at⟩
theorem BatK.keep {K : Nat → Prop} {w w' : World} {own own' : Clr} {m : Bm} (h : BatK K w own m) (hs : ∀ d, K d → Same own d w w') (he : Ext own own' w.heap.size) : BatK K w' own' m :=
  ⟨h.clock.keep hs he, h.effs, h.cells.keep hs he, fun x hx => (h.dots x hx).keep hs he⟩
theorem BatIn.k {w : World} {own : Clr} {m : Bm} (h : BatIn w own m) : BatK (fun d => d = 0) w own m := ⟨h.clock, h.effs, h.cells, h.dots⟩
theorem BatK.mono {K L : Nat → Prop} {w : World} {own : Clr} {m : Bm} (h : BatK K w own m) (hkl : ∀ d, K d → L d) : BatK L w own m := ⟨h.clock.mono hkl, h.effs, h.cells.mono hkl, fun x hx => (h.dots x hx).mono hkl⟩

end Go.Proofs.YtfmcngncaffloaaGreatDoor

namespace Go.Proofs.YtfmcngncaffloaaGreatDoor
open Go.RowKit
set_option maxRecDepth 100000

theorem mem_riseP {α : Type} (less : α → α → Bool) (bs : List α) (i : Nat) (m : α) (h : m ∈ riseP less bs i) : m ∈ bs := by
  induction i using Nat.strongRecOn generalizing bs with
  | _ i ih =>
    rw [riseP] at h
    split at h
    · exact mem_swapP bs i _ m (ih ((i - 1) / 2) (by omega) _ h)
    · exact h
theorem mem_pushP {α : Type} (less : α → α → Bool) (bs : List α) (x m : α) (h : m ∈ pushP less bs x) : m ∈ bs ∨ m = x := by
  have := mem_riseP less _ _ m h
  simpa using this
theorem mem_pushAll {α : Type} (less : α → α → Bool) (os : List α) : ∀ (l : List α) (m : α), m ∈ os.foldl (pushP less) l → m ∈ l ∨ m ∈ os := by
  induction os with
  | nil => intro l m h; exact Or.inl h
  | cons x os ih =>
    intro l m h
    rcases ih _ m h with h | h
    · rcases mem_pushP less l x m h with h | h
      · exact Or.inl h
      · exact Or.inr (by simp [h])
    · exact Or.inr (by simp [h])
theorem mem_popAll {α : Type} (less : α → α → Bool) (f : α → Bool) (n : Nat) : ∀ (l os : List α) (m : α), (m ∈ (popAll less f n l os).1.toList ∨ m ∈ (popAll less f n l os).2.1 ∨ m ∈ (popAll less f n l os).2.2) → m ∈ l ∨ m ∈ os := by
  induction n with
  | zero => intro l os m h; rcases h with h | h | h; simp [popAll] at h; exact Or.inl h; exact Or.inr h
  | succ n ih =>
    intro l os m h
    have hr := mem_popR less l m
    unfold popR at hr
    rw [popAll] at h
    cases hq : popP less l with
    | none => rw [hq] at h; simp only [Option.toList_none, List.not_mem_nil, false_or] at h; exact h
    | some p =>
      obtain ⟨x, l'⟩ := p
      rw [hq] at h hr
      simp only [Option.toList_some, List.singleton_append, List.mem_cons] at hr
      simp only at h
      split at h
      · rcases h with h | h | h
        · simp only [Option.toList_some, List.mem_singleton] at h; exact Or.inl (hr (Or.inl h))
        · exact Or.inl (hr (Or.inr h))
        · exact Or.inr h
      · rcases ih _ _ m h with h | h
        · exact Or.inl (hr (Or.inr h))
        · simp only [List.mem_append, List.mem_singleton] at h
          rcases h with h | h
          · exact Or.inr h
          · exact Or.inl (hr (Or.inl h))
theorem mem_takeP {α : Type} (less : α → α → Bool) (f : α → Bool) (bs : List α) (m : α) (h : m ∈ (takeP less f bs).1.toList ∨ m ∈ (takeP less f bs).2) : m ∈ bs := by
  have hp := mem_popAll less f (bs.length + 1) bs [] m
  simp only [List.not_mem_nil, or_false] at hp
  rcases h with h | h
  · exact hp (Or.inl h)
  · rcases mem_pushAll less _ _ m h with h | h
    · exact hp (Or.inr (Or.inl h))
    · exact hp (Or.inr (Or.inr h))
theorem popAll_len {α : Type} (less : α → α → Bool) (f : α → Bool) (n : Nat) : ∀ (l os : List α), (popAll less f n l os).1.toList.length + (popAll less f n l os).2.1.length + (popAll less f n l os).2.2.length ≤ l.length + os.length := by
  induction n with
  | zero => intro l os; simp [popAll]
  | succ n ih =>
    intro l os
    have hr := popR_len less l
    unfold popR at hr
    rw [popAll]
    cases hq : popP less l with
    | none => simp
    | some p =>
      obtain ⟨x, l'⟩ := p
      rw [hq] at hr
      simp only [Option.toList_some, List.length_singleton] at hr
      simp only
      split
      · simp only [Option.toList_some, List.length_singleton]; omega
      · have := ih l' (os ++ [x])
        simp only [List.length_append, List.length_singleton] at this
        omega
theorem takeP_len {α : Type} (less : α → α → Bool) (f : α → Bool) (bs : List α) : (takeP less f bs).1.toList.length + (takeP less f bs).2.length ≤ bs.length := by
  have := popAll_len less f (bs.length + 1) bs []
  show (popAll less f (bs.length + 1) bs []).1.toList.length + ((popAll less f (bs.length + 1) bs []).2.2.foldl (pushP less) (popAll less f (bs.length + 1) bs []).2.1).length ≤ bs.length
  rw [pushAll_len]
  simp only [List.length_nil, Nat.add_zero] at this
  omega
/-- What is held back, behind a call that took from it. -/
theorem HeldAt.took {w w' : World} {own : Clr} {c hp : Nat} {hv : Value} {hs l : List Bm} (h : HeldAt w own c hp hv hs) (hc : 0 < c) (ho : HpOk w hp hv l w') (hm : ∀ m ∈ l, m ∈ hs) : ∃ hv', HeldAt w' (newTo own w.heap.size c) c hp hv' l ∧ TchC own c w w' := by
  obtain ⟨hv', h1, hT, hv⟩ := ho
  have hTc : TchC own c w w' := hT.mono (fun k _ hk => by rcases hk with rfl | hk; exact h.own1; exact h.own2 k hk)
  refine ⟨hv', ⟨h1, (newTo_same _ _ _ _ h.hpx.blk.lt).trans h.own1, fun g e => ?_, fun m hx => (h.bats m (hm m hx)).keep (hTc.same (fun k e e2 => by omega)) (newTo_ext _ _ _)⟩, hTc⟩
  rcases hv g e with e2 | e2
  · exact (newTo_same _ _ _ _ (h.hpx.row.lt g e2).2).trans (h.own2 g e2)
  · exact newTo_new _ _ _ _ e2

theorem RpIn.took {w w' : World} {own : Clr} {c p : Nat} {R : Rp} {cg cc hp : Nat} {mv hv ev : Value} {hs l : List Bm} {es : List Em} (h : RpIn w own c p R cg cc hp mv hv ev hs es) (ho : HpOk w hp hv l w') (hm : ∀ m ∈ l, m ∈ hs) : ∃ hv', RpIn w' (newTo own w.heap.size (c + 9)) c p { R with held := l.map (·.b) } cg cc hp mv hv' ev l es ∧ TchC own (c + 9) w w' := by
  obtain ⟨hv', h1, hT⟩ := h.held.took (by omega) ho hm
  have he := newTo_ext own w.heap.size (c + 9)
  have hS : ∀ d, d ≠ c + 9 → Same own d w w' := fun d hd => hT.same (fun k e e2 => hd (e.symm.trans e2))
  exact ⟨hv', ⟨(hS c (by omega) p h.blk.lt h.own1).trans h.blk, (hS c (by omega) cg h.clk.lt h.own2).trans h.clk, (he p h.blk.lt).trans h.own1, (he cg h.clk.lt).trans h.own2, h.obs.keep (fun d a b => hS d (by omega)) he, h1, rfl, h.effs.keep (hS 0 (by omega)) (hS _ (by omega)) he, h.effsE⟩, hT⟩
/-- Nothing is written but what is a replica's, its effects apart. -/
abbrev TchR (own : Clr) (c : Nat) (w w' : World) : Prop := Tch (fun k => c ≤ own k ∧ own k ≤ c + 9) w w'

/-- A delivery under way: the replica, and the batch, boxed. -/
structure DlAt (w wr : World) (own own' : Clr) (c p : Nat) (R : Rp) (cg cc hp : Nat) (mv hv ev : Value) (hs : List Bm) (es : List Em) (x : Bm) : Prop where
  rp : RpIn wr own' c p R cg cc hp mv hv ev hs es
  bat : BatK (fun d => d = 0 ∨ d = c + 10) wr own' x
  box : Blk wr w.heap.size (bmC x) 124
  boxc : own' w.heap.size = 0
  ext : Ext own own' w.heap.size
  tch : TchR own c w wr
theorem DlAt.below {w wr w2 : World} {own own' : Clr} {c p : Nat} {R : Rp} {cg cc hp : Nat} {mv hv ev : Value} {hs : List Bm} {es : List Em} {x : Bm} (h : DlAt w wr own own' c p R cg cc hp mv hv ev hs es x) (hb : Below wr.heap.size wr w2) : DlAt w w2 own (newTo own' wr.heap.size 0) c p R cg cc hp mv hv ev hs es x :=
  ⟨h.rp.keep (fun b hl _ => hb.block b hl) (fun _ _ _ b hl _ => hb.block b hl) (newTo_ext _ _ _), h.bat.keep (fun _ _ b hl _ => hb.block b hl) (newTo_ext _ _ _), h.box.kept hb h.box.lt, (newTo_same _ _ _ _ h.box.lt).trans h.boxc, h.ext.trans (newTo_ext _ _ _) h.tch.size, h.tch.then (Tch.below hb)⟩
theorem dl_start {w wA w3 w4 : World} {own : Clr} {c p : Nat} {R : Rp} {cg cc hp : Nat} {mv hv ev : Value} {hs l : List Bm} {es : List Em} {x : Bm} (hc0 : 0 < c) (h : RpIn w own c p R cg cc hp mv hv ev hs es) (hx : BatK (fun d => d = 0 ∨ d = c + 10) w own x) (hA : wA = w.alloc (.cells (bmC x) 124)) (hB3 : Below wA.heap.size wA w3) (ho : HpOk w3 hp hv l w4) (hm : ∀ m ∈ l, m ∈ hs) :
    ∃ own' hv', DlAt w w4 own own' c p { R with held := l.map (·.b) } cg cc hp mv hv' ev l es x := by
  have hBA : Below w.heap.size w wA := by rw [hA]; exact (Below.refl _ _).alloc (Nat.le_refl _) _
  have hX : Blk wA w.heap.size (bmC x) 124 := by rw [hA]; exact heap_alloc_new w _
  have hB : Below w.heap.size w w3 := hBA.trans (hB3.mono hBA.size)
  have hX3 : Blk w3 w.heap.size (bmC x) 124 := hX.kept hB3 hX.lt
  have h3 : RpIn w3 (newTo own w.heap.size 0) c p R cg cc hp mv hv ev hs es := h.keep (fun b hl _ => hB.block b hl) (fun _ _ _ b hl _ => hB.block b hl) (newTo_ext _ _ _)
  have hx3 : BatK (fun d => d = 0 ∨ d = c + 10) w3 (newTo own w.heap.size 0) x := hx.keep (fun _ _ b hl _ => hB.block b hl) (newTo_ext _ _ _)
  obtain ⟨hv', h4, hT⟩ := h3.took ho hm
  have hbx : newTo own w.heap.size 0 w.heap.size = 0 := newTo_new _ _ _ _ (Nat.le_refl _)
  have hS : ∀ d, d ≠ c + 9 → Same (newTo own w.heap.size 0) d w3 w4 := fun d hd => hT.same (fun k e e2 => hd (e.symm.trans e2))
  refine ⟨_, hv', h4, hx3.keep (fun d hd => hS d (by rcases hd with h | h <;> omega)) (newTo_ext _ _ _), hT.blk hX3 (by show ¬ _ = _; rw [hbx]; omega), (newTo_same _ _ _ _ hX3.lt).trans hbx, (newTo_ext own w.heap.size 0).trans (newTo_ext _ _ _) hB.size, (Tch.below hB).trans hT (fun _ _ h => h) (fun k hk e => ?_)⟩
  rw [newTo_same _ _ _ _ hk] at e
  omega
/-- An object of the replica has taken an effect. -/
theorem DlAt.took {w wr w2 : World} {own own' : Clr} {c p : Nat} {R : Rp} {cg cc hp : Nat} {mb : Nat} {hv ev : Value} {hs : List Bm} {es : List Em} {x : Bm} {vs : List Value} {k : Nat} {o' : Ob} {e : Ending} (hc0 : 0 < c) (h : DlAt w wr own own' c p R cg cc hp (.map (some mb)) hv ev hs es x)
    (hm : OmAt wr mb vs) (hmo : own' mb = c) (hl : vs.length = 8) (hlo : R.obs.length = 8) (hk : k < vs.length) (hob : ∀ j (h1 : j < vs.length) (h2 : j < R.obs.length), ObAt wr own' (c + 1 + j) vs[j] R.obs[j]) (ht : TakeOk own' (c + 1 + k) vs[k] o' wr e w2) :
    ∃ own'', DlAt w w2 own own'' c p { R with obs := R.obs.set k o' } cg cc hp (.map (some mb)) hv ev hs es x := by
  obtain ⟨_, own'', he, ho, hT⟩ := ht
  have hS : ∀ d, d ≠ c + 1 + k → Same own' d wr w2 := fun d hd => hT.same (fun j e e2 => hd (e.symm.trans e2))
  have hr := h.rp
  refine ⟨own'', ⟨(hS c (by omega) p hr.blk.lt hr.own1).trans hr.blk, (hS c (by omega) cg hr.clk.lt hr.own2).trans hr.clk, (he p hr.blk.lt).trans hr.own1, (he cg hr.clk.lt).trans hr.own2, Or.inr ⟨mb, vs, rfl, (he mb hm.lt).trans hmo, hm.same (hS c (by omega) mb hm.lt hmo), hl, by simpa using hlo, fun j h1 h2 => ?_⟩, hr.held.keep (hS 0 (by omega)) (hS _ (by omega)) he, hr.heldB, hr.effs.keep (hS 0 (by omega)) (hS _ (by omega)) he, hr.effsE⟩, h.bat.keep (fun d hd => hS d (by rcases hd with h | h <;> omega)) he, hT.blk h.box (by show ¬ _ = _; rw [h.boxc]; omega), (he _ h.box.lt).trans h.boxc, h.ext.trans he h.tch.size, h.tch.trans hT (fun _ _ h => h) (fun j hj e => ?_)⟩
  · simp only [List.length_set] at h2
    by_cases hjk : j = k
    · subst hjk
      simp only [List.getElem_set_self]
      exact ho
    · rw [List.getElem_set_ne (fun e => hjk e.symm)]
      exact (hob j h1 h2).keep (hS _ (by omega)) he
  · rw [h.ext j hj] at e
    omega
/-- One effect on its object. -/
def stepOb (obs : List Ob) (s : Stp) (e : Wv.Ef) : List Ob := match obs[e.ob.toNat]? with | none => obs | some o => obs.set e.ob.toNat (o.take s e)
/-- The first k effects of a batch. -/
def obsTo (b : Wv.Bt) (obs : List Ob) : Nat → List Ob
  | 0 => obs
  | k + 1 => match b.effs[k]? with | none => obsTo b obs k | some e => stepOb (obsTo b obs k) (stampB b k) e
theorem stepOb_len (obs : List Ob) (s : Stp) (e : Wv.Ef) : (stepOb obs s e).length = obs.length := by
  unfold stepOb; split <;> simp
theorem obsTo_len (b : Wv.Bt) (obs : List Ob) (k : Nat) : (obsTo b obs k).length = obs.length := by
  induction k with
  | zero => rfl
  | succ k ih => unfold obsTo; split; exact ih; rw [stepOb_len]; exact ih
/-- It came of at most n effects. -/
def Ob.bound (n : Nat) : Ob → Prop
  | .counter v => -1000 * (n : Int) ≤ v ∧ v ≤ 1000 * (n : Int)
  | .list ls => ls.length ≤ n
  | _ => True
theorem Ob.bound_small {n : Nat} {o : Ob} (h : o.bound n) (hn : n ≤ 100000) : o.small := by
  cases o with
  | counter v => obtain ⟨h1, h2⟩ := h; exact ⟨by omega, by omega⟩
  | list ls => show ls.length ≤ 1000000; have : ls.length ≤ n := h; omega
  | set m => trivial
  | reg m => trivial
theorem takeL_len (ls : List El) (s : Stp) (e : Wv.Ef) : (takeL ls s e).length ≤ ls.length + 1 := by
  unfold takeL
  split
  · unfold putL; rw [insL_len _ _ _ (placeL_le _ _ _)]; omega
  · split <;> simp
theorem Ob.bound_take {n : Nat} {o : Ob} (s : Stp) (e : Wv.Ef) (h : o.bound n) (h1 : -1000 ≤ e.va) (h2 : e.va ≤ 1000) : (o.take s e).bound (n + 1) := by
  cases o with
  | counter v => obtain ⟨a, b⟩ := h; exact ⟨by show _ ≤ v + e.va; omega, by show v + e.va ≤ _; omega⟩
  | list ls => show (takeL ls s e).length ≤ n + 1; have := takeL_len ls s e; have : ls.length ≤ n := h; omega
  | set m => trivial
  | reg m => trivial
theorem Ob.bound_mono {n m : Nat} {o : Ob} (h : o.bound n) (hm : n ≤ m) : o.bound m := by
  cases o with
  | counter v => obtain ⟨a, b⟩ := h; exact ⟨by omega, by omega⟩
  | list ls => exact Nat.le_trans h hm
  | set m => trivial
  | reg m => trivial
theorem bound_step {n : Nat} {obs : List Ob} (s : Stp) (e : Wv.Ef) (h : ∀ o ∈ obs, o.bound n) (h1 : -1000 ≤ e.va) (h2 : e.va ≤ 1000) : ∀ o ∈ stepOb obs s e, o.bound (n + 1) := by
  intro o ho
  unfold stepOb at ho
  split at ho
  · exact Ob.bound_mono (h o ho) (by omega)
  · rename_i o1 hq
    rcases List.mem_or_eq_of_mem_set ho with ho | ho
    · exact Ob.bound_mono (h o ho) (by omega)
    · rw [ho]; exact Ob.bound_take s e (h o1 (List.mem_of_getElem? hq)) h1 h2

end Go.Proofs.YtfmcngncaffloaaGreatDoor
