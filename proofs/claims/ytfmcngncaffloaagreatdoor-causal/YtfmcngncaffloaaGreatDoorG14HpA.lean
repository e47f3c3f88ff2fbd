import Derived.Test.YtfmcngncaffloaaGreatDoorG13ObjY
import Derived.Laws.Externs
import Derived.Laws.Cover3
namespace Go.Proofs.YtfmcngncaffloaaGreatDoor
open Go.RowKit
set_option maxRecDepth 100000

theorem run_clone_map (w : World) (b : Nat) (es : Array MapEntry) (clock : Nat) (h : w.heap[b]? = some (.map es clock)) :
    (callFunc 264 #[.iface 185 (.map (some b))]).run Tryz.prog w = .ok (.value (.iface 185 (.map (some w.heap.size)))) (w.alloc (.map es clock)) := by
  rw [run_callFunc_extern Tryz.func264 (by kernel_rfl) (by kernel_rfl) (by kernel_rfl) (e := Extern.MapsClone.clone) (by kernel_rfl)]
  have h2 : (Extern.MapsClone.clone #[.iface 185 (.map (some b))]).run Tryz.prog w = .ok (.iface 185 (.map (some w.heap.size))) (w.alloc (.map es clock)) := by
    change Sem.run Tryz.prog (α := Value) (do
      let .map entries clock ← getObj b | stuck "maps.clone: a map expected"
      pure (.iface 185 (.map (some (← newObj (.map entries clock)))))) w = _
    simp only [Sem.run_bind, MapKept.run_getObj_map h, Result.andThen_ok]
    simp [newObj, Sem.run]
  rw [h2]
  rfl
theorem run_eql_map (w : World) (b : Nat) : (binOp .eql 185 (.map (some b)) (.map none)).run Tryz.prog w = .ok (.bool false) w := by
  have h := run_equal_map_nil w 185 _ _ (some b) Tryz.underlying185
  simp only [binOp, Sem.run_bind, h]
  simp
theorem run_assert_live (w : World) (xT : TypeId) (v : Value) : (Instr.typeAssert (.iface 185 v) xT 185 false).run Tryz.prog w = .ok v w := by
  simp [Instr.typeAssert, run_underlying Tryz.underlying185, go_sem, Result.andThen]
set_option maxHeartbeats 800000 in
theorem mclone_any (b : Nat) (l : Lv) (w : World) (h : MpAt w b l) :
    Calls Tryz.prog 257 #[.map (some b)] w fun e w' => e = .returned (.map (some w.heap.size)) ∧ MpAt w' w.heap.size l ∧ Below w.heap.size w w' := by
  obtain ⟨es, clock, hb, he⟩ := h
  have hcl := run_clone_map w b es clock hb
  have hnil := run_eql_map w b
  have has := fun xT v => run_assert_live (w.alloc (.map es clock)) xT v
  have HE : Hid (MpAt (w.alloc (.map es clock)) w.heap.size l) := ⟨es, clock, (MapKept.heap_alloc w _).1, he⟩
  clear he hb
  go_enter Tryz.func257, Tryz.ntmps257
  go_wp2_with (simp only [hcl])
  go_ret
  exact ⟨rfl, HE.out, (Below.refl _ _).alloc (Nat.le_refl _) _⟩
set_option maxHeartbeats 800000 in
theorem lvcopy_any (b : Nat) (l : Lv) (w : World) (h : MpAt w b l) :
    Calls Tryz.prog 250 #[.map (some b)] w fun e w' => e = .returned (.map (some w.heap.size)) ∧ MpAt w' w.heap.size l ∧ Below w.heap.size w w' := by
  go_enter Tryz.func250, Tryz.ntmps250
  go_wp2_with fail
  refine (mclone_any b l w h).mono ?_
  rintro e w1 ⟨rfl, hm, hb⟩
  have HE : Hid (MpAt w1 w.heap.size l) := hm
  have HB : Hid (Below w.heap.size w w1) := hb
  clear hm hb h
  go_wp2
  go_ret
  exact ⟨rfl, HE.out, HB.out⟩
set_option maxHeartbeats 800000 in
theorem scopy_any (p b : Nat) (l : Lv) (w : World) (h : Blk w p #[.map (some b)] 187) (hm : MpAt w b l) :
    Calls Tryz.prog 246 #[.pointer (some ⟨p, 0, none⟩)] w fun e w' => (∃ q b', e = .returned (.iface 183 (.pointer (some ⟨q, 0, none⟩))) ∧ w.heap.size ≤ q ∧ w.heap.size ≤ b' ∧ Blk w' q #[.map (some b')] 187 ∧ MpAt w' b' l) ∧ Below w.heap.size w w' := by
  have c0 : w.cell? ⟨p, 0, none⟩ = some (.map (some b)) := h.cell 0
  have HM : Hid (MpAt w b l) := hm
  clear h hm
  go_enter Tryz.func246, Tryz.ntmps246
  go_wp2_with fail
  refine (lvcopy_any b l w HM.out).mono ?_
  rintro e w1 ⟨rfl, hm1, hb1⟩
  have hs1 := hb1.size
  have HE : Hid (MpAt (w1.alloc (.cells #[.map (some w.heap.size)] 187)) w.heap.size l) := hm1.below ((Below.refl _ _).alloc (Nat.le_refl _) _)
  have HK : Hid (Blk (w1.alloc (.cells #[.map (some w.heap.size)] 187)) w1.heap.size #[.map (some w.heap.size)] 187) := heap_alloc_new w1 _
  have HB : Hid (Below w.heap.size w (w1.alloc (.cells #[.map (some w.heap.size)] 187))) := hb1.alloc hs1 _
  have HS : Hid (w.heap.size ≤ w1.heap.size) := hs1
  clear hm1 hb1 hs1
  go_wp2
  go_ret
  exact ⟨⟨_, _, rfl, HS.out, Nat.le_refl _, HK.out, HE.out⟩, HB.out⟩
set_option maxHeartbeats 800000 in
theorem rcopy_any (p b : Nat) (l : Lv) (w : World) (h : Blk w p #[.map (some b)] 189) (hm : MpAt w b l) :
    Calls Tryz.prog 304 #[.pointer (some ⟨p, 0, none⟩)] w fun e w' => (∃ q b', e = .returned (.iface 188 (.pointer (some ⟨q, 0, none⟩))) ∧ w.heap.size ≤ q ∧ w.heap.size ≤ b' ∧ Blk w' q #[.map (some b')] 189 ∧ MpAt w' b' l) ∧ Below w.heap.size w w' := by
  have c0 : w.cell? ⟨p, 0, none⟩ = some (.map (some b)) := h.cell 0
  have HM : Hid (MpAt w b l) := hm
  clear h hm
  go_enter Tryz.func304, Tryz.ntmps304
  go_wp2_with fail
  refine (lvcopy_any b l w HM.out).mono ?_
  rintro e w1 ⟨rfl, hm1, hb1⟩
  have hs1 := hb1.size
  have HE : Hid (MpAt (w1.alloc (.cells #[.map (some w.heap.size)] 189)) w.heap.size l) := hm1.below ((Below.refl _ _).alloc (Nat.le_refl _) _)
  have HK : Hid (Blk (w1.alloc (.cells #[.map (some w.heap.size)] 189)) w1.heap.size #[.map (some w.heap.size)] 189) := heap_alloc_new w1 _
  have HB : Hid (Below w.heap.size w (w1.alloc (.cells #[.map (some w.heap.size)] 189))) := hb1.alloc hs1 _
  have HS : Hid (w.heap.size ≤ w1.heap.size) := hs1
  clear hm1 hb1 hs1
  go_wp2
  go_ret
  exact ⟨⟨_, _, rfl, HS.out, Nat.le_refl _, HK.out, HE.out⟩, HB.out⟩

end Go.Proofs.YtfmcngncaffloaaGreatDoor

namespace Go.Proofs.YtfmcngncaffloaaGreatDoor
open Go.RowKit
set_option maxRecDepth 100000

/-- Whose a block is: 0: nobody's, it is never written again. -/
abbrev Clr := Nat → Nat
/-- As far as n nothing has changed hands. -/
def Ext (own own' : Clr) (n : Nat) : Prop := ∀ b, b < n → own' b = own b
theorem Ext.refl (own : Clr) (n : Nat) : Ext own own n := fun _ _ => rfl
theorem Ext.trans {a b c : Clr} {n m : Nat} (h : Ext a b n) (h2 : Ext b c m) (hm : n ≤ m) : Ext a c n := fun k hk => (h2 k (by omega)).trans (h k hk)
theorem Ext.mono {a b : Clr} {n m : Nat} (h : Ext a b m) (hm : n ≤ m) : Ext a b n := fun k hk => h k (by omega)
/-- What is new is c's. -/
def newTo (own : Clr) (n c : Nat) : Clr := fun b => if b < n then own b else c
theorem newTo_ext (own : Clr) (n c : Nat) : Ext own (newTo own n c) n := fun b hb => by unfold newTo; rw [if_pos hb]
theorem newTo_new (own : Clr) (n c b : Nat) (h : n ≤ b) : newTo own n c b = c := by unfold newTo; rw [if_neg (by omega)]
theorem newTo_same (own : Clr) (n c b : Nat) (h : b < n) : newTo own n c b = own b := by unfold newTo; rw [if_pos h]
/-- Nothing is written but what is c's. -/
abbrev TchC (own : Clr) (c : Nat) (w w' : World) : Prop := Tch (fun k => own k = c) w w'
theorem TchC.next {own own' : Clr} {c : Nat} {w w1 w2 : World} (h : TchC own c w w1) (he : Ext own own' w.heap.size) (h2 : TchC own' c w1 w2) : TchC own c w w2 :=
  h.trans h2 (fun _ _ h => h) (fun k hk h => by rw [← he k hk]; exact h)

/-- What an object comes to be, by its kind. -/
inductive Ob where
  | counter (n : Int)
  | set (m : Lv)
  | reg (m : Lv)
  | list (ls : List El)
def Ob.take : Ob → Stp → Wv.Ef → Ob
  | .counter n, _, e => .counter (n + e.va)
  | .set m, s, e => .set (takeS m s e)
  | .reg m, s, e => .reg (takeR m s e)
  | .list ls, s, e => .list (takeL ls s e)
/-- It is small enough to take one more effect. -/
def Ob.small : Ob → Prop
  | .counter n => -1000000000 ≤ n ∧ n ≤ 1000000000
  | .list ls => ls.length ≤ 1000000
  | _ => True
/-- An object in memory, in blocks of c's alone. -/
def ObAt (w : World) (own : Clr) (c : Nat) (v : Value) : Ob → Prop
  | .counter n => ∃ p, v = .iface 180 (.pointer (some ⟨p, 0, none⟩)) ∧ own p = c ∧ Blk w p #[I n] 182
  | .set m => ∃ p b, v = .iface 183 (.pointer (some ⟨p, 0, none⟩)) ∧ own p = c ∧ own b = c ∧ Blk w p #[.map (some b)] 187 ∧ MpAt w b m
  | .reg m => ∃ p b, v = .iface 188 (.pointer (some ⟨p, 0, none⟩)) ∧ own p = c ∧ own b = c ∧ Blk w p #[.map (some b)] 189 ∧ MpAt w b m
  | .list ls => ∃ p sv, v = .iface 190 (.pointer (some ⟨p, 0, none⟩)) ∧ own p = c ∧ (∀ g, sv.ownBlock = some g → own g = c) ∧ LsOwn w p 0 sv ls
/-- The blocks of c's are as they were. -/
def Same (own : Clr) (c : Nat) (w w' : World) : Prop := ∀ b, b < w.heap.size → own b = c → w'.heap[b]? = w.heap[b]?
theorem Tch.same {F : Nat → Prop} {own : Clr} {c : Nat} {w w' : World} (h : Tch F w w') (hc : ∀ k, own k = c → ¬ F k) : Same own c w w' := fun b hb ho => h.block b hb (hc b ho)
theorem ObAt.keep {w w' : World} {own own' : Clr} {c : Nat} {v : Value} {o : Ob} (h : ObAt w own c v o) (hs : Same own c w w') (he : Ext own own' w.heap.size) : ObAt w' own' c v o := by
  cases o with
  | counter n =>
    obtain ⟨p, e, hp, hb⟩ := h
    exact ⟨p, e, (he p hb.lt).trans hp, (hs p hb.lt hp).trans hb⟩
  | set m =>
    obtain ⟨p, b, e, hp, hb, h1, h2⟩ := h
    exact ⟨p, b, e, (he p h1.lt).trans hp, (he b h2.lt).trans hb, (hs p h1.lt hp).trans h1, h2.same (hs b h2.lt hb)⟩
  | reg m =>
    obtain ⟨p, b, e, hp, hb, h1, h2⟩ := h
    exact ⟨p, b, e, (he p h1.lt).trans hp, (he b h2.lt).trans hb, (hs p h1.lt hp).trans h1, h2.same (hs b h2.lt hb)⟩
  | list ls =>
    obtain ⟨p, sv, e, hp, hg, h1⟩ := h
    have hlt : ∀ g, sv.ownBlock = some g → g < w.heap.size := fun g hgs => (h1.row.lt g hgs).2
    exact ⟨p, sv, e, (he p h1.blk.lt).trans hp, fun g hgs => (he g (hlt g hgs)).trans (hg g hgs), ⟨(hs p h1.blk.lt hp).trans h1.blk, own_kept h1.row (fun g hgs => hs g (hlt g hgs) (hg g hgs)), h1.le⟩⟩
/-- What Take leaves. -/
def TakeOk (own : Clr) (c : Nat) (v : Value) (o : Ob) (w : World) (e : Ending) (w' : World) : Prop := e = .returned (.tuple #[]) ∧ ∃ own', Ext own own' w.heap.size ∧ ObAt w' own' c v o ∧ TchC own c w w'
theorem take_counter {w : World} {own : Clr} {c p : Nat} {n : Int} (s : Stp) (m : Em) (h : ObAt w own c (.iface 180 (.pointer (some ⟨p, 0, none⟩))) (.counter n)) (hs : (Ob.counter n).small) (h1 : -1000 ≤ m.e.va) (h2 : m.e.va ≤ 1000) :
    Calls Tryz.prog 244 #[.pointer (some ⟨p, 0, none⟩), stV s, effV m] w fun e w' => TakeOk own c (.iface 180 (.pointer (some ⟨p, 0, none⟩))) ((Ob.counter n).take s m.e) w e w' := by
  obtain ⟨q, e, hp, hb⟩ := h
  cases e
  obtain ⟨hs1, hs2⟩ := hs
  refine (ctake_any p n s m w hb (by omega) (by omega)).mono ?_
  rintro e w' ⟨rfl, hb', hg⟩
  exact ⟨rfl, newTo own w.heap.size c, newTo_ext _ _ _, ⟨p, rfl, (newTo_same _ _ _ _ hb.lt).trans hp, hb'⟩, (Tch.grown hg).mono (fun k _ h => by cases h; exact hp)⟩
theorem take_set {w : World} {own : Clr} {c p : Nat} {l : Lv} (s : Stp) (m : Em) (h : ObAt w own c (.iface 183 (.pointer (some ⟨p, 0, none⟩))) (.set l)) (hd : At w m.da (flat dotCells m.e.dots)) (hl : m.e.dots.length ≤ 1048576) :
    Calls Tryz.prog 248 #[.pointer (some ⟨p, 0, none⟩), stV s, effV m] w fun e w' => TakeOk own c (.iface 183 (.pointer (some ⟨p, 0, none⟩))) ((Ob.set l).take s m.e) w e w' := by
  obtain ⟨q, b, e, hp, hob, hb, hm⟩ := h
  cases e
  refine (stake_any p b l s m w hb hm hd hl).mono ?_
  rintro e w' ⟨rfl, hm', hT⟩
  have hpb : p ≠ b := by
    rintro rfl
    obtain ⟨es, clock, hb2, _⟩ := hm
    cases hb.symm.trans hb2
  exact ⟨rfl, newTo own w.heap.size c, newTo_ext _ _ _, ⟨p, b, rfl, (newTo_same _ _ _ _ hb.lt).trans hp, (newTo_same _ _ _ _ hm.lt).trans hob, hT.blk hb hpb, hm'⟩, hT.mono (fun k _ h => by rw [h]; exact hob)⟩
theorem take_reg {w : World} {own : Clr} {c p : Nat} {l : Lv} (s : Stp) (m : Em) (h : ObAt w own c (.iface 188 (.pointer (some ⟨p, 0, none⟩))) (.reg l)) (hd : At w m.da (flat dotCells m.e.dots)) (hl : m.e.dots.length ≤ 1048576) :
    Calls Tryz.prog 306 #[.pointer (some ⟨p, 0, none⟩), stV s, effV m] w fun e w' => TakeOk own c (.iface 188 (.pointer (some ⟨p, 0, none⟩))) ((Ob.reg l).take s m.e) w e w' := by
  obtain ⟨q, b, e, hp, hob, hb, hm⟩ := h
  cases e
  refine (rtake_any p b l s m w hb hm hd hl).mono ?_
  rintro e w' ⟨rfl, hm', hT⟩
  have hpb : p ≠ b := by
    rintro rfl
    obtain ⟨es, clock, hb2, _⟩ := hm
    cases hb.symm.trans hb2
  exact ⟨rfl, newTo own w.heap.size c, newTo_ext _ _ _, ⟨p, b, rfl, (newTo_same _ _ _ _ hb.lt).trans hp, (newTo_same _ _ _ _ hm.lt).trans hob, hT.blk hb hpb, hm'⟩, hT.mono (fun k _ h => by rw [h]; exact hob)⟩
theorem take_list {w : World} {own : Clr} {c p : Nat} {ls : List El} (s : Stp) (m : Em) (h : ObAt w own c (.iface 190 (.pointer (some ⟨p, 0, none⟩))) (.list ls)) (hs : (Ob.list ls).small) :
    Calls Tryz.prog 310 #[.pointer (some ⟨p, 0, none⟩), stV s, effV m] w fun e w' => TakeOk own c (.iface 190 (.pointer (some ⟨p, 0, none⟩))) ((Ob.list ls).take s m.e) w e w' := by
  obtain ⟨q, sv, e, hp, hg, hL⟩ := h
  cases e
  have hs' : ls.length ≤ 1000000 := hs
  refine (ltake_any p 0 sv s m ls w (Nat.zero_le _) hL (by omega)).mono ?_
  rintro e w' ⟨sv', rfl, hL', hT, hA⟩
  have hlt : ∀ g, sv.ownBlock = some g → g < w.heap.size := fun g hgs => (hL.row.lt g hgs).2
  refine ⟨rfl, newTo own w.heap.size c, newTo_ext _ _ _, ⟨p, sv', rfl, (newTo_same _ _ _ _ hL.blk.lt).trans hp, fun g hgs => ?_, hL'⟩, hT.mono (fun k _ h => ?_)⟩
  · rcases hA with h | ⟨b, h, hb⟩
    · rw [hgs] at h
      exact (newTo_same _ _ _ _ (hlt g h.symm)).trans (hg g h.symm)
    · rw [hgs] at h
      cases h
      exact newTo_new _ _ _ _ hb
  · rcases h with rfl | h
    · exact hp
    · exact hg k h

end Go.Proofs.YtfmcngncaffloaaGreatDoor

namespace Go.Proofs.YtfmcngncaffloaaGreatDoor
open Go.RowKit
set_option maxRecDepth 100000

/-- A batch in memory: what it is, and where its lists lie. -/
structure Bm where
  b : Wv.Bt
  ca : Option Addr
  ea : Option Addr
  cc : Nat
  ec : Nat
  ms : List Em
def Bm.cells (m : Bm) : List Value := [I m.b.o, I m.b.s, I m.b.t, .slice m.ca m.b.clock.length m.cc, .slice m.ea m.b.effs.length m.ec]
theorem bmCells_len (m : Bm) : m.cells.length = 5 := rfl
abbrev bmV (m : Bm) : Value := bV m.b m.ca m.ea m.cc m.ec
theorem bm_one (ls : List Bm) : ∀ u ∈ flat Bm.cells ls, u.oneCell' = true := by
  induction ls with
  | nil => intro u hu; simp [flat] at hu
  | cons m ls ih =>
    intro u hu
    simp only [flat, Bm.cells, List.mem_append, List.mem_cons, List.mem_nil_iff, or_false] at hu
    rcases hu with (rfl | rfl | rfl | rfl | rfl) | hu
    · rfl
    · rfl
    · rfl
    · rfl
    · rfl
    · exact ih u hu
/-- These cells stand there, in a block that is never written again. -/
def At0 (w : World) (own : Clr) (a : Option Addr) (cs : List Value) : Prop := ∀ j u, cs[j]? = some u → ∃ b o, a = some ⟨b, o, none⟩ ∧ own b = 0 ∧ w.cell? ⟨b, o + j, none⟩ = some u
theorem At0.at {w : World} {own : Clr} {a : Option Addr} {cs : List Value} (h : At0 w own a cs) : At w a cs := fun j u hj => by
  obtain ⟨b, o, e, _, hc⟩ := h j u hj
  exact ⟨b, o, e, hc⟩
theorem At0.keep {w w' : World} {own own' : Clr} {a : Option Addr} {cs : List Value} (h : At0 w own a cs) (hs : Same own 0 w w') (he : Ext own own' w.heap.size) : At0 w' own' a cs := fun j u hj => by
  obtain ⟨b, o, e, h0, hc⟩ := h j u hj
  exact ⟨b, o, e, (he b (lt_of_cell hc)).trans h0, cell_same hc (hs b (lt_of_cell hc) h0)⟩
/-- A batch in memory that is never written again. -/
structure BatIn (w : World) (own : Clr) (m : Bm) : Prop where
  clock : At0 w own m.ca (m.b.clock.map I)
  effs : m.b.effs = m.ms.map (·.e)
  cells : At0 w own m.ea (flat Em.cells m.ms)
  dots : ∀ x ∈ m.ms, At0 w own x.da (flat dotCells x.e.dots)
theorem BatIn.at {w : World} {own : Clr} {m : Bm} (h : BatIn w own m) : BatAt w m.b m.ca m.ea m.ms := ⟨h.clock.at, h.effs, h.cells.at, fun x hx => (h.dots x hx).at⟩
theorem BatIn.keep {w w' : World} {own own' : Clr} {m : Bm} (h : BatIn w own m) (hs : Same own 0 w w') (he : Ext own own' w.heap.size) : BatIn w' own' m :=
  ⟨h.clock.keep hs he, h.effs, h.cells.keep hs he, fun x hx => (h.dots x hx).keep hs he⟩

/-- Which of two goes ahead: by the Time, then the Origin, then the Seq. -/
def earlierB (a b : Wv.Bt) : Bool := decide (orI (cmpI a.t b.t) (cmpI a.o b.o) (cmpI a.s b.s) < 0)
set_option maxHeartbeats 3200000 in
theorem earlier_any (x y : Bm) (w : World) :
    Calls Tryz.prog 62 #[bmV x, bmV y] w fun e w' => e = .returned (.bool (earlierB x.b y.b)) ∧ Below w.heap.size w w' := by
  obtain ⟨a, ca, ea, cc, ec, ms⟩ := x
  obtain ⟨b, da, fa, dc, fc, ns⟩ := y
  have k0 : Hid (((((w.alloc (.cells #[I a.o, I a.s, I a.t, .slice ca a.clock.length cc, .slice ea a.effs.length ec] 124)).alloc (.cells #[I b.o, I b.s, I b.t, .slice da b.clock.length dc, .slice fa b.effs.length fc] 124)).alloc (.cells #[I (cmpI a.t b.t), I (cmpI a.o b.o), I (cmpI a.s b.s)] 3)).drew).cell? ⟨w.heap.size + 1 + 1, 0, none⟩ = some (I (cmpI a.t b.t))) := new_at _ _ _ _ _ (by simp)
  have k1 : Hid (((((w.alloc (.cells #[I a.o, I a.s, I a.t, .slice ca a.clock.length cc, .slice ea a.effs.length ec] 124)).alloc (.cells #[I b.o, I b.s, I b.t, .slice da b.clock.length dc, .slice fa b.effs.length fc] 124)).alloc (.cells #[I (cmpI a.t b.t), I (cmpI a.o b.o), I (cmpI a.s b.s)] 3)).drew).cell? ⟨w.heap.size + 1 + 1, 1, none⟩ = some (I (cmpI a.o b.o))) := new_at _ _ _ _ _ (by simp)
  have k2 : Hid (((((w.alloc (.cells #[I a.o, I a.s, I a.t, .slice ca a.clock.length cc, .slice ea a.effs.length ec] 124)).alloc (.cells #[I b.o, I b.s, I b.t, .slice da b.clock.length dc, .slice fa b.effs.length fc] 124)).alloc (.cells #[I (cmpI a.t b.t), I (cmpI a.o b.o), I (cmpI a.s b.s)] 3)).drew).cell? ⟨w.heap.size + 1 + 1, 2, none⟩ = some (I (cmpI a.s b.s))) := new_at _ _ _ _ _ (by simp)
  go_enter Tryz.func62, Tryz.ntmps62
  go_wp2_with fail
  go_region_held3 (fun w' => w'.cell? ⟨w.heap.size, 0, none⟩ = some (I a.o) ∧ w'.cell? ⟨w.heap.size, 1, none⟩ = some (I a.s) ∧ w'.cell? ⟨w.heap.size, 2, none⟩ = some (I a.t) ∧ w'.cell? ⟨w.heap.size + 1, 0, none⟩ = some (I b.o) ∧ w'.cell? ⟨w.heap.size + 1, 1, none⟩ = some (I b.s) ∧ w'.cell? ⟨w.heap.size + 1, 2, none⟩ = some (I b.t)) (go_keep)
    (first | (go_at_call 113; refine (compare_any _ _ _).mono ?_; rintro e w' ⟨rfl, h⟩; subst h) | (go_at_call 112; refine (or_any (cmpI a.t b.t) (cmpI a.o b.o) (cmpI a.s b.s) _ _ ?_ ?_ ?_).mono ?_; exact k0.out; exact k1.out; exact k2.out; rintro e w' ⟨rfl, h⟩; subst h))
  go_wp2
  go_ret
  exact ⟨rfl, (((((Below.refl _ _).alloc (Nat.le_refl _) _).alloc (by simp) _)).alloc (by simp; omega) _).drew⟩

end Go.Proofs.YtfmcngncaffloaaGreatDoor
