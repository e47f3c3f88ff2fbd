import Derived.Test.YtfmcngncaffloaaGreatDoorG12HpG
import Derived.Test.YtfmcngncaffloaaGreatDoorG05PoA
import Derived.Test.YtfmcngncaffloaaGreatDoorG11HpA
import Derived.Deep.AppendLies
import Derived.BigRegion
import Derived.ArgAppend
namespace Go.Proofs.YtfmcngncaffloaaGreatDoor
open Go.RowKit
set_option maxRecDepth 100000

set_option maxHeartbeats 1600000 in
theorem hpop_one (hp g cap : Nat) (x : Bm) (w : World) (h : HpIn w hp (.slice (some ⟨g, 0, none⟩) 1 cap) [x]) :
    Calls Tryz.prog 161 #[.pointer (some ⟨hp, 0, none⟩)] w fun e w' => e = .returned (.tuple #[bmV x, .bool true]) ∧ PopOk w hp g cap [] w' := by
  have HP : Hid (HpIn (twoZ w) hp (.slice (some ⟨g, 0, none⟩) 1 cap) [x]) := h.kept (twoZ_below w)
  have c0 : (twoZ w).cell? ⟨hp, 0, none⟩ = some (.slice (some ⟨g, 0, none⟩) 1 cap) := HP.out.blk.cell 0
  obtain ⟨a0, a1, a2, a3, a4⟩ := bats_at HP.out.row 0 (by simp)
  simp only [List.getElem_cons_zero, Nat.zero_mul, Nat.zero_add] at a0 a1 a2 a3 a4
  obtain ⟨wC, hwC⟩ : ∃ wC, wC = (twoZ w).alloc (.cells (bmC x) 124) := ⟨_, rfl⟩
  have HBC : Hid (Below w.heap.size w wC) := by rw [hwC]; exact (twoZ_below w).alloc (twoZ_below w).size _
  have HPC : Hid (HpIn wC hp (.slice (some ⟨g, 0, none⟩) 1 cap) [x]) := h.kept HBC.out
  have HR : Hid (Blk wC w.heap.size #[.int .i64 0, .int .i64 0, .int .i64 0, .slice none 0 0, .slice none 0 0] 124) := by rw [hwC]; exact (Blk.alloc (heap_alloc_new w _) _).alloc _
  have HN : Hid (Blk wC (w.heap.size + 1) #[.int .i64 0, .int .i64 0, .int .i64 0, .slice none 0 0, .slice none 0 0] 124) := by rw [hwC]; exact (Blk.second w _ _ _).alloc _
  have HX : Hid (Blk wC (w.heap.size + 1 + 1) (bmC x) 124) := by
    have e : (twoZ w).heap.size = w.heap.size + 1 + 1 := by simp
    rw [hwC, ← e]
    exact heap_alloc_new (twoZ w) _
  have hgw : g < w.heap.size := (h.row.lt g rfl).2
  have hpw : hp < w.heap.size := h.blk.lt
  have hcap : 1 ≤ cap := by
    rcases h.row.2 with ⟨e1, _⟩ | ⟨g', cap', cur, e1, _, _, h3, _⟩
    · cases e1
    · cases e1; exact h3
  clear h HP
  go_enter Tryz.func161, Tryz.ntmps161
  go_wp2_with fail
  change Code.wp _ _ _ _ ((twoZ w).alloc (.cells (bmC x) 124))
  rw [← hwC]
  clear hwC c0 a0 a1 a2 a3 a4
  have c0 : wC.cell? ⟨hp, 0, none⟩ = some (.slice (some ⟨g, 0, none⟩) 1 cap) := HPC.out.blk.cell 0
  obtain ⟨a0, a1, a2, a3, a4⟩ := bats_at HPC.out.row 0 (by simp)
  simp only [List.getElem_cons_zero, Nat.zero_mul, Nat.zero_add] at a0 a1 a2 a3 a4
  have n0 : wC.cell? ⟨w.heap.size + 1, 0, none⟩ = some (.int .i64 0) := HN.out.cell 0
  have n1 : wC.cell? ⟨w.heap.size + 1, 1, none⟩ = some (.int .i64 0) := HN.out.cell 1
  have n2 : wC.cell? ⟨w.heap.size + 1, 2, none⟩ = some (.int .i64 0) := HN.out.cell 2
  have n3 : wC.cell? ⟨w.heap.size + 1, 3, none⟩ = some (.slice none 0 0) := HN.out.cell 3
  have n4 : wC.cell? ⟨w.heap.size + 1, 4, none⟩ = some (.slice none 0 0) := HN.out.cell 4
  have HF : Hid (∀ k, wC.frozen? ⟨g, k, none⟩ = false) := fun k => own_free HPC.out.row k
  have f0 := HF.out 0
  have f1 := HF.out 1
  have f2 := HF.out 2
  have f3 := HF.out 3
  have f4 := HF.out 4
  go_region
  obtain ⟨wD, hwD⟩ : ∃ wD, wD = (put5b (put5b wC g 0 x) g 0 bmZ).drew := ⟨_, rfl⟩
  change Exit.then _ _ Exit.normal _ (put5b (put5b wC g 0 x) g 0 bmZ).drew
  have HPO : Hid (PopOk w hp g cap (([] : List Bm)) (wD.setCell ⟨hp, 0, none⟩ (.slice (some ⟨g, 0, none⟩) 0 cap))) := by
    show PopOk _ _ _ _ _ _
    rw [hwD]
    exact pop_end (bs := [x]) (k := 0) x HBC.out HPC.out (by simp) _ rfl
  have HTD : Hid (Tch (fun j => j = g) wC wD) := by
    show Tch _ _ _
    rw [hwD]
    exact ((put5b_grown wC g 0 x).then (put5b_grown _ g 0 bmZ)).drew
  rw [← hwD]
  clear hwD
  have HKD : Hid (Blk wD hp #[.slice (some ⟨g, 0, none⟩) 1 cap, .func (.func 62) #[] #[]] 178) := HTD.out.blk HPC.out.blk HPC.out.ne
  have HRD : Hid (Blk wD w.heap.size #[.int .i64 0, .int .i64 0, .int .i64 0, .slice none 0 0, .slice none 0 0] 124) := HTD.out.blk HR.out (by omega)
  have HXD : Hid (Blk wD (w.heap.size + 1 + 1) (bmC x) 124) := HTD.out.blk HX.out (by omega)
  have hsz : w.heap.size + 1 + 1 < wD.heap.size := HXD.out.lt
  clear HTD HPC HR HN HX c0 a0 a1 a2 a3 a4 n0 n1 n2 n3 n4 HF f0 f1 f2 f3 f4
  have d0 : wD.cell? ⟨hp, 0, none⟩ = some (.slice (some ⟨g, 0, none⟩) 1 cap) := HKD.out.cell 0
  have z0 : wD.frozen? ⟨hp, 0, none⟩ = false := HKD.out.frozen 0
  go_wp2_with fail
  obtain ⟨wE, hwE⟩ : ∃ wE, wE = wD.setCell ⟨hp, 0, none⟩ (.slice (some ⟨g, 0, none⟩) 0 cap) := ⟨_, rfl⟩
  have HRE : Hid (Blk wE w.heap.size #[.int .i64 0, .int .i64 0, .int .i64 0, .slice none 0 0, .slice none 0 0] 124) := by rw [hwE]; exact HRD.out.other (by show w.heap.size ≠ hp; omega) _
  have HXE : Hid (Blk wE (w.heap.size + 1 + 1) (bmC x) 124) := by rw [hwE]; exact HXD.out.other (by show w.heap.size + 1 + 1 ≠ hp; omega) _
  rw [← hwE] at HPO ⊢
  clear hwE HRD HXD HKD d0 z0 hsz
  refine (hsink_none hp g cap wE HPO.out.1).mono ?_
  rintro e w3 ⟨rfl, hw3⟩
  have HP3 : Hid (HpIn w3 hp (.slice (some ⟨g, 0, none⟩) 0 cap) []) := by rw [hw3]; exact HPO.out.1
  have HT3 : Hid (Tch (fun k => k = hp ∨ k = g) w w3) := by rw [hw3]; exact HPO.out.2
  have HR3 : Hid (Blk w3 w.heap.size #[.int .i64 0, .int .i64 0, .int .i64 0, .slice none 0 0, .slice none 0 0] 124) := by rw [hw3]; exact HRE.out
  have HX3 : Hid (Blk w3 (w.heap.size + 1 + 1) (bmC x) 124) := by rw [hw3]; exact HXE.out
  clear hw3 HRE HXE HPO
  have x0 : w3.cell? ⟨w.heap.size + 1 + 1, 0, none⟩ = some (I x.b.o) := HX3.out.cell 0
  have x1 : w3.cell? ⟨w.heap.size + 1 + 1, 1, none⟩ = some (I x.b.s) := HX3.out.cell 1
  have x2 : w3.cell? ⟨w.heap.size + 1 + 1, 2, none⟩ = some (I x.b.t) := HX3.out.cell 2
  have x3 : w3.cell? ⟨w.heap.size + 1 + 1, 3, none⟩ = some (.slice x.ca x.b.clock.length x.cc) := HX3.out.cell 3
  have x4 : w3.cell? ⟨w.heap.size + 1 + 1, 4, none⟩ = some (.slice x.ea x.b.effs.length x.ec) := HX3.out.cell 4
  have r0 : w3.cell? ⟨w.heap.size, 0, none⟩ = some (.int .i64 0) := HR3.out.cell 0
  have r1 : w3.cell? ⟨w.heap.size, 1, none⟩ = some (.int .i64 0) := HR3.out.cell 1
  have r2 : w3.cell? ⟨w.heap.size, 2, none⟩ = some (.int .i64 0) := HR3.out.cell 2
  have r3 : w3.cell? ⟨w.heap.size, 3, none⟩ = some (.slice none 0 0) := HR3.out.cell 3
  have r4 : w3.cell? ⟨w.heap.size, 4, none⟩ = some (.slice none 0 0) := HR3.out.cell 4
  have z0 := HR3.out.frozen 0
  have z1 := HR3.out.frozen 1
  have z2 := HR3.out.frozen 2
  have z3 := HR3.out.frozen 3
  have z4 := HR3.out.frozen 4
  go_wp2_with fail
  change bodyPost _ _ _ Exit.ret _ (put5b w3 w.heap.size 0 x)
  have HF : Hid (Blk (put5b w3 w.heap.size 0 x) w.heap.size (bmC x) 124) := put5r_blk HR3.out x
  have HTF : Hid (Tch (fun k => k = hp ∨ k = g) w (put5b w3 w.heap.size 0 x)) := HT3.out.trans (put5b_grown w3 w.heap.size 0 x) (fun _ _ h => h) (fun k hk h => by omega)
  have HPF : Hid (HpIn (put5b w3 w.heap.size 0 x) hp (.slice (some ⟨g, 0, none⟩) 0 cap) []) := ⟨(put5b_grown w3 w.heap.size 0 x).blk HP3.out.blk (by show ¬ hp = w.heap.size; omega), own_kept HP3.out.row (fun b e => put5b_other (by rw [← (by simpa [Value.ownBlock] using e : g = b)]; omega))⟩
  clear HP3 HT3 HR3 HX3 x0 x1 x2 x3 x4 r0 r1 r2 r3 r4 z0 z1 z2 z3 z4
  generalize put5b w3 w.heap.size 0 x = wF at *
  have f0 : wF.cell? ⟨w.heap.size, 0, none⟩ = some (I x.b.o) := HF.out.cell 0
  have f1 : wF.cell? ⟨w.heap.size, 1, none⟩ = some (I x.b.s) := HF.out.cell 1
  have f2 : wF.cell? ⟨w.heap.size, 2, none⟩ = some (I x.b.t) := HF.out.cell 2
  have f3 : wF.cell? ⟨w.heap.size, 3, none⟩ = some (.slice x.ca x.b.clock.length x.cc) := HF.out.cell 3
  have f4 : wF.cell? ⟨w.heap.size, 4, none⟩ = some (.slice x.ea x.b.effs.length x.ec) := HF.out.cell 4
  refine bodyPost_ret (v := .tuple #[bmV x, .bool true]) (by simp [results, Tryz.results161, go_sem, f0, f1, f2, f3, f4]) rfl ⟨rfl, ?_⟩
  exact ⟨HPF.out, HTF.out⟩


end Go.Proofs.YtfmcngncaffloaaGreatDoor

namespace Go.Proofs.YtfmcngncaffloaaGreatDoor
open Go.RowKit
set_option maxRecDepth 100000

/-- What Pop answers, and what it leaves. -/
def PopPost (w : World) (hp : Nat) (v : Value) (r : Option (Bm × List Bm)) (bs : List Bm) (e : Ending) (w' : World) : Prop :=
  match r with
  | none => e = .returned (.tuple #[zeroB, .bool false]) ∧ HpIn w' hp v bs ∧ Below w.heap.size w w'
  | some (x, l) => e = .returned (.tuple #[bmV x, .bool true]) ∧ HpIn w' hp (match v with | .slice a _ c => .slice a l.length c | v => v) l ∧ Tch (fun k => k = hp ∨ v.ownBlock = some k) w w'
theorem hpop_any (hp : Nat) (v : Value) (bs : List Bm) (w : World) (h : HpIn w hp v bs) (hl : bs.length ≤ 1000000) :
    Calls Tryz.prog 161 #[.pointer (some ⟨hp, 0, none⟩)] w fun e w' => PopPost w hp v (popP lessM bs) bs e w' := by
  cases bs with
  | nil =>
    refine (hpop_none hp v w h).mono ?_
    rintro e w' ⟨rfl, hb⟩
    exact ⟨rfl, h.kept hb, hb⟩
  | cons x l =>
    rcases h.row.2 with ⟨_, hz⟩ | ⟨g, cap, cur, rfl, _⟩
    · simp at hz
    · have hpo : ∀ (l' : List Bm) (w' : World), PopOk w hp g cap l' w' → HpIn w' hp (.slice (some ⟨g, 0, none⟩) l'.length cap) l' ∧ Tch (fun k => k = hp ∨ (Value.slice (some ⟨g, 0, none⟩) (x :: l).length cap).ownBlock = some k) w w' := fun l' w' h => ⟨h.1, h.2.mono (fun k _ hk => hk.imp id (fun e => by rw [e]; rfl))⟩
      by_cases hpos : 0 < l.length
      · have hy : (x :: l)[l.length]? = some ((x :: l)[l.length]'(by simp)) := List.getElem?_eq_getElem _
        refine (hpop_some hp g cap x _ l w h (by simp at hl; omega) hpos hy).mono ?_
        rintro e w' ⟨rfl, ho⟩
        exact ⟨rfl, hpo _ _ ho⟩
      · obtain rfl : l = [] := List.eq_nil_of_length_eq_zero (by omega)
        refine (hpop_one hp g cap x w h).mono ?_
        rintro e w' ⟨rfl, ho⟩
        have he : popP lessM [x] = some (x, []) := by
          unfold popP
          simp only [List.length_nil, List.take_zero]
          rw [sinkP, dif_neg (by simp)]
        rw [he]
        exact ⟨rfl, hpo _ _ ho⟩
theorem popP_len {α : Type} (less : α → α → Bool) (bs l : List α) (x : α) (h : popP less bs = some (x, l)) : l.length + 1 = bs.length := by
  cases bs with
  | nil => cases h
  | cons y m =>
    unfold popP at h
    simp only [Option.some.injEq, Prod.mk.injEq] at h
    rw [← h.2, sinkP_len, List.length_take, List.length_set, List.length_cons]
    omega
set_option maxHeartbeats 800000 in
theorem hlen_any (hp : Nat) (v : Value) (bs : List Bm) (w : World) (h : HpIn w hp v bs) :
    Calls Tryz.prog 82 #[.pointer (some ⟨hp, 0, none⟩)] w fun e w' => e = .returned (I bs.length) ∧ w' = w := by
  obtain ⟨a, c, rfl⟩ : ∃ a c, v = .slice a bs.length c := by
    rcases h.row.2 with ⟨rfl, hz⟩ | ⟨g, cap, cur, rfl, _⟩
    · exact ⟨_, _, by rw [hz]⟩
    · exact ⟨_, _, rfl⟩
  have c0 : w.cell? ⟨hp, 0, none⟩ = some (.slice a bs.length c) := h.blk.cell 0
  clear h
  go_enter Tryz.func82, Tryz.ntmps82
  go_wp2
  go_ret
  exact ⟨rfl, rfl⟩

end Go.Proofs.YtfmcngncaffloaaGreatDoor

namespace Go.Proofs.YtfmcngncaffloaaGreatDoor
open Go.RowKit
set_option maxRecDepth 100000

/-- Has o the name that b has? -/
def likeB (b o : Wv.Bt) : Bool := (o.o == b.o) && (o.s == b.s)
set_option maxHeartbeats 800000 in
theorem like_any (x : Bm) (w : World) :
    Calls Tryz.prog 118 #[bmV x] w fun e w' => e = .returned (.func (.func 163) #[] #[.pointer (some ⟨w.heap.size, 0, none⟩)]) ∧ w' = w.alloc (.cells (bmC x) 124) := by
  go_enter Tryz.func118, Tryz.ntmps118
  go_wp2
  go_ret
  exact ⟨rfl, rfl⟩
set_option maxHeartbeats 800000 in
theorem like1_any (x y : Bm) (gb : Nat) (w : World) (h : Blk w gb (bmC y) 124) :
    Calls Tryz.prog 163 #[bmV x, .pointer (some ⟨gb, 0, none⟩)] w fun e w' => e = .returned (.bool (likeB y.b x.b)) ∧ Below w.heap.size w w' := by
  have HB : Hid (Blk (w.alloc (.cells (bmC x) 124)) gb (bmC y) 124) := h.alloc _
  have c0 : (w.alloc (.cells (bmC x) 124)).cell? ⟨gb, 0, none⟩ = some (I y.b.o) := HB.out.cell 0
  have c1 : (w.alloc (.cells (bmC x) 124)).cell? ⟨gb, 1, none⟩ = some (I y.b.s) := HB.out.cell 1
  clear h
  have HE : Hid (Below w.heap.size w (w.alloc (.cells (bmC x) 124))) := (Below.refl _ _).alloc (Nat.le_refl _) _
  clear HB
  unfold bmC at c0 c1
  have HL : Hid (likeB y.b x.b = ((x.b.o == y.b.o) && (x.b.s == y.b.s))) := rfl
  obtain ⟨q, hq⟩ : ∃ q, q = (x.b.o == y.b.o) := ⟨_, rfl⟩
  rw [← hq] at HL
  go_enter Tryz.func163, Tryz.ntmps163
  cases q
  · have hq2 : (x.b.o == y.b.o) = false := hq.symm
    clear hq
    go_wp2
    go_ret
    exact ⟨by rw [HL.out]; rfl, HE.out⟩
  · have hq2 : (x.b.o == y.b.o) = true := hq.symm
    clear hq
    go_wp2
    go_ret
    exact ⟨by rw [HL.out]; rfl, HE.out⟩

end Go.Proofs.YtfmcngncaffloaaGreatDoor

namespace Go.Proofs.YtfmcngncaffloaaGreatDoor
open Go.RowKit
set_option maxRecDepth 100000

/-- Items are taken out, the least first, until one fits. -/
def popAll {α : Type} (less : α → α → Bool) (f : α → Bool) : Nat → List α → List α → Option α × List α × List α
  | 0, bs, os => (none, bs, os)
  | n + 1, bs, os => match popP less bs with
    | none => (none, bs, os)
    | some (x, l) => if f x then (some x, l, os) else popAll less f n l (os ++ [x])
/-- The least of those that fit, if there is any, and the others. -/
def takeP {α : Type} (less : α → α → Bool) (f : α → Bool) (bs : List α) : Option α × List α :=
  let r := popAll less f (bs.length + 1) bs []
  (r.1, r.2.2.foldl (pushP less) r.2.1)
/-- What Take answers, and what it leaves. -/
def TakeHp (w : World) (hp : Nat) (v : Value) (r : Option Bm × List Bm) (e : Ending) (w' : World) : Prop := e = .returned (.tuple #[bmV (r.1.getD bmZ), .bool r.1.isSome]) ∧ HpOk w hp v r.2 w'
def popR {α : Type} (less : α → α → Bool) (bs : List α) : Option α × List α := match popP less bs with | none => (none, bs) | some (x, l) => (some x, l)
theorem hpop_u (hp : Nat) (v : Value) (bs : List Bm) (w : World) (h : HpIn w hp v bs) (hl : bs.length ≤ 1000000) :
    Calls Tryz.prog 161 #[.pointer (some ⟨hp, 0, none⟩)] w fun e w' => e = .returned (.tuple #[bmV ((popR lessM bs).1.getD bmZ), .bool (popR lessM bs).1.isSome]) ∧ ∃ v', HpIn w' hp v' (popR lessM bs).2 ∧ Tch (fun k => k = hp ∨ v.ownBlock = some k) w w' ∧ v'.ownBlock = v.ownBlock := by
  refine (hpop_any hp v bs w h hl).mono ?_
  intro e w' hh
  unfold PopPost at hh
  unfold popR
  cases hq : popP lessM bs with
  | none =>
    rw [hq] at hh
    obtain ⟨rfl, h1, h2⟩ := hh
    exact ⟨rfl, v, h1, Tch.below h2, rfl⟩
  | some p =>
    obtain ⟨x, l⟩ := p
    rw [hq] at hh
    obtain ⟨rfl, h1, h2⟩ := hh
    refine ⟨rfl, _, h1, h2, ?_⟩
    rcases h.row.2 with ⟨rfl, _⟩ | ⟨g, cap, cur, rfl, _⟩ <;> rfl
theorem popR_len {α : Type} (less : α → α → Bool) (bs : List α) : (popR less bs).2.length + (popR less bs).1.toList.length ≤ bs.length := by
  unfold popR
  cases hq : popP less bs with
  | none => simp
  | some p => have := popP_len less bs p.2 p.1 (by rw [hq]); simp; omega

def backP {α : Type} (less : α → α → Bool) (q : Option α × List α × List α) : Option α × List α := (q.1, q.2.2.foldl (pushP less) q.2.1)
/-- What is still to come, with this item in hand. -/
def finP {α : Type} (less : α → α → Bool) (f : α → Bool) (n : Nat) (r : Option α) (l os : List α) : Option α × List α :=
  match r with
  | none => backP less (none, l, os)
  | some x => if f x then backP less (some x, l, os) else backP less (popAll less f n l (os ++ [x]))
theorem fin_pop {α : Type} (less : α → α → Bool) (f : α → Bool) (n : Nat) (l os : List α) : backP less (popAll less f (n + 1) l os) = finP less f n (popR less l).1 (popR less l).2 os := by
  unfold finP popR
  rw [popAll]
  cases hq : popP less l with
  | none => rfl
  | some p =>
    obtain ⟨x, m⟩ := p
    simp only
    split <;> rfl
theorem take_fin {α : Type} (less : α → α → Bool) (f : α → Bool) (bs : List α) : takeP less f bs = finP less f bs.length (popR less bs).1 (popR less bs).2 [] := by
  rw [← fin_pop]
  rfl
/-- Taking under way: the heap, what was passed over, the item in hand, and the answer's block. -/
structure Tk1 (w wr : World) (hp : Nat) (v v' : Value) (ib : Nat) (ov : Value) (it : Bm) (l os : List Bm) : Prop where
  hpx : HpIn wr hp v' l
  old : ∀ b, v'.ownBlock = some b → v.ownBlock = some b ∨ w.heap.size ≤ b
  far : v'.ownBlock ≠ some ib ∧ v'.ownBlock ≠ some w.heap.size ∧ ∀ b, ov.ownBlock = some b → v'.ownBlock ≠ some b
  row : wr.ownsRow w.heap.size 124 5 ov os.length (flat Bm.cells os)
  item : Blk wr ib (bmC it) 124
  ans : Blk wr w.heap.size zB 124
  tch : Tch (fun k => k = hp ∨ v.ownBlock = some k) w wr
  apart : ov.ownBlock ≠ some ib ∧ ov.ownBlock ≠ some w.heap.size
  lt : w.heap.size < ib
  lth : hp < w.heap.size
theorem Tk1.step {w wr w2 : World} {hp : Nat} {v v' v2 : Value} {ib : Nat} {ov : Value} {it : Bm} {l l2 os : List Bm} (h : Tk1 w wr hp v v' ib ov it l os) (hp2 : HpIn w2 hp v2 l2) (hT : Tch (fun k => k = hp ∨ v'.ownBlock = some k) wr w2) (hv : ∀ b, v2.ownBlock = some b → v'.ownBlock = some b ∨ wr.heap.size ≤ b) :
    Tk1 w w2 hp v v2 ib ov it l2 os := by
  have hs := h.tch.size
  have hib := h.item.lt
  have han := h.ans.lt
  have hov : ∀ b, ov.ownBlock = some b → w.heap.size ≤ b ∧ b < wr.heap.size := fun b e => h.row.lt b e
  refine ⟨hp2, fun b e => ?_, ⟨fun e => ?_, fun e => ?_, fun b eo e => ?_⟩, own_kept h.row (fun b e => hT.block b (hov b e).2 ?_), hT.blk h.item ?_, hT.blk h.ans ?_, h.tch.trans hT (fun _ _ h => h) (fun k hk hh => ?_), h.apart, h.lt, h.lth⟩
  · rcases hv b e with h1 | h1
    · exact h.old b h1
    · right; omega
  · rcases hv _ e with h1 | h1
    · exact h.far.1 h1
    · omega
  · rcases hv _ e with h1 | h1
    · exact h.far.2.1 h1
    · omega
  · rcases hv _ e with h1 | h1
    · exact h.far.2.2 b eo h1
    · have := (hov b eo).2; omega
  · rintro (h1 | h1)
    · have := (hov b e).1; have := h.lth; omega
    · exact h.far.2.2 b e h1
  · rintro (h1 | h1)
    · have := h.lt; have := h.lth; omega
    · exact h.far.1 h1
  · rintro (h1 | h1)
    · have := h.lth; omega
    · exact h.far.2.1 h1
  · rcases hh with h1 | h1
    · exact Or.inl h1
    · rcases h.old _ h1 with h2 | h2
      · exact Or.inr h2
      · omega
theorem Tk1.kept {w wr w2 : World} {hp : Nat} {v v' : Value} {ib : Nat} {ov : Value} {it : Bm} {l os : List Bm} (h : Tk1 w wr hp v v' ib ov it l os) (hb : Below wr.heap.size wr w2) : Tk1 w w2 hp v v' ib ov it l os :=
  h.step (h.hpx.kept hb) (Tch.below hb) (fun _ e => Or.inl e)
/-- The item in hand is another one now. -/
theorem Tk1.setItem {w wr w2 : World} {hp : Nat} {v v' : Value} {ib : Nat} {ov : Value} {it it2 : Bm} {l os : List Bm} (h : Tk1 w wr hp v v' ib ov it l os) (hw : w2 = put5b wr ib 0 it2) : Tk1 w w2 hp v v' ib ov it2 l os := by
  have hT : Tch (fun j => j = ib) wr w2 := by rw [hw]; exact put5b_grown wr ib 0 it2
  have hib := h.lt
  have hth := h.lth
  refine ⟨⟨hT.blk h.hpx.blk (by show ¬ hp = ib; omega), own_kept h.hpx.row (fun b e => hT.block b (h.hpx.row.lt b e).2 (by intro e2; subst e2; exact h.far.1 e))⟩, h.old, h.far, own_kept h.row (fun b e => hT.block b (h.row.lt b e).2 (by intro e2; subst e2; exact h.apart.1 e)), ?_, hT.blk h.ans (by show ¬ w.heap.size = ib; omega), h.tch.trans hT (fun _ _ h => h) (fun k hk e => by omega), h.apart, h.lt, h.lth⟩
  rw [hw]
  exact ((((h.item.set 0 _).set 1 _).set 2 _).set 3 _).set 4 _
/-- One more is passed over. -/
theorem Tk1.pass {w wr w2 : World} {hp : Nat} {v v' : Value} {ib : Nat} {ov ov2 : Value} {it : Bm} {l os os2 : List Bm} (h : Tk1 w wr hp v v' ib ov it l os) (hr : w2.ownsRow w.heap.size 124 5 ov2 os2.length (flat Bm.cells os2)) (hT : Tch (fun k => ov.ownBlock = some k) wr w2) (hv : ∀ b, ov2.ownBlock = some b → ov.ownBlock = some b ∨ wr.heap.size ≤ b) : Tk1 w w2 hp v v' ib ov2 it l os2 := by
  have hs := h.tch.size
  have hib := h.item.lt
  have han := h.ans.lt
  have hlh := h.lth
  have hov : ∀ b, ov.ownBlock = some b → w.heap.size ≤ b ∧ b < wr.heap.size := fun b e => h.row.lt b e
  have hvl : ∀ b, v'.ownBlock = some b → b < wr.heap.size := fun b e => (h.hpx.row.lt b e).2
  refine ⟨⟨hT.blk h.hpx.blk (fun e => by have := (hov _ e).1; omega), own_kept h.hpx.row (fun b e => hT.block b (hvl b e) (fun e2 => h.far.2.2 b e2 e))⟩, h.old, ⟨h.far.1, h.far.2.1, fun b e e2 => ?_⟩, hr, hT.blk h.item h.apart.1, hT.blk h.ans h.apart.2, h.tch.trans hT (fun _ _ h => h) (fun k hk e => by have := (hov _ e).1; omega), ⟨fun e => ?_, fun e => ?_⟩, h.lt, h.lth⟩
  · rcases hv b e with h1 | h1
    · exact h.far.2.2 b h1 e2
    · have := hvl b e2; omega
  · rcases hv _ e with h1 | h1
    · exact h.apart.1 h1
    · omega
  · rcases hv _ e with h1 | h1
    · exact h.apart.2 h1
    · omega

theorem Tk1.done {w wr wF : World} {hp : Nat} {v v' : Value} {ib : Nat} {ov : Value} {it : Bm} {l os : List Bm} (h : Tk1 w wr hp v v' ib ov it l os) (hw : wF = put5b wr w.heap.size 0 it) : HpOk w hp v l wF ∧ Blk wF w.heap.size (bmC it) 124 := by
  have hT : Tch (fun j => j = w.heap.size) wr wF := by rw [hw]; exact put5b_grown wr w.heap.size 0 it
  have hth := h.lth
  refine ⟨⟨v', ⟨hT.blk h.hpx.blk (by show ¬ hp = w.heap.size; omega), own_kept h.hpx.row (fun b e => hT.block b (h.hpx.row.lt b e).2 (by intro e2; subst e2; exact h.far.2.1 e))⟩, h.tch.trans hT (fun _ _ h => h) (fun k hk e => by omega), h.old⟩, ?_⟩
  rw [hw]
  exact put5r_blk h.ans it
theorem bats_of {w : World} {base g cap n : Nat} {bs : List Bm} (h : w.ownsRow base 124 5 (.slice (some ⟨g, 0, none⟩) n cap) bs.length (flat Bm.cells bs)) (k : Nat) (hk : k < bs.length) :
    w.cell? ⟨g, k * 5, none⟩ = some (I bs[k].b.o) ∧ w.cell? ⟨g, k * 5 + 1, none⟩ = some (I bs[k].b.s) ∧ w.cell? ⟨g, k * 5 + 2, none⟩ = some (I bs[k].b.t) ∧ w.cell? ⟨g, k * 5 + 3, none⟩ = some (.slice bs[k].ca bs[k].b.clock.length bs[k].cc) ∧ w.cell? ⟨g, k * 5 + 4, none⟩ = some (.slice bs[k].ea bs[k].b.effs.length bs[k].ec) := by
  have hc := h.cells (g := g) rfl
  have hx : ∀ j (_ : j < 5) u, (bs[k].cells)[j]? = some u → w.cell? ⟨g, k * 5 + j, none⟩ = some u := fun j hj u hu => by
    have := hc (k * 5 + j) u ((flat_get Bm.cells 5 bmCells_len bs k hk j hj).trans hu)
    rw [Addr.add_lit, Nat.zero_add] at this
    exact this
  exact ⟨hx 0 (by omega) _ rfl, hx 1 (by omega) _ rfl, hx 2 (by omega) _ rfl, hx 3 (by omega) _ rfl, hx 4 (by omega) _ rfl⟩
theorem riseP_len {α : Type} (less : α → α → Bool) (bs : List α) (i : Nat) : (riseP less bs i).length = bs.length := by
  induction i using Nat.strongRecOn generalizing bs with
  | _ i ih =>
    rw [riseP]
    split
    · rename_i h
      rw [ih ((i - 1) / 2) (by omega), swapP_len]
    · rfl
theorem pushP_len {α : Type} (less : α → α → Bool) (bs : List α) (x : α) : (pushP less bs x).length = bs.length + 1 := by
  unfold pushP
  rw [riseP_len]
  simp
theorem pushAll_len {α : Type} (less : α → α → Bool) (os : List α) : ∀ l : List α, (os.foldl (pushP less) l).length = l.length + os.length := by
  induction os with
  | nil => intro l; rfl
  | cons x os ih => intro l; rw [List.foldl_cons, ih, pushP_len, List.length_cons]; omega

end Go.Proofs.YtfmcngncaffloaaGreatDoor

namespace Go.Proofs.YtfmcngncaffloaaGreatDoor
open Go.RowKit
set_option maxRecDepth 100000

set_option maxHeartbeats 800000 in
theorem htake_like (hp : Nat) (v : Value) (bs : List Bm) (gb : Nat) (y : Bm) (w : World) (h : HpIn w hp v bs) (hl : bs.length ≤ 1000) (hb : Blk w gb (bmC y) 124) (hg1 : gb ≠ hp) (hg2 : ¬ v.ownBlock = some gb) :
    Calls Tryz.prog 117 #[.pointer (some ⟨hp, 0, none⟩), .func (.func 163) #[] #[.pointer (some ⟨gb, 0, none⟩)]] w fun e w' => TakeHp w hp v (takeP lessM (fun m => likeB y.b m.b) bs) e w' := by
  have HP : Hid (HpIn w hp v bs) := h
  have HG : Hid (Blk w gb (bmC y) 124) := hb
  clear h hb
  go_enter Tryz.func117, Tryz.ntmps117
  go_wp2_with fail
  obtain ⟨w0, hw0⟩ : ∃ w0, w0 = w.alloc (.cells zB 124) := ⟨_, rfl⟩
  have HB0 : Hid (Below w.heap.size w w0) := by rw [hw0]; exact (Below.refl _ _).alloc (Nat.le_refl _) _
  have HR0 : Hid (Blk w0 w.heap.size zB 124) := by rw [hw0]; exact heap_alloc_new w _
  rw [show w.alloc (.cells #[.int .i64 0, .int .i64 0, .int .i64 0, .slice none 0 0, .slice none 0 0] 124) = w0 from hw0.symm]
  clear hw0
  refine (hpop_u hp v bs w0 (HP.out.kept HB0.out) (by omega)).mono ?_
  rintro e w1 ⟨rfl, v1, hp1, hT1, hv1⟩
  have HVB : Hid (∀ k, v.ownBlock = some k → k < w.heap.size) := fun k hk => (HP.out.row.lt k hk).2
  have hpw : hp < w.heap.size := HP.out.blk.lt
  have hs1 : w.heap.size < w1.heap.size := by have := hT1.size; have := HR0.out.lt; omega
  have HTF : Hid (takeP lessM (fun m => likeB y.b m.b) bs = finP lessM (fun m => likeB y.b m.b) bs.length (popR lessM bs).1 (popR lessM bs).2 []) := take_fin _ _ _
  have HLE : Hid ((popR lessM bs).2.length + (popR lessM bs).1.toList.length ≤ bs.length) := popR_len _ _
  go_wp2_with fail
  generalize (popR lessM bs).2 = l0 at *
  generalize (popR lessM bs).1 = r0 at *
  have HK : Hid (Tk1 w (w1.alloc (.cells (bmC (r0.getD bmZ)) 124)) hp v v1 w1.heap.size (.slice none 0 0) (r0.getD bmZ) l0 []) := by
    have hTw : Tch (fun k => k = hp ∨ v.ownBlock = some k) w w1 := (Tch.below HB0.out).trans hT1 (fun _ _ h => h) (fun _ _ h => h)
    refine ⟨hp1.kept ((Below.refl _ _).alloc (Nat.le_refl _) _), fun b e => Or.inl (by rw [← hv1]; exact e), ⟨?_, ?_, fun b e => by simp [Value.ownBlock] at e⟩, ⟨rfl, .inl ⟨rfl, rfl⟩⟩, heap_alloc_new w1 _, ?_, hTw.alloc _, ⟨by simp [Value.ownBlock], by simp [Value.ownBlock]⟩, hs1, hpw⟩
    · intro e; rw [hv1] at e; have := HVB.out _ e; omega
    · intro e; rw [hv1] at e; have := HVB.out _ e; omega
    · exact (hT1.blk HR0.out (by rintro (h | h); omega; have := HVB.out _ h; omega)).alloc _
  clear hp1 hT1 hv1 HB0 HR0 HP
  obtain ⟨wS, hwS⟩ : ∃ wS, wS = w1.alloc (.cells (bmC (r0.getD bmZ)) 124) := ⟨_, rfl⟩
  obtain ⟨ib, hib⟩ : ∃ ib, ib = w1.heap.size := ⟨_, rfl⟩
  change Code.wp _ _ _ _ (w1.alloc (.cells (bmC (r0.getD bmZ)) 124))
  rw [← hwS, ← hib] at HK
  rw [← hwS, ← hib]
  clear hwS hib hs1
  go_loopw [6, 8] (fun v6 v8 wr => ∃ (n : Nat) (r : Option Bm) (l os : List Bm) (oa : Option Addr) (oc : Nat) (v' : Value), v6 = .slice oa os.length oc ∧ v8 = .bool r.isSome ∧ os.length + n = bs.length ∧ l.length + r.toList.length ≤ n ∧ Hid (takeP lessM (fun m => likeB y.b m.b) bs = finP lessM (fun m => likeB y.b m.b) n r l os) ∧ Hid (Tk1 w wr hp v v' ib (.slice oa os.length oc) (r.getD bmZ) l os)) (fun v6 _ _ => match v6 with | .slice _ k _ => bs.length + 1 - k | _ => 0)
  case atStart => exact ⟨bs.length, r0, l0, [], none, 0, v1, rfl, rfl, by simp, HLE.out, HTF, HK⟩
  case round =>
    obtain ⟨n, r, l, os, oa, oc, v', rfl, rfl, hn, hln, HF, HKr⟩ := hrel
    clear HK HTF HLE
    cases r with
    | none =>
      have HKT := HKr
      have HFT : Hid (takeP lessM (fun m => likeB y.b m.b) bs = backP lessM (none, l, os)) := HF.out
      clear HKr HF
      go_wp2_with fail
      go_loopw [34] (fun v34 wX => ∃ (k : Nat) (v2 : Value), k ≤ os.length ∧ v34 = I k ∧ Hid (Tk1 w wX hp v v2 ib (.slice oa os.length oc) bmZ ((os.take k).foldl (pushP lessM) l) os)) (fun v34 _ => os.length - (intOf v34).toNat)
      case atStart => exact ⟨0, v', Nat.zero_le _, rfl, HKT⟩
      case round =>
        obtain ⟨k, v2, hk, rfl, HKq⟩ := hrel
        clear HKT
        by_cases hlt : k < os.length
        · obtain ⟨go, rfl⟩ : ∃ go, oa = some ⟨go, 0, none⟩ := by
            rcases HKq.out.row.2 with ⟨_, hz⟩ | ⟨g, cap, cur, e, _⟩
            · omega
            · cases e; exact ⟨g, rfl⟩
          obtain ⟨e0, e1, e2, e3, e4⟩ := bats_of HKq.out.row k hlt
          have HNX : Hid ((os.take (k + 1)).foldl (pushP lessM) l = pushP lessM ((os.take k).foldl (pushP lessM) l) os[k]) := by
            show _ = _
            rw [List.take_succ_eq_append_getElem hlt, List.foldl_append]
            rfl
          have HLN : Hid (((os.take k).foldl (pushP lessM) l).length ≤ 1000000) := by
            show _ ≤ _
            rw [pushAll_len, List.length_take]
            omega
          have hki : (k : Int) < os.length := by omega
          generalize os[k] = z at *
          go_wp2_with fail
          have HKa : Hid (Tk1 w (wr.alloc (.cells (bmC z) 124)) hp v v2 ib (.slice (some ⟨go, 0, none⟩) os.length oc) bmZ ((os.take k).foldl (pushP lessM) l) os) := HKq.out.kept ((Below.refl _ _).alloc (Nat.le_refl _) _)
          refine (hpush_any hp v2 ((os.take k).foldl (pushP lessM) l) z (wr.alloc (.cells (bmC z) 124)) HKa.out.hpx HLN.out).mono ?_
          rintro e w5 ⟨rfl, v3, hp3, hT3, hv3⟩
          have HK5 : Hid (Tk1 w w5 hp v v3 ib (.slice (some ⟨go, 0, none⟩) os.length oc) bmZ ((os.take (k + 1)).foldl (pushP lessM) l) os) := by
            show Tk1 _ _ _ _ _ _ _ _ _ _
            rw [HNX.out]
            exact HKa.out.step hp3 hT3 hv3
          clear hp3 hT3 hv3 HKa HKq e0 e1 e2 e3 e4 HNX
          go_wp2_with fail
          go_roundw
          case rel => exact ⟨k + 1, v3, hlt, by go_num, HK5⟩
          case measure => simp [intOf]; omega
        · have HT9 : Hid (Tk1 w wr hp v v2 ib (.slice oa os.length oc) bmZ (os.foldl (pushP lessM) l) os) := by
            have := HKq.out
            rw [List.take_of_length_le (by omega)] at this
            exact this
          have hki : ¬ (k : Int) < os.length := by omega
          clear HKq
          have x0 : wr.cell? ⟨ib, 0, none⟩ = some (I (bmZ).b.o) := HT9.out.item.cell 0
          have x1 : wr.cell? ⟨ib, 1, none⟩ = some (I (bmZ).b.s) := HT9.out.item.cell 1
          have x2 : wr.cell? ⟨ib, 2, none⟩ = some (I (bmZ).b.t) := HT9.out.item.cell 2
          have x3 : wr.cell? ⟨ib, 3, none⟩ = some (.slice (bmZ).ca (bmZ).b.clock.length (bmZ).cc) := HT9.out.item.cell 3
          have x4 : wr.cell? ⟨ib, 4, none⟩ = some (.slice (bmZ).ea (bmZ).b.effs.length (bmZ).ec) := HT9.out.item.cell 4
          have r0 : wr.cell? ⟨w.heap.size, 0, none⟩ = some (.int .i64 0) := HT9.out.ans.cell 0
          have r1 : wr.cell? ⟨w.heap.size, 1, none⟩ = some (.int .i64 0) := HT9.out.ans.cell 1
          have r2 : wr.cell? ⟨w.heap.size, 2, none⟩ = some (.int .i64 0) := HT9.out.ans.cell 2
          have r3 : wr.cell? ⟨w.heap.size, 3, none⟩ = some (.slice none 0 0) := HT9.out.ans.cell 3
          have r4 : wr.cell? ⟨w.heap.size, 4, none⟩ = some (.slice none 0 0) := HT9.out.ans.cell 4
          have z0 := HT9.out.ans.frozen 0
          have z1 := HT9.out.ans.frozen 1
          have z2 := HT9.out.ans.frozen 2
          have z3 := HT9.out.ans.frozen 3
          have z4 := HT9.out.ans.frozen 4
          go_wp2_with fail
          obtain ⟨wF, hwF⟩ : ∃ wF, wF = put5b wr w.heap.size 0 bmZ := ⟨_, rfl⟩
          have HOK : Hid (HpOk w hp v (os.foldl (pushP lessM) l) wF) := (HT9.out.done hwF).1
          have HBF : Hid (Blk wF w.heap.size (bmC bmZ) 124) := (HT9.out.done hwF).2
          change bodyPost _ _ _ Exit.ret _ (put5b wr w.heap.size 0 bmZ)
          rw [← hwF]
          clear hwF HT9 x0 x1 x2 x3 x4 r0 r1 r2 r3 r4 z0 z1 z2 z3 z4
          have f0 : wF.cell? ⟨w.heap.size, 0, none⟩ = some (I (bmZ).b.o) := HBF.out.cell 0
          have f1 : wF.cell? ⟨w.heap.size, 1, none⟩ = some (I (bmZ).b.s) := HBF.out.cell 1
          have f2 : wF.cell? ⟨w.heap.size, 2, none⟩ = some (I (bmZ).b.t) := HBF.out.cell 2
          have f3 : wF.cell? ⟨w.heap.size, 3, none⟩ = some (.slice (bmZ).ca (bmZ).b.clock.length (bmZ).cc) := HBF.out.cell 3
          have f4 : wF.cell? ⟨w.heap.size, 4, none⟩ = some (.slice (bmZ).ea (bmZ).b.effs.length (bmZ).ec) := HBF.out.cell 4
          refine bodyPost_ret (v := .tuple #[bmV bmZ, .bool false]) (by simp [results, Tryz.results117, go_sem, f0, f1, f2, f3, f4]) rfl ?_
          rw [HFT.out]
          exact ⟨rfl, HOK.out⟩
    | some x =>
      have i0 : wr.cell? ⟨ib, 0, none⟩ = some (I x.b.o) := HKr.out.item.cell 0
      have i1 : wr.cell? ⟨ib, 1, none⟩ = some (I x.b.s) := HKr.out.item.cell 1
      have i2 : wr.cell? ⟨ib, 2, none⟩ = some (I x.b.t) := HKr.out.item.cell 2
      have i3 : wr.cell? ⟨ib, 3, none⟩ = some (.slice x.ca x.b.clock.length x.cc) := HKr.out.item.cell 3
      have i4 : wr.cell? ⟨ib, 4, none⟩ = some (.slice x.ea x.b.effs.length x.ec) := HKr.out.item.cell 4
      go_wp2_with fail
      refine (like1_any x y gb wr (HKr.out.tch.blk HG.out (by rintro (h | h); exact hg1 h; exact hg2 h))).mono ?_
      rintro e w2 ⟨rfl, hb2⟩
      have HK2 : Hid (Tk1 w w2 hp v v' ib (.slice oa os.length oc) x l os) := HKr.out.kept hb2
      have HF2 : Hid (takeP lessM (fun m => likeB y.b m.b) bs = if likeB y.b x.b then backP lessM (some x, l, os) else backP lessM (popAll lessM (fun m => likeB y.b m.b) n l (os ++ [x]))) := HF.out
      clear HKr HF hb2 i0 i1 i2 i3 i4
      generalize likeB y.b x.b = bl at *
      cases bl
      · have HFN : Hid (takeP lessM (fun m => likeB y.b m.b) bs = backP lessM (popAll lessM (fun m => likeB y.b m.b) n l (os ++ [x]))) := HF2.out
        clear HF2
        have i0 : w2.cell? ⟨ib, 0, none⟩ = some (I x.b.o) := HK2.out.item.cell 0
        have i1 : w2.cell? ⟨ib, 1, none⟩ = some (I x.b.s) := HK2.out.item.cell 1
        have i2 : w2.cell? ⟨ib, 2, none⟩ = some (I x.b.t) := HK2.out.item.cell 2
        have i3 : w2.cell? ⟨ib, 3, none⟩ = some (.slice x.ca x.b.clock.length x.cc) := HK2.out.item.cell 3
        have i4 : w2.cell? ⟨ib, 4, none⟩ = some (.slice x.ea x.b.effs.length x.ec) := HK2.out.item.cell 4
        obtain ⟨ii, HI⟩ : ∃ i, Hid (Tryz.prog.info? 124 = some i ∧ i.zero = some (.agg #[.int .i64 0, .int .i64 0, .int .i64 0, .slice none 0 0, .slice none 0 0]) ∧ i.size = 5 ∧ i.bytes = 72) := by obtain ⟨i, h⟩ := info_parts infoBt; exact ⟨i, h⟩
        have hone : ∀ u ∈ x.cells, u.oneCell' = true := by have := bm_one [x]; simpa [flat] using this
        have HRW : Hid ((w2.alloc (.cells (bmC x) 124)).ownsRow w.heap.size 124 5 (.slice oa os.length oc) os.length (flat Bm.cells os)) := HK2.out.row.alloc _
        have HLT : Hid (∀ j u, (x.cells)[j]? = some u → (w2.alloc (.cells (bmC x) 124)).cell? ((⟨w2.heap.size, 0, none⟩ : Addr).add j) = some u) := lit_any w2 x.cells _
        have hsz2 : w.heap.size ≤ (w2.alloc (.cells (bmC x) 124)).heap.size := by have := HK2.out.tch.size; simp; omega
        have HSZ2 : Hid (w.heap.size ≤ (w2.alloc (.cells (bmC x) 124)).heap.size) := hsz2
        clear hsz2
        have n1 : os.length + 1 ≤ maxLen := by unfold maxLen; omega
        have n2 : (os.length + 1) * 72 ≤ 140737488355328 := by omega
        go_wp2_with (first | (at_builtin; refine wpList_append_own_at _ rfl _ _ _ rfl w.heap.size 124 ii (.agg #[.int .i64 0, .int .i64 0, .int .i64 0, .slice none 0 0, .slice none 0 0]) 5 72 Tryz.underlying108 HI.out.1 HI.out.2.1 HI.out.2.2.1 HI.out.2.2.2 rfl (by decide) (.slice oa os.length oc) os.length (flat Bm.cells os) rfl HRW.out ⟨w2.heap.size, 0, none⟩ 1 1 x.cells rfl rfl HLT.out hone n1 n2 HSZ2.out ?_; intro ov3 w3 hown3 hgrow3 hnil3 hat3))
        have hln' : l.length + 1 ≤ n := by simpa using hln
        obtain ⟨n', rfl⟩ : ∃ n', n = n' + 1 := ⟨n - 1, by omega⟩
        have hsn : (os ++ [x]).length = os.length + 1 := by simp
        obtain ⟨og, oc3, rfl⟩ : ∃ g c, ov3 = .slice (some ⟨g, 0, none⟩) (os ++ [x]).length c := by
          rcases hown3.2 with ⟨_, hz⟩ | ⟨g, cap, cur, e, _⟩
          · omega
          · exact ⟨g, cap, by rw [hsn]; exact e⟩
        have HK3 : Hid (Tk1 w w3 hp v v' ib (.slice (some ⟨og, 0, none⟩) (os ++ [x]).length oc3) x l (os ++ [x])) := by
          refine (HK2.out.kept ((Below.refl _ _).alloc (Nat.le_refl _) (.cells (bmC x) 124))).pass ?_ (Tch.grown hgrow3) (fun b e => ?_)
          · rw [hsn, flat_snoc5]
            rw [hsn] at hown3
            exact hown3
          · rcases hat3 with h | h
            · rw [e] at h; exact Or.inl h.symm
            · rw [e] at h; cases h; exact Or.inr (Nat.le_refl _)
        have HFP : Hid (takeP lessM (fun m => likeB y.b m.b) bs = finP lessM (fun m => likeB y.b m.b) n' (popR lessM l).1 (popR lessM l).2 (os ++ [x])) := by
          show _ = _
          rw [HFN.out, fin_pop]
        have HLP : Hid ((popR lessM l).2.length + (popR lessM l).1.toList.length ≤ l.length) := popR_len _ _
        clear hown3 hgrow3 hnil3 hat3 HK2 HFN HRW HLT HSZ2 i0 i1 i2 i3 i4 HI hone n1 n2
        refine (hpop_u hp v' l w3 HK3.out.hpx (by omega)).mono ?_
        rintro e w4 ⟨rfl, v4, hp4, hT4, hv4⟩
        have HK4 : Hid (Tk1 w w4 hp v v4 ib (.slice (some ⟨og, 0, none⟩) (os ++ [x]).length oc3) x (popR lessM l).2 (os ++ [x])) := HK3.out.step hp4 hT4 (fun b e => Or.inl (by rw [← hv4]; exact e))
        clear hp4 hT4 hv4 HK3
        generalize (popR lessM l).2 = l4 at *
        generalize (popR lessM l).1 = r4 at *
        have i0 : w4.cell? ⟨ib, 0, none⟩ = some (I x.b.o) := HK4.out.item.cell 0
        have i1 : w4.cell? ⟨ib, 1, none⟩ = some (I x.b.s) := HK4.out.item.cell 1
        have i2 : w4.cell? ⟨ib, 2, none⟩ = some (I x.b.t) := HK4.out.item.cell 2
        have i3 : w4.cell? ⟨ib, 3, none⟩ = some (.slice x.ca x.b.clock.length x.cc) := HK4.out.item.cell 3
        have i4 : w4.cell? ⟨ib, 4, none⟩ = some (.slice x.ea x.b.effs.length x.ec) := HK4.out.item.cell 4
        have z0 := HK4.out.item.frozen 0
        have z1 := HK4.out.item.frozen 1
        have z2 := HK4.out.item.frozen 2
        have z3 := HK4.out.item.frozen 3
        have z4 := HK4.out.item.frozen 4
        have HK5 : Hid (Tk1 w (put5b w4 ib 0 (r4.getD bmZ)) hp v v4 ib (.slice (some ⟨og, 0, none⟩) (os ++ [x]).length oc3) (r4.getD bmZ) l4 (os ++ [x])) := HK4.out.setItem rfl
        clear HK4
        go_wp2_with fail
        go_roundw
        case rel => exact ⟨n', r4, l4, os ++ [x], some ⟨og, 0, none⟩, oc3, v4, by rw [hsn], rfl, by omega, Nat.le_trans HLP.out (by omega), HFP, HK5⟩
        case measure => simp; omega
      · have HKT := HK2
        have HFT : Hid (takeP lessM (fun m => likeB y.b m.b) bs = backP lessM (some x, l, os)) := HF2.out
        clear HK2 HF2
        go_wp2_with fail
        go_loopw [34] (fun v34 wX => ∃ (k : Nat) (v2 : Value), k ≤ os.length ∧ v34 = I k ∧ Hid (Tk1 w wX hp v v2 ib (.slice oa os.length oc) x ((os.take k).foldl (pushP lessM) l) os)) (fun v34 _ => os.length - (intOf v34).toNat)
        case atStart => exact ⟨0, v', Nat.zero_le _, rfl, HKT⟩
        case round =>
          obtain ⟨k, v2, hk, rfl, HKq⟩ := hrel
          clear HKT
          by_cases hlt : k < os.length
          · obtain ⟨go, rfl⟩ : ∃ go, oa = some ⟨go, 0, none⟩ := by
              rcases HKq.out.row.2 with ⟨_, hz⟩ | ⟨g, cap, cur, e, _⟩
              · omega
              · cases e; exact ⟨g, rfl⟩
            obtain ⟨e0, e1, e2, e3, e4⟩ := bats_of HKq.out.row k hlt
            have HNX : Hid ((os.take (k + 1)).foldl (pushP lessM) l = pushP lessM ((os.take k).foldl (pushP lessM) l) os[k]) := by
              show _ = _
              rw [List.take_succ_eq_append_getElem hlt, List.foldl_append]
              rfl
            have HLN : Hid (((os.take k).foldl (pushP lessM) l).length ≤ 1000000) := by
              show _ ≤ _
              rw [pushAll_len, List.length_take]
              omega
            have hki : (k : Int) < os.length := by omega
            generalize os[k] = z at *
            go_wp2_with fail
            have HKa : Hid (Tk1 w (wr.alloc (.cells (bmC z) 124)) hp v v2 ib (.slice (some ⟨go, 0, none⟩) os.length oc) x ((os.take k).foldl (pushP lessM) l) os) := HKq.out.kept ((Below.refl _ _).alloc (Nat.le_refl _) _)
            refine (hpush_any hp v2 ((os.take k).foldl (pushP lessM) l) z (wr.alloc (.cells (bmC z) 124)) HKa.out.hpx HLN.out).mono ?_
            rintro e w5 ⟨rfl, v3, hp3, hT3, hv3⟩
            have HK5 : Hid (Tk1 w w5 hp v v3 ib (.slice (some ⟨go, 0, none⟩) os.length oc) x ((os.take (k + 1)).foldl (pushP lessM) l) os) := by
              show Tk1 _ _ _ _ _ _ _ _ _ _
              rw [HNX.out]
              exact HKa.out.step hp3 hT3 hv3
            clear hp3 hT3 hv3 HKa HKq e0 e1 e2 e3 e4 HNX
            go_wp2_with fail
            go_roundw
            case rel => exact ⟨k + 1, v3, hlt, by go_num, HK5⟩
            case measure => simp [intOf]; omega
          · have HT9 : Hid (Tk1 w wr hp v v2 ib (.slice oa os.length oc) x (os.foldl (pushP lessM) l) os) := by
              have := HKq.out
              rw [List.take_of_length_le (by omega)] at this
              exact this
            have hki : ¬ (k : Int) < os.length := by omega
            clear HKq
            have x0 : wr.cell? ⟨ib, 0, none⟩ = some (I (x).b.o) := HT9.out.item.cell 0
            have x1 : wr.cell? ⟨ib, 1, none⟩ = some (I (x).b.s) := HT9.out.item.cell 1
            have x2 : wr.cell? ⟨ib, 2, none⟩ = some (I (x).b.t) := HT9.out.item.cell 2
            have x3 : wr.cell? ⟨ib, 3, none⟩ = some (.slice (x).ca (x).b.clock.length (x).cc) := HT9.out.item.cell 3
            have x4 : wr.cell? ⟨ib, 4, none⟩ = some (.slice (x).ea (x).b.effs.length (x).ec) := HT9.out.item.cell 4
            have r0 : wr.cell? ⟨w.heap.size, 0, none⟩ = some (.int .i64 0) := HT9.out.ans.cell 0
            have r1 : wr.cell? ⟨w.heap.size, 1, none⟩ = some (.int .i64 0) := HT9.out.ans.cell 1
            have r2 : wr.cell? ⟨w.heap.size, 2, none⟩ = some (.int .i64 0) := HT9.out.ans.cell 2
            have r3 : wr.cell? ⟨w.heap.size, 3, none⟩ = some (.slice none 0 0) := HT9.out.ans.cell 3
            have r4 : wr.cell? ⟨w.heap.size, 4, none⟩ = some (.slice none 0 0) := HT9.out.ans.cell 4
            have z0 := HT9.out.ans.frozen 0
            have z1 := HT9.out.ans.frozen 1
            have z2 := HT9.out.ans.frozen 2
            have z3 := HT9.out.ans.frozen 3
            have z4 := HT9.out.ans.frozen 4
            go_wp2_with fail
            obtain ⟨wF, hwF⟩ : ∃ wF, wF = put5b wr w.heap.size 0 x := ⟨_, rfl⟩
            have HOK : Hid (HpOk w hp v (os.foldl (pushP lessM) l) wF) := (HT9.out.done hwF).1
            have HBF : Hid (Blk wF w.heap.size (bmC x) 124) := (HT9.out.done hwF).2
            change bodyPost _ _ _ Exit.ret _ (put5b wr w.heap.size 0 x)
            rw [← hwF]
            clear hwF HT9 x0 x1 x2 x3 x4 r0 r1 r2 r3 r4 z0 z1 z2 z3 z4
            have f0 : wF.cell? ⟨w.heap.size, 0, none⟩ = some (I (x).b.o) := HBF.out.cell 0
            have f1 : wF.cell? ⟨w.heap.size, 1, none⟩ = some (I (x).b.s) := HBF.out.cell 1
            have f2 : wF.cell? ⟨w.heap.size, 2, none⟩ = some (I (x).b.t) := HBF.out.cell 2
            have f3 : wF.cell? ⟨w.heap.size, 3, none⟩ = some (.slice (x).ca (x).b.clock.length (x).cc) := HBF.out.cell 3
            have f4 : wF.cell? ⟨w.heap.size, 4, none⟩ = some (.slice (x).ea (x).b.effs.length (x).ec) := HBF.out.cell 4
            refine bodyPost_ret (v := .tuple #[bmV x, .bool true]) (by simp [results, Tryz.results117, go_sem, f0, f1, f2, f3, f4]) rfl ?_
            rw [HFT.out]
            exact ⟨rfl, HOK.out⟩


end Go.Proofs.YtfmcngncaffloaaGreatDoor

namespace Go.Proofs.YtfmcngncaffloaaGreatDoor
open Go.RowKit
set_option maxRecDepth 100000

/-- Where the first of them stands, or -1: all that is asked of it is whether there is one. -/
def IdxOk (w : World) (b : Bool) (e : Ending) (w' : World) : Prop := ∃ i : Int, e = .returned (I i) ∧ decide (0 ≤ i) = b ∧ Below w.heap.size w w'
theorem any_at {bs : List Bm} {f : Bm → Bool} (k : Nat) (hk : k < bs.length) (h : f bs[k] = true) : bs.any f = true := List.any_eq_true.2 ⟨_, List.getElem_mem hk, h⟩
theorem any_no {bs : List Bm} {f : Bm → Bool} (h : ∀ j (hj : j < bs.length), f bs[j] = false) : bs.any f = false := by
  rw [List.any_eq_false]
  intro x hx
  obtain ⟨j, hj, rfl⟩ := List.getElem_of_mem hx
  rw [h j hj]
  decide
set_option maxHeartbeats 1600000 in
theorem index_like (a : Option Addr) (c : Nat) (bs : List Bm) (y : Bm) (gb : Nat) (w : World) (h : w.ownsRow 0 124 5 (.slice a bs.length c) bs.length (flat Bm.cells bs)) (hg : Blk w gb (bmC y) 124) (hl : bs.length ≤ 1048576) :
    Calls Tryz.prog 210 #[.slice a bs.length c, .func (.func 163) #[] #[.pointer (some ⟨gb, 0, none⟩)]] w fun e w' => IdxOk w (bs.any fun m => likeB y.b m.b) e w' := by
  have HR : Hid (w.ownsRow 0 124 5 (.slice a bs.length c) bs.length (flat Bm.cells bs)) := h
  have HG : Hid (Blk w gb (bmC y) 124) := hg
  clear h hg
  go_enter Tryz.func210, Tryz.ntmps210
  go_wp2_with fail
  go_loopw [8] (fun x wr => ∃ k : Nat, k ≤ bs.length ∧ x = I k ∧ Hid (∀ j (hj : j < bs.length), j < k → likeB y.b bs[j].b = false) ∧ Hid (Below w.heap.size w wr)) (fun x _ => bs.length - (intOf x).toNat)
  case atStart => exact ⟨0, Nat.zero_le _, rfl, fun j hj h => absurd h (by omega), Below.refl _ _⟩
  case round =>
    obtain ⟨k, hk, rfl, HN, HB⟩ := hrel
    by_cases hlt : k < bs.length
    · have HRk : Hid (wr.ownsRow 0 124 5 (.slice a bs.length c) bs.length (flat Bm.cells bs)) := own_kept HR.out (fun g e => HB.out.block g (HR.out.lt g e).2)
      obtain ⟨g, rfl⟩ : ∃ g, a = some ⟨g, 0, none⟩ := by
        rcases HRk.out.2 with ⟨_, hz⟩ | ⟨g, cap, cur, e, _⟩
        · omega
        · cases e; exact ⟨g, rfl⟩
      obtain ⟨e0, e1, e2, e3, e4⟩ := bats_of HRk.out k hlt
      have hki : (k : Int) < bs.length := by omega
      obtain ⟨z, hz⟩ : ∃ z, bs[k] = z := ⟨_, rfl⟩
      have HZ : Hid (bs[k] = z) := hz
      rw [hz] at e0 e1 e2 e3 e4
      clear hz
      go_wp2_with fail
      refine (like1_any z y gb wr (HG.out.kept HB.out HG.out.lt)).mono ?_
      rintro e w1 ⟨rfl, hb1⟩
      have HB1 : Hid (Below w.heap.size w w1) := HB.out.trans (hb1.mono HB.out.size)
      clear hb1
      generalize hfk : likeB y.b z.b = b at *
      have HFK : Hid (likeB y.b z.b = b) := hfk
      clear hfk
      cases b
      · go_wp2_with fail
        go_roundw
        case rel =>
          refine ⟨k + 1, hlt, by go_num, fun j hj h => ?_, HB1⟩
          by_cases hjk : j = k
          · subst hjk; rw [HZ.out]; exact HFK.out
          · exact HN.out j hj (by omega)
        case measure => simp [intOf]; omega
      · have HI : Hid ((bs.any fun m => likeB y.b m.b) = true) := any_at k hlt (by show likeB y.b bs[k].b = true; rw [HZ.out]; exact HFK.out)
        go_wp2
        go_ret
        exact ⟨k, rfl, by rw [HI.out]; simp, HB1.out⟩
    · obtain rfl : k = bs.length := by omega
      have HI : Hid ((bs.any fun m => likeB y.b m.b) = false) := any_no (fun j hj => HN.out j hj hj)
      go_wp2
      go_ret
      exact ⟨-1, rfl, by rw [HI.out]; rfl, HB.out⟩
set_option maxHeartbeats 800000 in
theorem contains_like (a : Option Addr) (c : Nat) (bs : List Bm) (y : Bm) (gb : Nat) (w : World) (h : w.ownsRow 0 124 5 (.slice a bs.length c) bs.length (flat Bm.cells bs)) (hg : Blk w gb (bmC y) 124) (hl : bs.length ≤ 1048576) :
    Calls Tryz.prog 192 #[.slice a bs.length c, .func (.func 163) #[] #[.pointer (some ⟨gb, 0, none⟩)]] w fun e w' => e = .returned (.bool (bs.any fun m => likeB y.b m.b)) ∧ Below w.heap.size w w' := by
  go_enter Tryz.func192, Tryz.ntmps192
  go_wp2_with fail
  refine (index_like a c bs y gb w h hg hl).mono ?_
  rintro e w1 ⟨i, rfl, hi, hb⟩
  have HB : Hid (Below w.heap.size w w1) := hb
  have HI : Hid (decide (0 ≤ i) = bs.any fun m => likeB y.b m.b) := hi
  clear h hg hb hi
  go_wp2
  go_ret
  rw [← HI.out]
  exact ⟨rfl, HB.out⟩
set_option maxHeartbeats 800000 in
theorem has_like (hp : Nat) (v : Value) (bs : List Bm) (y : Bm) (gb : Nat) (w : World) (h : HpIn w hp v bs) (hg : Blk w gb (bmC y) 124) (hl : bs.length ≤ 1048576) :
    Calls Tryz.prog 167 #[.pointer (some ⟨hp, 0, none⟩), .func (.func 163) #[] #[.pointer (some ⟨gb, 0, none⟩)]] w fun e w' => e = .returned (.bool (bs.any fun m => likeB y.b m.b)) ∧ Below w.heap.size w w' := by
  obtain ⟨a, n, c, rfl⟩ := own_slice h.row
  obtain rfl : n = bs.length := by
    rcases h.row.2 with ⟨e, hz⟩ | ⟨g, cap, cur, e, _⟩
    · cases e; exact hz.symm
    · cases e; rfl
  have c0 : w.cell? ⟨hp, 0, none⟩ = some (.slice a bs.length c) := h.blk.cell 0
  have HC : Hid (Calls Tryz.prog 192 #[.slice a bs.length c, .func (.func 163) #[] #[.pointer (some ⟨gb, 0, none⟩)]] w fun e w' => e = .returned (.bool (bs.any fun m => likeB y.b m.b)) ∧ Below w.heap.size w w') := contains_like a c bs y gb w h.row hg hl
  clear h hg
  go_enter Tryz.func167, Tryz.ntmps167
  go_wp2_with fail
  refine HC.out.mono ?_
  rintro e w1 ⟨rfl, hb⟩
  have HB : Hid (Below w.heap.size w w1) := hb
  clear hb HC
  go_wp2
  go_ret
  exact ⟨rfl, HB.out⟩

end Go.Proofs.YtfmcngncaffloaaGreatDoor

namespace Go.Proofs.YtfmcngncaffloaaGreatDoor
open Go.RowKit
set_option maxRecDepth 100000

/-- A message. -/
structure Ms where
  k : Int
  f : Int
  t : Int
  bs : List UInt8
  sp : Bool
def Ms.cells (m : Ms) : List Value := [I m.k, I m.f, I m.t, .string ⟨m.bs.toArray⟩, .bool m.sp]
abbrev msV (m : Ms) : Value := .agg #[I m.k, I m.f, I m.t, .string ⟨m.bs.toArray⟩, .bool m.sp]
abbrev msC (m : Ms) : Array Value := #[I m.k, I m.f, I m.t, .string ⟨m.bs.toArray⟩, .bool m.sp]
theorem msCells_len (m : Ms) : m.cells.length = 5 := rfl
theorem ms_one (ls : List Ms) : ∀ u ∈ flat Ms.cells ls, u.oneCell' = true := by
  induction ls with
  | nil => intro u hu; simp [flat] at hu
  | cons m ls ih =>
    intro u hu
    simp only [flat, List.mem_append] at hu
    rcases hu with hu | hu
    · simp only [Ms.cells, List.mem_cons, List.not_mem_nil, or_false] at hu
      rcases hu with rfl | rfl | rfl | rfl | rfl <;> rfl
    · exact ih u hu
theorem infoMs : (Tryz.prog.info? 162).map (fun i => (i.zero, i.size, i.bytes)) = some (some (.agg #[.int .i64 0, .int .i64 0, .int .i64 0, .string ⟨#[]⟩, .bool false]), 5, 48) := by kernel_rfl
theorem flat_snocM (l : List Ms) (x : Ms) : flat Ms.cells (l ++ [x]) = flat Ms.cells l ++ x.cells := by
  rw [flat_append]
  show _ ++ (x.cells ++ []) = _
  rw [List.append_nil]
/-- What is under way, in memory. -/
structure PoIn (w : World) (own : Clr) (c pp ch : Nat) (pv : Value) (ms : List Ms) : Prop where
  blk : Blk w pp #[.chan (some ch), pv] 119
  chn : ∃ buf s r, w.heap[ch]? = some (.chan 40 buf false s r false) ∧ buf.size = ms.length
  row : w.ownsRow 0 162 5 pv ms.length (flat Ms.cells ms)
  own1 : own pp = c
  own2 : own ch = c
  own3 : ∀ g, pv.ownBlock = some g → own g = c
  most : ms.length ≤ 40
theorem PoIn.chlt {w : World} {own : Clr} {c pp ch : Nat} {pv : Value} {ms : List Ms} (h : PoIn w own c pp ch pv ms) : ch < w.heap.size := by
  obtain ⟨_, _, _, hc, _⟩ := h.chn
  exact (Array.getElem?_eq_some_iff.1 hc).1
theorem PoIn.keep {w w' : World} {own own' : Clr} {c pp ch : Nat} {pv : Value} {ms : List Ms} (h : PoIn w own c pp ch pv ms) (hs : Same own c w w') (he : Ext own own' w.heap.size) : PoIn w' own' c pp ch pv ms := by
  obtain ⟨buf, s, r, hc, hb⟩ := h.chn
  exact ⟨(hs pp h.blk.lt h.own1).trans h.blk, ⟨buf, s, r, (hs ch h.chlt h.own2).trans hc, hb⟩, own_kept h.row (fun g e => hs g (h.row.lt g e).2 (h.own3 g e)), (he pp h.blk.lt).trans h.own1, (he ch h.chlt).trans h.own2, fun g e => (he g (h.row.lt g e).2).trans (h.own3 g e), h.most⟩
/-- What a call leaves of what is under way. -/
def PoOk (w : World) (own : Clr) (c pp ch : Nat) (ms : List Ms) (w' : World) : Prop := ∃ own' pv', Ext own own' w.heap.size ∧ PoIn w' own' c pp ch pv' ms ∧ TchC own c w w'

set_option maxHeartbeats 1600000 in
theorem padd_room (own : Clr) (c pp ch : Nat) (pv : Value) (ms : List Ms) (m : Ms) (w : World) (h : PoIn w own c pp ch pv ms) (hl : ms.length < 40) :
    Calls Tryz.prog 81 #[.pointer (some ⟨pp, 0, none⟩), msV m] w fun e w' => e = .returned (.tuple #[]) ∧ PoOk w own c pp ch (ms ++ [m]) w' := by
  obtain ⟨wA, hwA⟩ : ∃ wA, wA = w.alloc (.cells (msC m) 162) := ⟨_, rfl⟩
  have HBA : Hid (Below w.heap.size w wA) := by rw [hwA]; exact (Below.refl _ _).alloc (Nat.le_refl _) _
  have HX : Hid (Blk wA w.heap.size (msC m) 162) := by rw [hwA]; exact heap_alloc_new w _
  have HP : Hid (PoIn wA own c pp ch pv ms) := h.keep (fun b hb _ => HBA.out.block b hb) (Ext.refl _ _)
  have HPW : Hid (PoIn w own c pp ch pv ms) := h
  have c0 : wA.cell? ⟨pp, 0, none⟩ = some (.chan (some ch)) := HP.out.blk.cell 0
  clear h
  refine calls_of_wpN Tryz.func81 rfl ?_
  simp only [Tryz.ntmps81, List.size_toArray, List.length_cons, List.length_nil, Nat.reduceAdd, Nat.reduceSub, Array.replicate_succ, Array.replicate_zero, List.push_toArray, List.append_toArray, List.nil_append, List.cons_append]
  refine wpN_seq (wpN_of ?_)
  go_wp2_with fail
  change wpN _ _ _ _ (w.alloc (.cells (msC m) 162))
  rw [← hwA]
  clear hwA
  refine wpN_seq (wpN_of ?_)
  go_wp2_with fail
  obtain ⟨buf, sn, rn, hch, hbuf⟩ := HP.out.chn
  refine wpN_seq (wpN_region ?_)
  change wpR _ _ _ [0, 1, 2] _ _
  refine wpR_comm (i := 0) (cases := #[Go.Conc.scase ch (.agg #[]) (.agg #[])]) (blocking := false) (shape := .select) (w1 := wA) rfl rfl (by simp [go_sem, execOp, Go.Conc.scase, Act.eval]) (fun fr cs es hs => Go.Conc.step_lone_select_send_room hs hch (by omega)) ?_
  simp only [Act.put, List.getElem_toArray, List.getElem_cons_zero, List.setIfInBounds_toArray, List.set_cons_succ, List.set_cons_zero]
  refine wpR_value (i := 1) rfl rfl (v := .int .i64 0) (w' := wA.setChan ch 40 (buf.push (.agg #[])) false (sn + 1) rn false) (by simp [go_sem, execOp, Act.eval]) ?_
  simp only [Act.put, List.getElem_toArray, List.getElem_cons_zero, List.getElem_cons_succ, List.setIfInBounds_toArray, List.set_cons_succ, List.set_cons_zero]
  refine wpR_value (i := 2) rfl rfl (v := .bool true) (w' := wA.setChan ch 40 (buf.push (.agg #[])) false (sn + 1) rn false) (by simp [go_sem, execOp, Act.eval]) ?_
  simp only [Act.put, List.getElem_toArray, List.getElem_cons_zero, List.getElem_cons_succ, List.setIfInBounds_toArray, List.set_cons_succ, List.set_cons_zero]
  refine wpR_end (wpN_of ?_)
  obtain ⟨w2, hw2⟩ : ∃ w2, w2 = wA.setChan ch 40 (buf.push (.agg #[])) false (sn + 1) rn false := ⟨_, rfl⟩
  have hT2 : Tch (fun k => k = ch) wA w2 := by rw [hw2]; exact (Tch.refl _ _).setChan _ _ _ _ _ _ _ (Or.inl rfl)
  have HC2 : Hid (∃ buf s r, w2.heap[ch]? = some (.chan 40 buf false s r false) ∧ buf.size = ms.length + 1) := ⟨_, _, _, by rw [hw2]; exact Go.Conc.heap_setChan _ _ _ _ _ _ _ _ HP.out.chlt, by simp [hbuf]⟩
  rw [← hw2]
  clear hw2 hch hbuf buf sn rn
  have hne1 : pp ≠ ch := by
    rintro rfl
    obtain ⟨_, _, _, hc, _⟩ := HP.out.chn
    cases HP.out.blk.symm.trans hc
  have HNG : Hid (¬ pv.ownBlock = some ch ∧ ¬ pv.ownBlock = some pp) := by
    obtain ⟨_, _, _, hc, _⟩ := HP.out.chn
    rcases HP.out.row.2 with ⟨rfl, _⟩ | ⟨g, cap, cur, rfl, _, hg, _, _, hcs, _⟩
    · exact ⟨by simp [Value.ownBlock], by simp [Value.ownBlock]⟩
    · refine ⟨fun e => ?_, fun e => ?_⟩
      · have e : g = ch := by simpa [Value.ownBlock] using e
        subst e
        cases hg.symm.trans hc
      · have e : g = pp := by simpa [Value.ownBlock] using e
        subst e
        have h9 := hg.symm.trans HP.out.blk
        simp at h9
  have HK2 : Hid (Blk w2 pp #[.chan (some ch), pv] 119) := hT2.blk HP.out.blk hne1
  have HX2 : Hid (Blk w2 w.heap.size (msC m) 162) := hT2.blk HX.out (by have := HPW.out.chlt; omega)
  have HR2 : Hid (w2.ownsRow 0 162 5 pv ms.length (flat Ms.cells ms)) := own_kept HP.out.row (fun g e => hT2.block g (HP.out.row.lt g e).2 (by rintro rfl; exact HNG.out.1 e))
  have HT2 : Hid (TchC own c w w2) := (Tch.below HBA.out).trans hT2 (fun _ _ h => h) (fun k _ e => by rw [e]; exact HPW.out.own2)
  have hs2 : w.heap.size < w2.heap.size := HX2.out.lt
  have hppw : pp < w.heap.size := HPW.out.blk.lt
  have hone : ∀ u ∈ m.cells, u.oneCell' = true := by have := ms_one [m]; simpa [flat] using this
  obtain ⟨i2, hi2, hy0, hy1, hy2⟩ := info_parts infoMs
  have HI2 : Hid (Tryz.prog.info? 162 = some i2 ∧ i2.zero = some (.agg #[.int .i64 0, .int .i64 0, .int .i64 0, .string ⟨#[]⟩, .bool false]) ∧ i2.size = 5 ∧ i2.bytes = 48) := ⟨hi2, hy0, hy1, hy2⟩
  clear hi2 hy0 hy1 hy2 hT2 c0
  have c1 : w2.cell? ⟨pp, 1, none⟩ = some pv := HK2.out.cell 1
  have x0 : w2.cell? ⟨w.heap.size, 0, none⟩ = some (I m.k) := HX2.out.cell 0
  have x1 : w2.cell? ⟨w.heap.size, 1, none⟩ = some (I m.f) := HX2.out.cell 1
  have x2 : w2.cell? ⟨w.heap.size, 2, none⟩ = some (I m.t) := HX2.out.cell 2
  have x3 : w2.cell? ⟨w.heap.size, 3, none⟩ = some (.string ⟨m.bs.toArray⟩) := HX2.out.cell 3
  have x4 : w2.cell? ⟨w.heap.size, 4, none⟩ = some (.bool m.sp) := HX2.out.cell 4
  have cA2 : (w2.alloc (.cells (msC m) 162)).cell? ⟨pp, 1, none⟩ = some pv := (HK2.out.alloc _).cell 1
  go_wp2_with fail
  go_region_law ((refine step_append_lies _ (by rfl) _ _ _ (by rfl) 0 162 i2 (.agg #[.int .i64 0, .int .i64 0, .int .i64 0, .string ⟨#[]⟩, .bool false]) 5 48 Tryz.underlying117 HI2.out.1 HI2.out.2.1 HI2.out.2.2.1 HI2.out.2.2.2 (by rfl) (by omega) pv ms.length (flat Ms.cells ms) (by rfl) (by first | exact HR2.out.alloc _ | exact (HR2.out.alloc _).drew | exact (HR2.out.drew).alloc _) ⟨w2.heap.size, 0, none⟩ 1 1 m.cells (by rfl) (by rfl) (by first | exact lit_any w2 _ _ | exact lit_drew w2 _ _) hone (by omega) (by unfold maxLen; omega) (by omega) (by omega) (w2.heap.size + 1) (by simp) ?_; intro g7 cap7 w7 hown7 hgrow7 hat7 hlt7; have HT7 : Hid (Tch (fun k => pv.ownBlock = some k) w2 w7) := (by first | exact ((Tch.refl _ w2).drew.alloc _).then (Tch.grown hgrow7) | exact ((Tch.refl _ w2).alloc _).then (Tch.grown hgrow7)); have HO7 : Hid (w7.ownsRow 0 162 5 (.slice (some ⟨g7, 0, none⟩) (ms.length + 1) cap7) (ms.length + 1) (flat Ms.cells ms ++ m.cells)) := hown7; have HA7 : Hid (pv.ownBlock = some g7 ∨ g7 = w2.heap.size + 1) := hat7; have HK7 : Hid (Blk w7 pp #[.chan (some ch), pv] 119) := HT7.out.blk HK2.out HNG.out.2; have c7 : w7.cell? ⟨pp, 1, none⟩ = some pv := HK7.out.cell 1; have z7 : w7.frozen? ⟨pp, 1, none⟩ = false := HK7.out.frozen 1; clear hown7 hgrow7 hat7 hlt7))
  all_goals
    (go_wp2_with fail
     have hpg : pp ≠ g7 := by
       rcases HA7.out with e | e
       · intro e2; rw [← e2] at e; exact HNG.out.2 e
       · omega
     have hcg : ch ≠ g7 := by
       rcases HA7.out with e | e
       · intro e2; rw [← e2] at e; exact HNG.out.1 e
       · have := HPW.out.chlt; omega
     have HE : Hid (PoOk w own c pp ch (ms ++ [m]) (w7.setCell ⟨pp, 1, none⟩ (.slice (some ⟨g7, 0, none⟩) (ms.length + 1) cap7))) := by
       have hlen : (ms ++ [m]).length = ms.length + 1 := by simp
       have hTT : TchC own c w w7 := HT2.out.trans HT7.out (fun _ _ h => h) (fun k hk e => HPW.out.own3 k e)
       refine ⟨newTo own w.heap.size c, .slice (some ⟨g7, 0, none⟩) (ms ++ [m]).length cap7, newTo_ext _ _ _, ⟨?_, ?_, ?_, ?_, ?_, ?_, by rw [hlen]; omega⟩, hTT.setCell _ _ (Or.inl HPW.out.own1)⟩
       · rw [hlen]; exact HK7.out.set 1 _
       · obtain ⟨buf, s, r, hc, hb⟩ := HC2.out
         have hclt : ch < w2.heap.size := (Array.getElem?_eq_some_iff.1 hc).1
         exact ⟨buf, s, r, by rw [heap_setCell_other _ ⟨pp, 1, none⟩ ch _ (by exact hne1.symm), HT7.out.block ch hclt HNG.out.1]; exact hc, by rw [hb, hlen]⟩
       · rw [hlen, flat_snocM]
         exact own_kept HO7.out (fun b e => heap_setCell_other _ ⟨pp, 1, none⟩ b _ (by cases e; exact hpg.symm))
       · exact (newTo_same _ _ _ _ HPW.out.blk.lt).trans HPW.out.own1
       · exact (newTo_same _ _ _ _ HPW.out.chlt).trans HPW.out.own2
       · intro g e
         cases e
         rcases HA7.out with e | e
         · exact (newTo_same _ _ _ _ (HPW.out.row.lt _ e).2).trans (HPW.out.own3 _ e)
         · exact newTo_new _ _ _ _ (by show w.heap.size ≤ g7; omega)
     clear HK7 HO7 HT7
     go_wp2
     go_end0
     exact ⟨rfl, HE.out⟩)

end Go.Proofs.YtfmcngncaffloaaGreatDoor

namespace Go.Proofs.YtfmcngncaffloaaGreatDoor
open Go.RowKit
set_option maxRecDepth 100000

theorem PoOk.from {w w5 w6 : World} {own : Clr} {c pp ch : Nat} {ms : List Ms} (hB : Below w.heap.size w w5) (h : PoOk w5 (newTo own w.heap.size 0) c pp ch ms w6) : PoOk w own c pp ch ms w6 := by
  obtain ⟨own', pv', hE, hR, hT⟩ := h
  refine ⟨own', pv', (newTo_ext own w.heap.size 0).trans hE hB.size, hR, (Tch.below hB).trans hT (fun _ _ h => h) (fun k hk h => ?_)⟩
  have h : newTo own w.heap.size 0 k = c := h
  rw [newTo_same _ _ _ _ hk] at h
  exact h
theorem PoIn.below {w w' : World} {own : Clr} {c pp ch : Nat} {pv : Value} {ms : List Ms} (h : PoIn w own c pp ch pv ms) (hB : Below w.heap.size w w') : PoIn w' (newTo own w.heap.size 0) c pp ch pv ms := h.keep (fun b hb _ => hB.block b hb) (newTo_ext _ _ _)
theorem own_sl {w : World} {base : Nat} {e : TypeId} {s n : Nat} {v : Value} {xs : List Value} (h : w.ownsRow base e s v n xs) : ∃ a c, v = .slice a n c := by
  rcases h.2 with ⟨rfl, rfl⟩ | ⟨g, cap, cur, rfl, _⟩
  · exact ⟨none, 0, rfl⟩
  · exact ⟨_, _, rfl⟩
theorem msgs_of {w : World} {base g cap n : Nat} {ms : List Ms} (h : w.ownsRow base 162 5 (.slice (some ⟨g, 0, none⟩) n cap) ms.length (flat Ms.cells ms)) (k : Nat) (hk : k < ms.length) :
    w.cell? ⟨g, k * 5, none⟩ = some (I ms[k].k) ∧ w.cell? ⟨g, k * 5 + 1, none⟩ = some (I ms[k].f) ∧ w.cell? ⟨g, k * 5 + 2, none⟩ = some (I ms[k].t) ∧ w.cell? ⟨g, k * 5 + 3, none⟩ = some (.string ⟨ms[k].bs.toArray⟩) ∧ w.cell? ⟨g, k * 5 + 4, none⟩ = some (.bool ms[k].sp) := by
  have hc := h.cells (g := g) rfl
  have hx : ∀ j (_ : j < 5) u, (ms[k].cells)[j]? = some u → w.cell? ⟨g, k * 5 + j, none⟩ = some u := fun j hj u hu => by
    have := hc (k * 5 + j) u ((flat_get Ms.cells 5 msCells_len ms k hk j hj).trans hu)
    simpa [Addr.add_lit] using this
  exact ⟨hx 0 (by omega) _ rfl, hx 1 (by omega) _ rfl, hx 2 (by omega) _ rfl, hx 3 (by omega) _ rfl, hx 4 (by omega) _ rfl⟩
theorem row_some {w : World} {base : Nat} {e : TypeId} {s n : Nat} {v : Value} {xs : List Value} (h : w.ownsRow base e s v n xs) (hn : 0 < n) : ∃ g c, v = .slice (some ⟨g, 0, none⟩) n c := by
  rcases h.2 with ⟨rfl, rfl⟩ | ⟨g, cap, cur, rfl, _⟩
  · omega
  · exact ⟨_, _, rfl⟩
set_option maxHeartbeats 800000 in
theorem psend_room (own : Clr) (c pp ch : Nat) (pv : Value) (ms : List Ms) (k f t : Int) (bs : List UInt8) (w : World) (h : PoIn w own c pp ch pv ms) (hl : ms.length < 40) :
    Calls Tryz.prog 74 #[.pointer (some ⟨pp, 0, none⟩), I k, I f, I t, .string ⟨bs.toArray⟩] w fun e w' => e = .returned (.tuple #[]) ∧ PoOk w own c pp ch (ms ++ [⟨k, f, t, bs, false⟩]) w' := by
  have HP : Hid (PoIn w own c pp ch pv ms) := h
  clear h
  go_enter Tryz.func74, Tryz.ntmps74
  go_wp2_with fail
  refine (padd_room own c pp ch pv ms ⟨k, f, t, bs, false⟩ w HP.out hl).mono ?_
  rintro e w1 ⟨rfl, h1⟩
  have HE : Hid (PoOk w own c pp ch (ms ++ [⟨k, f, t, bs, false⟩]) w1) := h1
  clear h1
  go_wp2
  go_end0
  exact ⟨rfl, HE.out⟩
set_option maxHeartbeats 800000 in
theorem phas_any (own : Clr) (c pp ch : Nat) (pv : Value) (ms : List Ms) (i : Int) (w : World) (h : PoIn w own c pp ch pv ms) :
    Calls Tryz.prog 77 #[.pointer (some ⟨pp, 0, none⟩), I i] w fun e w' => e = .returned (.bool (decide (0 ≤ i ∧ i < ms.length))) ∧ w' = w := by
  obtain ⟨a, cp, rfl⟩ := own_sl h.row
  have c1 : w.cell? ⟨pp, 1, none⟩ = some (.slice a ms.length cp) := h.blk.cell 1
  clear h
  obtain ⟨bq, HQ⟩ : ∃ bq, Hid (decide (0 ≤ i ∧ i < (ms.length : Int)) = bq) := ⟨_, rfl⟩
  rw [HQ.out]
  go_enter Tryz.func77, Tryz.ntmps77
  by_cases h0 : 0 ≤ i
  · by_cases h1 : i < (ms.length : Int)
    · have HD : Hid (true = bq) := (decide_eq_true (p := 0 ≤ i ∧ i < (ms.length : Int)) ⟨h0, h1⟩).symm.trans HQ.out
      clear HQ
      go_wp2
      go_ret
      exact ⟨by rw [← HD.out]; rfl, rfl⟩
    · have HD : Hid (false = bq) := (decide_eq_false (p := 0 ≤ i ∧ i < (ms.length : Int)) (fun h => h1 h.2)).symm.trans HQ.out
      clear HQ
      go_wp2
      go_ret
      exact ⟨by rw [← HD.out]; rfl, rfl⟩
  · have HD : Hid (false = bq) := (decide_eq_false (p := 0 ≤ i ∧ i < (ms.length : Int)) (fun h => h0 h.1)).symm.trans HQ.out
    clear HQ
    go_wp2
    go_ret
    exact ⟨by rw [← HD.out]; rfl, rfl⟩
end Go.Proofs.YtfmcngncaffloaaGreatDoor

namespace Go.Proofs.YtfmcngncaffloaaGreatDoor
open Go.RowKit
set_option maxRecDepth 100000

def mgCells (m : Ms) : List Value := [I m.k, I m.f, I m.t, .string ⟨m.bs.toArray⟩]
/-- The messages, in new memory. -/
def MsgsOk (w : World) (ms : List Ms) (e : Ending) (w' : World) : Prop := ∃ v, e = .returned v ∧ w'.ownsRow w.heap.size 59 4 v ms.length (flat mgCells ms) ∧ Below w.heap.size w w'

end Go.Proofs.YtfmcngncaffloaaGreatDoor

namespace Go.Proofs.YtfmcngncaffloaaGreatDoor
open Go.RowKit
set_option maxRecDepth 100000

/-- An append within a row that has room. -/
theorem run_append_row {P : Program} (w : World) (t ty elem : TypeId) (s g n cap : Nat) (a : Addr) (m c : Nat) (cur : Array Value) (tt : TypeId) (news : List Value) (hu : P.underlying t = some (.slice elem)) (hs : (P.info? elem).map (·.size) = some s) (hg : Blk w g cur tt) (hl : news.length = m * s) (hnews : ∀ j u, news[j]? = some u → w.cell? (a.add j) = some u) (h1 : ∀ u ∈ news, u.oneCell' = true) (hroom : n + m ≤ cap) (hfit : n * s + news.length ≤ cur.size) :
    (Builtin.append_ #[t, t] ty #[.slice (some ⟨g, 0, none⟩) n cap, .slice (some a) m c]).run P w = .ok (.slice (some ⟨g, 0, none⟩) (n + m) cap) (w.setRow g (cur.toList.take (n * s) ++ news ++ cur.toList.drop (n * s + news.length)).toArray) := by
  cases hq : P.info? elem with
  | none => simp [hq] at hs
  | some i =>
    have hi : i.size = s := by simpa [hq] using hs
    subst hi
    have hfc := run_firstCells_some (P := P) w i.size m a m c news hl hnews
    have hst := run_storeCells_at P g (n * i.size) tt news 0 cur w hg (by simpa using hfit) h1
    simp only [Nat.add_zero] at hst
    simp [Builtin.append_, run_underlying hu, sizeOf, typeInfo, hq, Builtin.lenOf, hroom, hfc, Addr.add_lit, hst]

theorem step_append_run {P : Program} {ops : Array Oper} {o : Oper} {a : Act} {w : World} {K : Act → World → Prop} {Q : Exit → Act → World → Prop} {E : Prop}
    (hg : o.guard = none) (d x : Operand) (t : TypeId) (hop : o.op = Op.call { callee := Callee.builtin Builtin.append, args := #[d, x], argTypes := #[t, t] })
    (v u : Value) (hd : a.eval d = v) (hx : a.eval x = u) {v' : Value} {w' : World} (hr : (Builtin.append_ #[t, t] o.type #[v, u]).run P w = .ok v' w') (hK : K (a.put o.dst v') w') :
    if Region.wanted o (yielded ops a.tmps) = true then Oper.wp P o a w K Q else E := by
  have hw : Region.wanted o (yielded ops a.tmps) = true := by simp [Region.wanted, hg]
  rw [if_pos hw]
  unfold Oper.wp
  simp [execOp, hop, resolve, invoke, builtin, hd, hx, hr, Result.andThen]
  exact hK
/-- 'clear' of some elements of a row. -/
theorem run_clear_row {P : Program} (w : World) (t ty elem : TypeId) (z : Value) (s g o n c : Nat) (cur : Array Value) (tt : TypeId) (hu : P.underlying t = some (.slice elem)) (hz : (P.info? elem).map (fun i => (i.zero, i.size)) = some (some z, s)) (hzs : z.cells.size = s) (h0 : 0 < s) (hg : Blk w g cur tt) (hn : 0 < n) (hfit : o + n * s ≤ cur.size) (h1 : ∀ u ∈ (Builtin.zeroCells z.cells n).toList, u.oneCell' = true) :
    (Builtin.clear_ #[t] ty #[.slice (some ⟨g, o, none⟩) n c]).run P w = .ok (.tuple #[]) (w.setRow g (cur.toList.take o ++ (Builtin.zeroCells z.cells n).toList ++ cur.toList.drop (o + (Builtin.zeroCells z.cells n).toList.length)).toArray) := by
  cases hq : P.info? elem with
  | none => simp [hq] at hz
  | some i =>
    simp only [hq, Option.map_some, Option.some.injEq, Prod.mk.injEq] at hz
    obtain ⟨hz1, rfl⟩ := hz
    obtain ⟨m, rfl⟩ : ∃ m, n = m + 1 := ⟨n - 1, by omega⟩
    have hlen : (Builtin.zeroCells z.cells (m + 1)).toList.length = (m + 1) * i.size := by simp [Builtin.zeroCells, hzs]
    have hst := run_storeCells_at P g o tt (Builtin.zeroCells z.cells (m + 1)).toList 0 cur w hg (by rw [hlen]; omega) h1
    simp only [Nat.add_zero] at hst
    simp [Builtin.clear_, run_underlying hu, zeroValue, typeInfo, hq, hz1, hst]
theorem flat_takeM {α : Type} (f : α → List Value) (n : Nat) (hf : ∀ x, (f x).length = n) (l : List α) (k : Nat) (hk : k ≤ l.length) : (flat f l).take (k * n) = flat f (l.take k) := by
  have h : flat f l = flat f (l.take k) ++ flat f (l.drop k) := by rw [← flat_append, List.take_append_drop]
  have hl : (flat f (l.take k)).length = k * n := by rw [flat_len f n hf, List.length_take, Nat.min_eq_left hk]
  rw [h, ← hl, List.take_left]
theorem flat_dropM {α : Type} (f : α → List Value) (n : Nat) (hf : ∀ x, (f x).length = n) (l : List α) (k : Nat) (hk : k ≤ l.length) : (flat f l).drop (k * n) = flat f (l.drop k) := by
  have h : flat f l = flat f (l.take k) ++ flat f (l.drop k) := by rw [← flat_append, List.take_append_drop]
  have hl : (flat f (l.take k)).length = k * n := by rw [flat_len f n hf, List.length_take, Nat.min_eq_left hk]
  rw [h, ← hl, List.drop_left]
theorem del_list (C : List Value) (ms : List Ms) (i : Nat) (hi : i < ms.length) (hC : C.take (ms.length * 5) = flat Ms.cells ms) : (C.take (i * 5) ++ flat Ms.cells (ms.drop (i + 1)) ++ C.drop (i * 5 + (flat Ms.cells (ms.drop (i + 1))).length)).take ((ms.eraseIdx i).length * 5) = flat Ms.cells (ms.eraseIdx i) := by
  have h1 : C.take (i * 5) = flat Ms.cells (ms.take i) := by
    rw [← flat_takeM Ms.cells 5 msCells_len ms i (by omega), ← hC, List.take_take, Nat.min_eq_left (by omega)]
  have h2 : flat Ms.cells (ms.take i) ++ flat Ms.cells (ms.drop (i + 1)) = flat Ms.cells (ms.eraseIdx i) := by rw [← flat_append, List.eraseIdx_eq_take_drop_succ]
  rw [h1, h2, ← flat_len Ms.cells 5 msCells_len, List.take_left]
theorem infoMs2 : (Tryz.prog.info? 162).map (fun i => (i.zero, i.size)) = some (some (.agg #[.int .i64 0, .int .i64 0, .int .i64 0, .string ⟨#[]⟩, .bool false]), 5) := by
  obtain ⟨i, h1, h2, h3, _⟩ := info_parts infoMs
  rw [h1, Option.map_some, h2, h3]
theorem infoMs3 : (Tryz.prog.info? 162).map (·.size) = some 5 := by
  obtain ⟨i, h1, h2, h3, _⟩ := info_parts infoMs
  rw [h1, Option.map_some, h3]
theorem zero_oneM (n : Nat) : ∀ u ∈ (Builtin.zeroCells (Value.cells (.agg #[.int .i64 0, .int .i64 0, .int .i64 0, .string ⟨#[]⟩, .bool false])) n).toList, u.oneCell' = true := by
  intro u hu
  simp only [Builtin.zeroCells, Array.toList_map, List.mem_map] at hu
  obtain ⟨i, _, rfl⟩ := hu
  have h : i % 5 < 5 := Nat.mod_lt _ (by decide)
  show (#[Value.int .i64 0, .int .i64 0, .int .i64 0, .string ⟨#[]⟩, .bool false][i % 5]!).oneCell' = true
  generalize i % 5 = r at h
  have : r = 0 ∨ r = 1 ∨ r = 2 ∨ r = 3 ∨ r = 4 := by omega
  rcases this with rfl | rfl | rfl | rfl | rfl <;> rfl
/-- What Delete's append makes of the row. -/
theorem del_append (g cp : Nat) (ms : List Ms) (i : Nat) (w : World) (h : w.ownsRow 0 162 5 (.slice (some ⟨g, 0, none⟩) ms.length cp) ms.length (flat Ms.cells ms)) (hi : i < ms.length) (ad : Addr) (c : Nat) (had : ms.length - (i + 1) = 0 ∨ ad = ⟨g, (i + 1) * 5, none⟩) :
    ∃ w' cur, (∀ ty, (Builtin.append_ #[117, 117] ty #[.slice (some ⟨g, 0, none⟩) i cp, .slice (some ad) (ms.length - (i + 1)) c]).run Tryz.prog w = .ok (.slice (some ⟨g, 0, none⟩) (i + (ms.length - (i + 1))) cp) w') ∧ Blk w' g cur 162 ∧ cur.size = cp * 5 ∧ cur.toList.take ((ms.eraseIdx i).length * 5) = flat Ms.cells (ms.eraseIdx i) ∧ Tch (fun k => k = g) w w' := by
  rcases h.2 with ⟨e, _⟩ | ⟨g', cap, cur, e, _, hg, h1, h2, h3, h4⟩
  · cases e
  · cases e
    have hln : (flat Ms.cells (ms.drop (i + 1))).length = (ms.length - (i + 1)) * 5 := by rw [flat_len Ms.cells 5 msCells_len, List.length_drop]
    refine ⟨_, _, fun ty => run_append_row (P := Tryz.prog) w _ ty _ 5 g i cp ad (ms.length - (i + 1)) c cur _ (flat Ms.cells (ms.drop (i + 1))) Tryz.underlying117 infoMs3 hg hln (fun j u hj => ?_) (ms_one _) (by omega) (by rw [hln, h3]; omega), setRow_heap w g cur _ _ _ hg, ?_, ?_, ⟨rfl, rfl, rfl, by simp, fun k _ hk => setRow_other w g k _ hk⟩⟩
    · rcases had with h0 | rfl
      · have hj2 := (List.getElem?_eq_some_iff.1 hj).1
        omega
      · have hjl := (List.getElem?_eq_some_iff.1 hj).1
        rw [Addr.add_lit, cell_of_row w g _ cur _ (0, 0) hg]
        have e1 : (flat Ms.cells ms)[(i + 1) * 5 + j]? = some u := by
          rw [← List.getElem?_drop, flat_dropM Ms.cells 5 msCells_len ms (i + 1) (by omega)]
          exact hj
        rw [← h4, List.getElem?_take_of_lt (by omega)] at e1
        simpa using e1
    · simp only [List.size_toArray, List.length_append, List.length_take, List.length_drop, Array.length_toList, hln, h3]
      omega
    · exact del_list cur.toList ms i hi h4

theorem wpList_clear_run {P : Program} (w : World) {ops : Array Oper} {rest : List Oper} {o : Oper} {a : Act} {Q : Exit → Act → World → Prop} (hgd : o.guard = none) (d : Operand) (t : TypeId)
    (ho : o.op = .call { callee := .builtin .clear, args := #[d], argTypes := #[t] }) (v : Value) (hd : a.eval d = v) {v' : Value} {w' : World}
    (hr : (Builtin.clear_ #[t] o.type #[v]).run P w = .ok v' w') (h : wpList P ops Q rest (a.put o.dst v') w') : wpList P ops Q (o :: rest) a w := by
  refine wpList_plain hgd fun K hK => ?_
  unfold Oper.wp execOp
  simp only [ho, resolve, invoke, builtin, Sem.run_bind, Sem.run_pure, Result.andThen_ok, List.map_toArray, List.map_cons, List.map_nil, hd, hr]
  exact hK _ _ h
/-- What Delete's clear makes of the row. -/
theorem del_clear (g cp N n : Nat) (xs : List Value) (cur : Array Value) (w : World) (hB : Blk w g cur 162) (hs : cur.size = cp * 5) (hk : cur.toList.take (N * 5) = xs) (hl : xs.length = N * 5) (hn : N + 1 = n) (hc : n ≤ cp) (hm : cp ≤ maxLen) (c : Nat) :
    ∃ w', (∀ ty, (Builtin.clear_ #[117] ty #[.slice (some ⟨g, N * 5, none⟩) (n - N) c]).run Tryz.prog w = .ok (.tuple #[]) w') ∧ w'.ownsRow 0 162 5 (.slice (some ⟨g, 0, none⟩) N cp) N xs ∧ Tch (fun k => k = g) w w' := by
  have hlen : (Builtin.zeroCells (Value.cells (.agg #[.int .i64 0, .int .i64 0, .int .i64 0, .string ⟨#[]⟩, .bool false])) (n - N)).toList.length = 5 := by
    have : n - N = 1 := by omega
    rw [this]
    simp [Builtin.zeroCells, Value.cells]
  refine ⟨_, fun ty => run_clear_row (P := Tryz.prog) w _ ty _ (.agg #[.int .i64 0, .int .i64 0, .int .i64 0, .string ⟨#[]⟩, .bool false]) 5 g (N * 5) (n - N) c cur _ Tryz.underlying117 infoMs2 rfl (by decide) hB (by omega) (by rw [hs]; omega) (zero_oneM _), ⟨hl, .inr ⟨g, cp, _, rfl, Nat.zero_le _, setRow_heap w g cur _ _ _ hB, by omega, hm, ?_, ?_⟩⟩, ⟨rfl, rfl, rfl, by simp, fun k _ hk => setRow_other w g k _ hk⟩⟩
  · simp only [List.size_toArray, List.length_append, List.length_take, List.length_drop, Array.length_toList, hlen, hs]
    omega
  · have h1 : (cur.toList.take (N * 5)).length = N * 5 := by rw [List.length_take, Array.length_toList, hs]; omega
    rw [List.append_assoc]
    show (cur.toList.take (N * 5) ++ _).take (N * 5) = xs
    rw [List.take_append_of_le_length (by omega), List.take_of_length_le (by omega)]
    exact hk
set_option maxHeartbeats 1600000 in
theorem pdel_any (g cp : Nat) (ms : List Ms) (i : Nat) (w : World) (h : w.ownsRow 0 162 5 (.slice (some ⟨g, 0, none⟩) ms.length cp) ms.length (flat Ms.cells ms)) (hi : i < ms.length) (hl : ms.length ≤ 40) :
    Calls Tryz.prog 78 #[.slice (some ⟨g, 0, none⟩) ms.length cp, I i, I ((i : Int) + 1)] w fun e w' => e = .returned (.slice (some ⟨g, 0, none⟩) (ms.eraseIdx i).length cp) ∧ w'.ownsRow 0 162 5 (.slice (some ⟨g, 0, none⟩) (ms.eraseIdx i).length cp) (ms.eraseIdx i).length (flat Ms.cells (ms.eraseIdx i)) ∧ Tch (fun k => k = g) w w' := by
  have HR : Hid (w.ownsRow 0 162 5 (.slice (some ⟨g, 0, none⟩) ms.length cp) ms.length (flat Ms.cells ms)) := h
  have hcp : ms.length ≤ cp ∧ cp ≤ maxLen := by
    rcases h.2 with ⟨e, _⟩ | ⟨g', cap, cur, e, _, _, h1, h2, _⟩
    · cases e
    · cases e; exact ⟨h1, h2⟩
  clear h
  obtain ⟨hcp1, hcp2⟩ := hcp
  have hcp3 : cp ≤ 9223372036854775807 := by unfold maxLen at hcp2; omega
  go_enter Tryz.func78, Tryz.ntmps78
  have hicp : i ≤ cp := by omega
  have hj1 : i + 1 ≤ ms.length := hi
  have hj2 : (i : Int) + 1 ≤ (ms.length : Int) := by omega
  have hj3 : (i : Int) ≤ (cp : Int) := by omega
  have hj4 : ((i : Int) + 1).toNat = i + 1 := by omega
  have hj5 : (0 : Int) ≤ (i : Int) + 1 := by omega
  have hj6 : ¬ (i : Int) + 1 < 0 := by omega
  have HEL : Hid ((ms.eraseIdx i).length = i + (ms.length - (i + 1))) := by show _ = _; rw [List.length_eraseIdx_of_lt hi]; omega
  have HIC : Hid (i ≤ cp) := hicp
  by_cases hcq : cp = i + 1
  · subst hcq
    have HMZ : Hid (ms.length - (i + 1) = 0) := by show _ = _; omega
    obtain ⟨w5, cur5, hAP, hB5, hs5, ht5, hT5⟩ := del_append g (i + 1) ms i w.drew HR.out.drew hi ⟨g, 0, none⟩ 0 (Or.inl HMZ.out)
    rw [HMZ.out] at hAP HEL
    have HAP : Hid (∀ ty, (Builtin.append_ #[117, 117] ty #[.slice (some ⟨g, 0, none⟩) i (i + 1), .slice (some ⟨g, 0, none⟩) 0 0]).run Tryz.prog w.drew = .ok (.slice (some ⟨g, 0, none⟩) i (i + 1)) w5) := hAP
    have HEL2 : Hid ((ms.eraseIdx i).length = i) := HEL.out
    have HB5 : Hid (Blk w5 g cur5 162) := hB5
    have HS5 : Hid (cur5.size = (i + 1) * 5) := hs5
    have HK5 : Hid (cur5.toList.take ((ms.eraseIdx i).length * 5) = flat Ms.cells (ms.eraseIdx i)) := ht5
    have HT5 : Hid (Tch (fun k => k = g) w w5) := (Tch.refl _ _).drew.then hT5
    clear hB5 hs5 ht5 hT5 hAP HEL
    have hj7 : (i : Int) ≤ (i : Int) + 1 := by omega
    go_wp2_with fail
    go_region_law (first | (refine step_append_run (by rfl) _ _ _ (by rfl) (.slice (some ⟨g, 0, none⟩) i (i + 1)) (.slice (some ⟨g, 0, none⟩) 0 0) (by rfl) (by rfl) (HAP.out _) ?_))
    clear HAP
    have HN4 : Hid (i + 1 = ms.length) := by show _ = _; omega
    have hN5 : (i : Int) ≤ (ms.length : Int) := by omega
    have hN6 : i ≤ ms.length := by omega
    have hN7 : ms.length ≤ i + 1 := by omega
    rw [HEL2.out] at HK5
    obtain ⟨w6, HCL, hO6, hT6⟩ := del_clear g (i + 1) i ms.length (flat Ms.cells (ms.eraseIdx i)) cur5 w5 HB5.out HS5.out HK5.out (by rw [flat_len Ms.cells 5 msCells_len, HEL2.out]) HN4.out hcp1 hcp2 1
    have HCL : Hid (∀ ty, (Builtin.clear_ #[117] ty #[.slice (some ⟨g, i * 5, none⟩) (ms.length - i) 1]).run Tryz.prog w5 = .ok (.tuple #[]) w6) := HCL
    have HO6 : Hid (w6.ownsRow 0 162 5 (.slice (some ⟨g, 0, none⟩) i (i + 1)) i (flat Ms.cells (ms.eraseIdx i))) := hO6
    have HT6 : Hid (Tch (fun k => k = g) w w6) := HT5.out.then hT6
    clear hO6 hT6 HB5 HS5 HK5 HT5 HR HN4
    go_wp2_with (first | (refine wpList_clear_run _ rfl _ _ rfl (.slice (some ⟨g, i * 5, none⟩) (ms.length - i) 1) rfl (HCL.out _) ?_))
    go_ret
    refine ⟨?_, ?_, HT6.out⟩
    · rw [HEL2.out]; rfl
    · rw [HEL2.out]; exact HO6.out
  · obtain ⟨w5, cur5, HAP, hB5, hs5, ht5, hT5⟩ := del_append g cp ms i w.drew HR.out.drew hi ⟨g, (i + 1) * 5, none⟩ (cp - (i + 1)) (Or.inr rfl)
    have HAP : Hid (∀ ty, (Builtin.append_ #[117, 117] ty #[.slice (some ⟨g, 0, none⟩) i cp, .slice (some ⟨g, (i + 1) * 5, none⟩) (ms.length - (i + 1)) (cp - (i + 1))]).run Tryz.prog w.drew = .ok (.slice (some ⟨g, 0, none⟩) (i + (ms.length - (i + 1))) cp) w5) := HAP
    have HB5 : Hid (Blk w5 g cur5 162) := hB5
    have HS5 : Hid (cur5.size = cp * 5) := hs5
    have HK5 : Hid (cur5.toList.take ((ms.eraseIdx i).length * 5) = flat Ms.cells (ms.eraseIdx i)) := ht5
    have HT5 : Hid (Tch (fun k => k = g) w w5) := (Tch.refl _ _).drew.then hT5
    clear hB5 hs5 ht5 hT5
    go_wp2_with fail
    go_region_law (first | (refine step_append_run (by rfl) _ _ _ (by rfl) (.slice (some ⟨g, 0, none⟩) i cp) (.slice (some ⟨g, (i + 1) * 5, none⟩) (ms.length - (i + 1)) (cp - (i + 1))) (by rfl) (by rfl) (HAP.out _) ?_))
    clear HAP
    obtain ⟨N, HN⟩ : ∃ N, Hid (i + (ms.length - (i + 1)) = N) := ⟨_, rfl⟩
    rw [HN.out] at HEL ⊢
    have hN1 : N ≤ ms.length := by have := HN.out; omega
    have hN2 : N ≤ cp := by omega
    have hN3 : ¬ cp = N := by have := HN.out; omega
    have HN4 : Hid (N + 1 = ms.length) := by have := HN.out; show _ = _; omega
    have hN5 : (N : Int) ≤ (ms.length : Int) := by omega
    rw [HEL.out] at HK5
    obtain ⟨w6, HCL, hO6, hT6⟩ := del_clear g cp N ms.length (flat Ms.cells (ms.eraseIdx i)) cur5 w5 HB5.out HS5.out HK5.out (by rw [flat_len Ms.cells 5 msCells_len, HEL.out]) HN4.out hcp1 hcp2 (cp - N)
    have HCL : Hid (∀ ty, (Builtin.clear_ #[117] ty #[.slice (some ⟨g, N * 5, none⟩) (ms.length - N) (cp - N)]).run Tryz.prog w5 = .ok (.tuple #[]) w6) := HCL
    have HO6 : Hid (w6.ownsRow 0 162 5 (.slice (some ⟨g, 0, none⟩) N cp) N (flat Ms.cells (ms.eraseIdx i))) := hO6
    have HT6 : Hid (Tch (fun k => k = g) w w6) := HT5.out.then hT6
    clear hO6 hT6 HB5 HS5 HK5 HT5 HN HR HN4
    go_wp2_with (first | (refine wpList_clear_run _ rfl _ _ rfl (.slice (some ⟨g, N * 5, none⟩) (ms.length - N) (cp - N)) rfl (HCL.out _) ?_))
    go_ret
    refine ⟨?_, ?_, HT6.out⟩
    · rw [HEL.out]; rfl
    · rw [HEL.out]; exact HO6.out

end Go.Proofs.YtfmcngncaffloaaGreatDoor

namespace Go.Proofs.YtfmcngncaffloaaGreatDoor
open Go.RowKit
set_option maxRecDepth 100000

theorem tch_setP (w : World) (p j : Nat) (u : Value) : Tch (fun k => k = p) w (w.setCell ⟨p, j, none⟩ u) := (Tch.refl _ _).setCell ⟨p, j, none⟩ u (Or.inl rfl)
set_option maxHeartbeats 800000 in
theorem ptake_no (own : Clr) (c pp ch : Nat) (pv : Value) (ms : List Ms) (i : Int) (w : World) (h : PoIn w own c pp ch pv ms) (hi : ¬ (0 ≤ i ∧ i < ms.length)) :
    Calls Tryz.prog 50 #[.pointer (some ⟨pp, 0, none⟩), I i] w fun e w' => e = .returned (.tuple #[.agg #[.int .i64 0, .int .i64 0, .int .i64 0, .string ⟨#[]⟩], I 14]) ∧ Below w.heap.size w w' := by
  obtain ⟨wA, hwA⟩ : ∃ wA, wA = w.alloc (.cells #[.int .i64 0, .int .i64 0, .int .i64 0, .string ⟨#[]⟩] 59) := ⟨_, rfl⟩
  have HBA : Hid (Below w.heap.size w wA) := by rw [hwA]; exact (Below.refl _ _).alloc (Nat.le_refl _) _
  have HX : Hid (Blk wA w.heap.size #[.int .i64 0, .int .i64 0, .int .i64 0, .string ⟨#[]⟩] 59) := by rw [hwA]; exact heap_alloc_new w _
  have HP : Hid (PoIn wA own c pp ch pv ms) := h.keep (fun b hb _ => HBA.out.block b hb) (Ext.refl _ _)
  have hd : decide (0 ≤ i ∧ i < (ms.length : Int)) = false := decide_eq_false hi
  clear h hi
  go_enter Tryz.func50, Tryz.ntmps50
  go_wp2_with fail
  change Calls _ _ _ (w.alloc (.cells #[.int .i64 0, .int .i64 0, .int .i64 0, .string ⟨#[]⟩] 59)) _
  rw [← hwA]
  clear hwA
  refine (phas_any own c pp ch _ ms i wA HP.out).mono ?_
  rintro e w1 ⟨rfl, hw1⟩
  subst hw1
  rw [hd]
  have x0 : w1.cell? ⟨w.heap.size, 0, none⟩ = some (.int .i64 0) := HX.out.cell 0
  have x1 : w1.cell? ⟨w.heap.size, 1, none⟩ = some (.int .i64 0) := HX.out.cell 1
  have x2 : w1.cell? ⟨w.heap.size, 2, none⟩ = some (.int .i64 0) := HX.out.cell 2
  have x3 : w1.cell? ⟨w.heap.size, 3, none⟩ = some (.string ⟨#[]⟩) := HX.out.cell 3
  have z0 := HX.out.frozen 0
  have z1 := HX.out.frozen 1
  have z2 := HX.out.frozen 2
  have z3 := HX.out.frozen 3
  go_wp2_with fail
  obtain ⟨w6, hw6⟩ : ∃ w6, w6 = (((w1.setCell ⟨w.heap.size, 0, none⟩ (.int .i64 0)).setCell ⟨w.heap.size, 1, none⟩ (.int .i64 0)).setCell ⟨w.heap.size, 2, none⟩ (.int .i64 0)).setCell ⟨w.heap.size, 3, none⟩ (.string ⟨#[]⟩) := ⟨_, rfl⟩
  change bodyPost _ _ _ Exit.ret _ ((((w1.setCell ⟨w.heap.size, 0, none⟩ (.int .i64 0)).setCell ⟨w.heap.size, 1, none⟩ (.int .i64 0)).setCell ⟨w.heap.size, 2, none⟩ (.int .i64 0)).setCell ⟨w.heap.size, 3, none⟩ (.string ⟨#[]⟩))
  rw [← hw6]
  have HX6 : Hid (Blk w6 w.heap.size #[.int .i64 0, .int .i64 0, .int .i64 0, .string ⟨#[]⟩] 59) := by rw [hw6]; exact (((HX.out.set 0 _).set 1 _).set 2 _).set 3 _
  have HB6 : Hid (Below w.heap.size w w6) := by rw [hw6]; exact (((HBA.out.setCell (Nat.le_refl _) _).setCell (Nat.le_refl _) _).setCell (Nat.le_refl _) _).setCell (Nat.le_refl _) _
  clear hw6 x0 x1 x2 x3 z0 z1 z2 z3
  have f0 : w6.cell? ⟨w.heap.size, 0, none⟩ = some (.int .i64 0) := HX6.out.cell 0
  have f1 : w6.cell? ⟨w.heap.size, 1, none⟩ = some (.int .i64 0) := HX6.out.cell 1
  have f2 : w6.cell? ⟨w.heap.size, 2, none⟩ = some (.int .i64 0) := HX6.out.cell 2
  have f3 : w6.cell? ⟨w.heap.size, 3, none⟩ = some (.string ⟨#[]⟩) := HX6.out.cell 3
  exact bodyPost_ret (v := .tuple #[.agg #[.int .i64 0, .int .i64 0, .int .i64 0, .string ⟨#[]⟩], I 14]) (by simp [results, Tryz.results50, go_sem, f0, f1, f2, f3]) rfl ⟨rfl, HB6.out⟩
set_option maxHeartbeats 1600000 in
theorem ptake_yes (own : Clr) (c pp ch : Nat) (pv : Value) (ms : List Ms) (i : Nat) (m : Ms) (w : World) (h : PoIn w own c pp ch pv ms) (hi : ms[i]? = some m) :
    Calls Tryz.prog 50 #[.pointer (some ⟨pp, 0, none⟩), I i] w fun e w' => e = .returned (.tuple #[.agg #[I m.k, I m.f, I m.t, .string ⟨m.bs.toArray⟩], I 0]) ∧ PoOk w own c pp ch (ms.eraseIdx i) w' := by
  obtain ⟨hk, rfl⟩ := List.getElem?_eq_some_iff.1 hi
  obtain ⟨g, cp, rfl⟩ := row_some h.row (by omega)
  have HPW : Hid (PoIn w own c pp ch (.slice (some ⟨g, 0, none⟩) ms.length cp) ms) := h
  obtain ⟨wA, hwA⟩ : ∃ wA, wA = w.alloc (.cells #[.int .i64 0, .int .i64 0, .int .i64 0, .string ⟨#[]⟩] 59) := ⟨_, rfl⟩
  have HBA : Hid (Below w.heap.size w wA) := by rw [hwA]; exact (Below.refl _ _).alloc (Nat.le_refl _) _
  have HX : Hid (Blk wA w.heap.size #[.int .i64 0, .int .i64 0, .int .i64 0, .string ⟨#[]⟩] 59) := by rw [hwA]; exact heap_alloc_new w _
  have HP : Hid (PoIn wA own c pp ch (.slice (some ⟨g, 0, none⟩) ms.length cp) ms) := h.keep (fun b hb _ => HBA.out.block b hb) (Ext.refl _ _)
  have c1 : wA.cell? ⟨pp, 1, none⟩ = some (.slice (some ⟨g, 0, none⟩) ms.length cp) := HP.out.blk.cell 1
  obtain ⟨e0, e1, e2, e3, e4⟩ := msgs_of HP.out.row i hk
  have hd : decide (0 ≤ (i : Int) ∧ (i : Int) < (ms.length : Int)) = true := decide_eq_true ⟨by omega, by omega⟩
  have hki : (i : Int) < ms.length := by omega
  have HML : Hid (ms.length ≤ 40) := h.most
  clear h hi
  generalize ms[i] = m at *
  refine calls_of_wpN Tryz.func50 rfl ?_
  simp only [Tryz.ntmps50, List.size_toArray, List.length_cons, List.length_nil, Nat.reduceAdd, Nat.reduceSub, Array.replicate_succ, Array.replicate_zero, List.push_toArray, List.append_toArray, List.nil_append, List.cons_append]
  refine wpN_seq (wpN_of ?_)
  go_wp2_with fail
  change wpN _ _ _ _ (w.alloc (.cells #[.int .i64 0, .int .i64 0, .int .i64 0, .string ⟨#[]⟩] 59))
  rw [← hwA]
  clear hwA
  refine wpN_seq (wpN_of ?_)
  go_wp2_with fail
  refine (phas_any own c pp ch _ ms i wA HP.out).mono ?_
  rintro e w1 ⟨rfl, hw1⟩
  subst hw1
  rw [hd]
  go_wp2_with fail
  refine wpN_seq (wpN_of ?_)
  go_wp2_with fail
  obtain ⟨w2, hw2⟩ : ∃ w2, w2 = w1.alloc (.cells (msC m) 162) := ⟨_, rfl⟩
  change wpN _ _ _ _ (w1.alloc (.cells (msC m) 162))
  rw [← hw2]
  have HB2 : Hid (Below w1.heap.size w1 w2) := by rw [hw2]; exact (Below.refl _ _).alloc (Nat.le_refl _) _
  have HM2 : Hid (Blk w2 w1.heap.size (msC m) 162) := by rw [hw2]; exact heap_alloc_new w1 _
  have HP2 : Hid (PoIn w2 own c pp ch (.slice (some ⟨g, 0, none⟩) ms.length cp) ms) := HP.out.keep (fun b hb _ => HB2.out.block b hb) (Ext.refl _ _)
  have HX2 : Hid (Blk w2 w.heap.size #[.int .i64 0, .int .i64 0, .int .i64 0, .string ⟨#[]⟩] 59) := HX.out.kept HB2.out HX.out.lt
  have hs1 : w.heap.size < w1.heap.size := HX.out.lt
  clear hw2 c1 e0 e1 e2 e3 e4 HP HX
  have c1 : w2.cell? ⟨pp, 1, none⟩ = some (.slice (some ⟨g, 0, none⟩) ms.length cp) := HP2.out.blk.cell 1
  have hwr : IntKind.i64.wrap ((i : Int) + 1) = (i : Int) + 1 := by have := HML.out; rw [IntKind.wrap_i64]; omega
  refine wpN_seq (wpN_of ?_)
  go_wp2_with fail
  refine (pdel_any g cp ms i w2 HP2.out.row hk HML.out).mono ?_
  rintro e w3 ⟨rfl, hO3, hT3⟩
  have hgp : g ≠ pp := by
    rintro rfl
    rcases HP2.out.row.2 with ⟨e, _⟩ | ⟨g', cap, cur, e, _, hg, _⟩
    · cases e
    · cases e
      have h9 := hg.symm.trans HP2.out.blk
      simp at h9
  have hgc : g ≠ ch := by
    rintro rfl
    obtain ⟨_, _, _, hc, _⟩ := HP2.out.chn
    rcases HP2.out.row.2 with ⟨e, _⟩ | ⟨g', cap, cur, e, _, hg, _⟩
    · cases e
    · cases e
      cases hg.symm.trans hc
  have hpc : pp ≠ ch := by
    rintro rfl
    obtain ⟨_, _, _, hc, _⟩ := HP2.out.chn
    cases HP2.out.blk.symm.trans hc
  have hgw : g < w.heap.size := (HPW.out.row.lt g rfl).2
  have hcw : ch < w.heap.size := HPW.out.chlt
  have hpw : pp < w.heap.size := HPW.out.blk.lt
  have HO3 : Hid (w3.ownsRow 0 162 5 (.slice (some ⟨g, 0, none⟩) (ms.eraseIdx i).length cp) (ms.eraseIdx i).length (flat Ms.cells (ms.eraseIdx i))) := hO3
  have HT3 : Hid (Tch (fun k => k = g) w2 w3) := hT3
  have HK3 : Hid (Blk w3 pp #[.chan (some ch), .slice (some ⟨g, 0, none⟩) ms.length cp] 119) := hT3.blk HP2.out.blk (by omega)
  have HM3 : Hid (Blk w3 w1.heap.size (msC m) 162) := hT3.blk HM2.out (by omega)
  have HX3 : Hid (Blk w3 w.heap.size #[.int .i64 0, .int .i64 0, .int .i64 0, .string ⟨#[]⟩] 59) := hT3.blk HX2.out (by omega)
  obtain ⟨buf, sn, rn, hch0, hbuf⟩ := HP2.out.chn
  have hch3 : w3.heap[ch]? = some (.chan 40 buf false sn rn false) := (hT3.block ch HP2.out.chlt (by omega)).trans hch0
  clear hO3 hT3 c1 hch0 HM2 HX2
  have c1 : w3.cell? ⟨pp, 1, none⟩ = some (.slice (some ⟨g, 0, none⟩) ms.length cp) := HK3.out.cell 1
  have z1 : w3.frozen? ⟨pp, 1, none⟩ = false := HK3.out.frozen 1
  go_wp2_with fail
  obtain ⟨w4, hw4⟩ : ∃ w4, w4 = w3.setCell ⟨pp, 1, none⟩ (.slice (some ⟨g, 0, none⟩) (ms.eraseIdx i).length cp) := ⟨_, rfl⟩
  rw [← hw4]
  have hT4 : Tch (fun k => k = pp) w3 w4 := by rw [hw4]; exact tch_setP w3 pp 1 _
  have HK4 : Hid (Blk w4 pp #[.chan (some ch), .slice (some ⟨g, 0, none⟩) (ms.eraseIdx i).length cp] 119) := by rw [hw4]; exact HK3.out.set 1 _
  have HM4 : Hid (Blk w4 w1.heap.size (msC m) 162) := hT4.blk HM3.out (by omega)
  have HX4 : Hid (Blk w4 w.heap.size #[.int .i64 0, .int .i64 0, .int .i64 0, .string ⟨#[]⟩] 59) := hT4.blk HX3.out (by omega)
  have hch4 : w4.heap[ch]? = some (.chan 40 buf false sn rn false) := (hT4.block ch (Array.getElem?_eq_some_iff.1 hch3).1 (by omega)).trans hch3
  have HO4 : Hid (w4.ownsRow 0 162 5 (.slice (some ⟨g, 0, none⟩) (ms.eraseIdx i).length cp) (ms.eraseIdx i).length (flat Ms.cells (ms.eraseIdx i))) := own_kept HO3.out (fun k e => hT4.block k (HO3.out.lt k e).2 (by cases e; exact hgp))
  have HT4 : Hid (Tch (fun k => k = g ∨ k = pp) w w4) := ((Tch.below HBA.out).then (Tch.below (F := fun k => k = g ∨ k = pp) HB2.out)).trans (HT3.out.trans hT4 (fun _ _ h => Or.inl h) (fun _ _ h => Or.inr h)) (fun _ _ h => h) (fun _ _ h => h)
  clear hw4 hT4 HK3 HM3 HX3 HO3 HT3 hch3 c1 z1
  have c0 : w4.cell? ⟨pp, 0, none⟩ = some (.chan (some ch)) := HK4.out.cell 0
  refine wpN_seq (wpN_region ?_)
  change wpR _ _ _ [0, 1, 2, 3, 4] _ _
  refine wpR_value (i := 0) rfl rfl (v := .pointer (some ⟨pp, 0, none⟩)) (w' := w4) (by simp [go_sem, execOp, Act.eval]) ?_
  simp only [Act.put, List.getElem_toArray, List.getElem_cons_zero, List.setIfInBounds_toArray, List.set_cons_succ, List.set_cons_zero]
  refine wpR_value (i := 1) rfl rfl (v := .pointer (some ⟨pp, 0, none⟩)) (w' := w4) (by simp [go_sem, execOp, Act.eval]) ?_
  simp only [Act.put, List.getElem_toArray, List.getElem_cons_zero, List.getElem_cons_succ, List.setIfInBounds_toArray, List.set_cons_succ, List.set_cons_zero]
  refine wpR_value (i := 2) rfl rfl (v := .pointer (some ⟨pp, 0, none⟩)) (w' := w4) (by simp [go_sem, execOp, Act.eval]) ?_
  simp only [Act.put, List.getElem_toArray, List.getElem_cons_zero, List.getElem_cons_succ, List.setIfInBounds_toArray, List.set_cons_succ, List.set_cons_zero]
  refine wpR_value (i := 3) rfl rfl (v := .chan (some ch)) (w' := w4) (by simp [go_sem, execOp, Act.eval, c0]) ?_
  simp only [Act.put, List.getElem_toArray, List.getElem_cons_zero, List.getElem_cons_succ, List.setIfInBounds_toArray, List.set_cons_succ, List.set_cons_zero]
  refine wpR_comm (i := 4) (cases := #[Go.Conc.rcase ch (.agg #[])]) (blocking := true) (shape := .recv false) (w1 := w4) rfl rfl (by simp [go_sem, execOp, Go.Conc.rcase, Act.eval]) (fun fr cs es hs => Go.Conc.step_lone_recv_buf false hs hch4 (by omega)) ?_
  simp only [Act.put, List.getElem_toArray, List.getElem_cons_zero, List.getElem_cons_succ, List.setIfInBounds_toArray, List.set_cons_succ, List.set_cons_zero]
  refine wpR_end (wpN_of ?_)
  obtain ⟨w5, hw5⟩ : ∃ w5, w5 = w4.setChan ch 40 (buf.extract 1 buf.size) false sn (rn + 1) false := ⟨_, rfl⟩
  change Code.wp _ _ _ _ (w4.setChan ch 40 (buf.extract 1 buf.size) false sn (rn + 1) false)
  rw [← hw5]
  have hT5 : Tch (fun k => k = ch) w4 w5 := by rw [hw5]; exact (Tch.refl _ _).setChan _ _ _ _ _ _ _ (Or.inl rfl)
  have HLE : Hid ((ms.eraseIdx i).length + 1 = ms.length) := by show _ = _; rw [List.length_eraseIdx_of_lt hk]; omega
  have HC5 : Hid (∃ buf s r, w5.heap[ch]? = some (.chan 40 buf false s r false) ∧ buf.size = (ms.eraseIdx i).length) := ⟨_, _, _, by rw [hw5]; exact Go.Conc.heap_setChan _ _ _ _ _ _ _ _ (Array.getElem?_eq_some_iff.1 hch4).1, by have := HLE.out; simp; omega⟩
  have HK5 : Hid (Blk w5 pp #[.chan (some ch), .slice (some ⟨g, 0, none⟩) (ms.eraseIdx i).length cp] 119) := hT5.blk HK4.out (by omega)
  have HM5 : Hid (Blk w5 w1.heap.size (msC m) 162) := hT5.blk HM4.out (by omega)
  have HX5 : Hid (Blk w5 w.heap.size #[.int .i64 0, .int .i64 0, .int .i64 0, .string ⟨#[]⟩] 59) := hT5.blk HX4.out (by omega)
  have HO5 : Hid (w5.ownsRow 0 162 5 (.slice (some ⟨g, 0, none⟩) (ms.eraseIdx i).length cp) (ms.eraseIdx i).length (flat Ms.cells (ms.eraseIdx i))) := own_kept HO4.out (fun k e => hT5.block k (HO4.out.lt k e).2 (by cases e; exact hgc))
  have HT5 : Hid (TchC own c w w5) := HT4.out.trans hT5 (fun k _ h => by
    rcases h with h | h
    · rw [h]; exact HPW.out.own3 g rfl
    · rw [h]; exact HPW.out.own1) (fun k _ h => by rw [h]; exact HPW.out.own2)
  clear hw5 hT5 HK4 HM4 HX4 HO4 HT4 hch4 c0 hbuf
  generalize Conc.got false (buf.getD 0 undef) true = gv at *
  have m0 : w5.cell? ⟨w1.heap.size, 0, none⟩ = some (I m.k) := HM5.out.cell 0
  have m1 : w5.cell? ⟨w1.heap.size, 1, none⟩ = some (I m.f) := HM5.out.cell 1
  have m2 : w5.cell? ⟨w1.heap.size, 2, none⟩ = some (I m.t) := HM5.out.cell 2
  have m3 : w5.cell? ⟨w1.heap.size, 3, none⟩ = some (.string ⟨m.bs.toArray⟩) := HM5.out.cell 3
  have x0 : w5.cell? ⟨w.heap.size, 0, none⟩ = some (.int .i64 0) := HX5.out.cell 0
  have x1 : w5.cell? ⟨w.heap.size, 1, none⟩ = some (.int .i64 0) := HX5.out.cell 1
  have x2 : w5.cell? ⟨w.heap.size, 2, none⟩ = some (.int .i64 0) := HX5.out.cell 2
  have x3 : w5.cell? ⟨w.heap.size, 3, none⟩ = some (.string ⟨#[]⟩) := HX5.out.cell 3
  have z0 := HX5.out.frozen 0
  have z1 := HX5.out.frozen 1
  have z2 := HX5.out.frozen 2
  have z3 := HX5.out.frozen 3
  go_wp2_with fail
  obtain ⟨w6, hw6⟩ : ∃ w6, w6 = (((w5.setCell ⟨w.heap.size, 0, none⟩ (I m.k)).setCell ⟨w.heap.size, 1, none⟩ (I m.f)).setCell ⟨w.heap.size, 2, none⟩ (I m.t)).setCell ⟨w.heap.size, 3, none⟩ (.string ⟨m.bs.toArray⟩) := ⟨_, rfl⟩
  change bodyPost _ _ _ Exit.ret _ ((((w5.setCell ⟨w.heap.size, 0, none⟩ (I m.k)).setCell ⟨w.heap.size, 1, none⟩ (I m.f)).setCell ⟨w.heap.size, 2, none⟩ (I m.t)).setCell ⟨w.heap.size, 3, none⟩ (.string ⟨m.bs.toArray⟩))
  rw [← hw6]
  have hT6 : Tch (fun k => k = w.heap.size) w5 w6 := by rw [hw6]; exact ((((Tch.refl (fun k => k = w.heap.size) w5).setCell ⟨w.heap.size, 0, none⟩ _ (Or.inl rfl)).setCell ⟨w.heap.size, 1, none⟩ _ (Or.inl rfl)).setCell ⟨w.heap.size, 2, none⟩ _ (Or.inl rfl)).setCell ⟨w.heap.size, 3, none⟩ _ (Or.inl rfl)
  have HX6 : Hid (Blk w6 w.heap.size #[I m.k, I m.f, I m.t, .string ⟨m.bs.toArray⟩] 59) := by rw [hw6]; exact (((HX5.out.set 0 _).set 1 _).set 2 _).set 3 _
  have HE : Hid (PoOk w own c pp ch (ms.eraseIdx i) w6) := by
    refine ⟨newTo own w.heap.size 0, .slice (some ⟨g, 0, none⟩) (ms.eraseIdx i).length cp, newTo_ext _ _ _, ⟨hT6.blk HK5.out (by omega), ?_, own_kept HO5.out (fun k e => hT6.block k (HO5.out.lt k e).2 (by cases e; show ¬ g = _; omega)), (newTo_same _ _ _ _ hpw).trans HPW.out.own1, (newTo_same _ _ _ _ hcw).trans HPW.out.own2, fun k e => ?_, ?_⟩, HT5.out.trans hT6 (fun _ _ h => h) (fun k hk e => by have e : k = w.heap.size := e; omega)⟩
    · obtain ⟨b, s, r, h1, h2⟩ := HC5.out
      exact ⟨b, s, r, (hT6.block ch (Array.getElem?_eq_some_iff.1 h1).1 (by omega)).trans h1, h2⟩
    · cases e
      exact (newTo_same _ _ _ _ hgw).trans (HPW.out.own3 g rfl)
    · have := HLE.out; have := HML.out; omega
  clear hw6 hT6 x0 x1 x2 x3 z0 z1 z2 z3
  have f0 : w6.cell? ⟨w.heap.size, 0, none⟩ = some (I m.k) := HX6.out.cell 0
  have f1 : w6.cell? ⟨w.heap.size, 1, none⟩ = some (I m.f) := HX6.out.cell 1
  have f2 : w6.cell? ⟨w.heap.size, 2, none⟩ = some (I m.t) := HX6.out.cell 2
  have f3 : w6.cell? ⟨w.heap.size, 3, none⟩ = some (.string ⟨m.bs.toArray⟩) := HX6.out.cell 3
  exact bodyPost_ret (v := .tuple #[.agg #[I m.k, I m.f, I m.t, .string ⟨m.bs.toArray⟩], I 0]) (by simp [results, Tryz.results50, go_sem, f0, f1, f2, f3]) rfl ⟨rfl, HE.out⟩

end Go.Proofs.YtfmcngncaffloaaGreatDoor
