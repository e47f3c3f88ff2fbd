import Derived.Test.YtfmcngncaffloaaGreatDoorG05CmpA
import Derived.Sort.Grow
import Derived.Shelf.SlGeneric
import Derived.Shelf.SlSortCmp.NoneTotal
import Derived.Shelf.SlIterI.Nil
import Derived.Shelf.SortM.Plain
import Derived.Shelf.SortM.SortNone
import Derived.Shelf.Slices.CompactI
import Derived.Ground.GgzProg
import Derived.Ground.SlgmProg
import Derived.Ground.SlsfProg
import Derived.Ground.Names2Prog
import Derived.Test.YtfmcngncaffloaaGreatDoorProg
namespace Go.Proofs.YtfmcngncaffloaaGreatDoor
open Go.RowKit
set_option maxRecDepth 100000

/-- How CompareDots holds two dots against each other. -/
def cmpD (a b : Wv.Dt) : Int := orI (cmpI a.o b.o) (cmpI a.s b.s) (cmpI a.i b.i)
theorem cmpD_less (a b : Wv.Dt) : (decide (cmpD a b < 0)) = Wv.lessD a b := or_less a b

set_option maxHeartbeats 3200000 in
/-- CompareDots, with the world that it leaves. -/
theorem compareDots_eq (a b : Wv.Dt) (w : World) :
    Calls Tryz.prog 214 #[dotV a, dotV b] w fun e w' => e = .returned (I (cmpD a b)) ∧ ∃ q os', w' = Sort.grow (w.drewN q) os' := by
  have k0 : Hid (((((w.alloc (.cells #[I a.o, I a.s, I a.i] 146)).alloc (.cells #[I b.o, I b.s, I b.i] 146)).alloc (.cells #[I (cmpI a.o b.o), I (cmpI a.s b.s), I (cmpI a.i b.i)] 3)).drew).cell? ⟨w.heap.size + 1 + 1, 0, none⟩ = some (I (cmpI a.o b.o))) := new_at _ _ _ _ _ (by simp)
  have k1 : Hid (((((w.alloc (.cells #[I a.o, I a.s, I a.i] 146)).alloc (.cells #[I b.o, I b.s, I b.i] 146)).alloc (.cells #[I (cmpI a.o b.o), I (cmpI a.s b.s), I (cmpI a.i b.i)] 3)).drew).cell? ⟨w.heap.size + 1 + 1, 1, none⟩ = some (I (cmpI a.s b.s))) := new_at _ _ _ _ _ (by simp)
  have k2 : Hid (((((w.alloc (.cells #[I a.o, I a.s, I a.i] 146)).alloc (.cells #[I b.o, I b.s, I b.i] 146)).alloc (.cells #[I (cmpI a.o b.o), I (cmpI a.s b.s), I (cmpI a.i b.i)] 3)).drew).cell? ⟨w.heap.size + 1 + 1, 2, none⟩ = some (I (cmpI a.i b.i))) := new_at _ _ _ _ _ (by simp)
  go_enter Tryz.func214, Tryz.ntmps214
  go_wp2_with fail
  go_region_held3 (fun w' => w'.cell? ⟨w.heap.size, 0, none⟩ = some (I a.o) ∧ w'.cell? ⟨w.heap.size, 1, none⟩ = some (I a.s) ∧ w'.cell? ⟨w.heap.size, 2, none⟩ = some (I a.i) ∧ w'.cell? ⟨w.heap.size + 1, 0, none⟩ = some (I b.o) ∧ w'.cell? ⟨w.heap.size + 1, 1, none⟩ = some (I b.s) ∧ w'.cell? ⟨w.heap.size + 1, 2, none⟩ = some (I b.i)) (go_keep)
    (first | (go_at_call 113; refine (compare_any _ _ _).mono ?_; rintro e w' ⟨rfl, h⟩; subst h) | (go_at_call 112; refine (or_any (cmpI a.o b.o) (cmpI a.s b.s) (cmpI a.i b.i) _ _ ?_ ?_ ?_).mono ?_; exact k0.out; exact k1.out; exact k2.out; rintro e w' ⟨rfl, h⟩; subst h))
  go_wp2
  go_ret
  exact ⟨rfl, 1, _, by rw [Sort.alloc_eq_grow, Sort.alloc_eq_grow, Sort.alloc_eq_grow, Sort.grow_grow, Sort.grow_grow]; rfl⟩

end Go.Proofs.YtfmcngncaffloaaGreatDoor

namespace Go.Proofs
open Go.Shelf
def Tryz.sortDot_ren : Go.Shelf.Ren := ⟨fun | 6 => 272 | 15 => 270 | 14 => 285 | 28 => 283 | 29 => 221 | 20 => 291 | 21 => 292 | 22 => 293 | 23 => 294 | 24 => 295 | 25 => 296 | 26 => 297 | 27 => 298 | 46 => 300 | 47 => 287 | 48 => 288 | 49 => 301 | 50 => 302 | 57 => 303 | n => n, fun | 22 => 147 | 24 => 146 | 25 => 293 | 3 => 3 | 39 => 265 | 0 => 0 | 53 => 273 | 55 => 296 | 4 => 4 | 46 => 345 | 45 => 344 | 50 => 350 | 5 => 5 | 9 => 9 | 66 => 354 | 70 => 358 | 76 => 365 | 77 => 366 | n => n, fun | n => n⟩
theorem Tryz.sortDot : Go.Proofs.SlLaysF0.n6 Tryz.prog Tryz.sortDot_ren := {
  mixed := by kernel_rfl
  f6 := ⟨Tryz.f272.name, by decide, Tryz.func272.trans (congrArg some (by kernel_rfl))⟩
  f14 := ⟨Tryz.f285.name, by decide, Tryz.func285.trans (congrArg some (by kernel_rfl))⟩
  f15 := Tryz.func270.trans (congrArg some (by kernel_rfl))
  f20 := ⟨Tryz.f291.name, by decide, Tryz.func291.trans (congrArg some (by kernel_rfl))⟩
  f21 := ⟨Tryz.f292.name, by decide, Tryz.func292.trans (congrArg some (by kernel_rfl))⟩
  f22 := ⟨Tryz.f293.name, by decide, Tryz.func293.trans (congrArg some (by kernel_rfl))⟩
  f23 := ⟨Tryz.f294.name, by decide, Tryz.func294.trans (congrArg some (by kernel_rfl))⟩
  f24 := ⟨Tryz.f295.name, by decide, Tryz.func295.trans (congrArg some (by kernel_rfl))⟩
  f25 := ⟨Tryz.f296.name, by decide, Tryz.func296.trans (congrArg some (by kernel_rfl))⟩
  f26 := ⟨Tryz.f297.name, by decide, Tryz.func297.trans (congrArg some (by kernel_rfl))⟩
  f27 := ⟨Tryz.f298.name, by decide, Tryz.func298.trans (congrArg some (by kernel_rfl))⟩
  f28 := Tryz.func283.trans (congrArg some (by kernel_rfl))
  f29 := Tryz.func221.trans (congrArg some (by kernel_rfl))
  f46 := ⟨Tryz.f300.name, by decide, Tryz.func300.trans (congrArg some (by kernel_rfl))⟩
  f47 := Tryz.func287.trans (congrArg some (by kernel_rfl))
  f48 := Tryz.func288.trans (congrArg some (by kernel_rfl))
  f49 := ⟨Tryz.f301.name, by decide, Tryz.func301.trans (congrArg some (by kernel_rfl))⟩
  f50 := ⟨Tryz.f302.name, by decide, Tryz.func302.trans (congrArg some (by kernel_rfl))⟩
  f57 := ⟨Tryz.f303.name, by decide, Tryz.func303.trans (congrArg some (by kernel_rfl))⟩
  t0 := Tryz.underlying0
  a0 := Tryz.isAgg0
  z0 := Tryz.sizeOf0
  v0 := Tryz.zeroValue0
  t3 := Tryz.underlying3
  a3 := Tryz.isAgg3
  z3 := Tryz.sizeOf3
  v3 := Tryz.zeroValue3
  t4 := Tryz.underlying4
  a4 := Tryz.isAgg4
  z4 := Tryz.sizeOf4
  v4 := Tryz.zeroValue4
  t5 := Tryz.underlying5
  a5 := Tryz.isAgg5
  z5 := Tryz.sizeOf5
  v5 := Tryz.zeroValue5
  t9 := Tryz.underlying9
  a9 := Tryz.isAgg9
  z9 := Tryz.sizeOf9
  v9 := Tryz.zeroValue9
  t22 := Tryz.underlying147
  a22 := Tryz.isAgg147
  z22 := Tryz.sizeOf147
  v22 := Tryz.zeroValue147
  t25 := Tryz.underlying293
  a25 := Tryz.isAgg293
  z25 := Tryz.sizeOf293
  v25 := Tryz.zeroValue293
  t39 := Tryz.underlying265
  a39 := Tryz.isAgg265
  z39 := Tryz.sizeOf265
  v39 := Tryz.zeroValue265
  t45 := Tryz.underlying344
  a45 := Tryz.isAgg344
  z45 := Tryz.sizeOf344
  v45 := Tryz.zeroValue344
  t46 := Tryz.underlying345
  a46 := Tryz.isAgg345
  z46 := Tryz.sizeOf345
  v46 := Tryz.zeroValue345
  t50 := Tryz.underlying350
  a50 := Tryz.isAgg350
  z50 := Tryz.sizeOf350
  v50 := Tryz.zeroValue350
  t53 := Tryz.underlying273
  a53 := Tryz.isAgg273
  z53 := Tryz.sizeOf273
  v53 := Tryz.zeroValue273
  t55 := Tryz.underlying296
  a55 := Tryz.isAgg296
  z55 := Tryz.sizeOf296
  v55 := Tryz.zeroValue296
  t66 := Tryz.underlying354
  a66 := Tryz.isAgg354
  z66 := Tryz.sizeOf354
  v66 := Tryz.zeroValue354
  t70 := Tryz.underlying358
  a70 := Tryz.isAgg358
  z70 := Tryz.sizeOf358
  v70 := Tryz.zeroValue358
  t76 := Tryz.underlying365
  a76 := Tryz.isAgg365
  z76 := Tryz.sizeOf365
  v76 := Tryz.zeroValue365
  t77 := Tryz.underlying366
  a77 := Tryz.isAgg366
  z77 := Tryz.sizeOf366
  v77 := Tryz.zeroValue366 }
def Tryz.sortedI_ren : Go.Shelf.Ren := ⟨fun | 6 => 255 | 8 => 261 | 9 => 262 | 11 => 268 | 13 => 270 | 12 => 269 | 23 => 283 | 24 => 221 | 14 => 274 | 15 => 275 | 16 => 276 | 17 => 277 | 18 => 278 | 19 => 279 | 20 => 280 | 21 => 281 | 22 => 282 | 25 => 286 | 26 => 287 | 27 => 288 | 28 => 289 | 29 => 290 | 30 => 155 | 31 => 299 | n => n, fun | 26 => 3 | 28 => 327 | 24 => 34 | 0 => 0 | 3 => 3 | 37 => 265 | 48 => 273 | 50 => 296 | 4 => 4 | 40 => 345 | 39 => 344 | 45 => 350 | 5 => 5 | 9 => 9 | 51 => 354 | 55 => 358 | 57 => 365 | 58 => 366 | 33 => 159 | n => n, fun | n => n⟩
theorem Tryz.sortedI : Go.Proofs.SlLaysZI.n6 Tryz.prog Tryz.sortedI_ren := {
  mixed := by kernel_rfl
  f6 := ⟨Tryz.f255.name, by decide, Tryz.func255.trans (congrArg some (by kernel_rfl))⟩
  f8 := ⟨Tryz.f261.name, by decide, Tryz.func261.trans (congrArg some (by kernel_rfl))⟩
  f11 := ⟨Tryz.f268.name, by decide, Tryz.func268.trans (congrArg some (by kernel_rfl))⟩
  t0 := Tryz.underlying0
  a0 := Tryz.isAgg0
  z0 := Tryz.sizeOf0
  v0 := Tryz.zeroValue0
  t24 := Tryz.underlying34
  a24 := Tryz.isAgg34
  z24 := Tryz.sizeOf34
  v24 := Tryz.zeroValue34
  t26 := Tryz.underlying3
  a26 := Tryz.isAgg3
  z26 := Tryz.sizeOf3
  v26 := Tryz.zeroValue3
  t28 := Tryz.underlying327
  a28 := Tryz.isAgg327
  z28 := Tryz.sizeOf327
  v28 := Tryz.zeroValue327
  i26 := by kernel_rfl }
def Tryz.sortI_ren : Go.Shelf.Ren := ⟨fun | 5 => 262 | 8 => 270 | 7 => 269 | 19 => 283 | 20 => 221 | 10 => 274 | 11 => 275 | 12 => 276 | 13 => 277 | 14 => 278 | 15 => 279 | 16 => 280 | 17 => 281 | 18 => 282 | 30 => 286 | 31 => 287 | 32 => 288 | 33 => 289 | 34 => 290 | 35 => 155 | 40 => 299 | n => n, fun | 23 => 34 | 25 => 3 | 3 => 3 | 32 => 265 | 22 => 34 | 0 => 0 | 44 => 273 | 46 => 296 | 4 => 4 | 36 => 345 | 35 => 344 | 41 => 350 | 5 => 5 | 9 => 9 | 53 => 354 | 57 => 358 | 63 => 365 | 64 => 366 | n => n, fun | n => n⟩
theorem Tryz.sortI : Go.Proofs.SlLaysM.n5 Tryz.prog Tryz.sortI_ren := {
  mixed := by kernel_rfl
  f5 := ⟨Tryz.f262.name, by decide, Tryz.func262.trans (congrArg some (by kernel_rfl))⟩
  f7 := ⟨Tryz.f269.name, by decide, Tryz.func269.trans (congrArg some (by kernel_rfl))⟩
  f8 := Tryz.func270.trans (congrArg some (by kernel_rfl))
  f10 := ⟨Tryz.f274.name, by decide, Tryz.func274.trans (congrArg some (by kernel_rfl))⟩
  f11 := ⟨Tryz.f275.name, by decide, Tryz.func275.trans (congrArg some (by kernel_rfl))⟩
  f12 := ⟨Tryz.f276.name, by decide, Tryz.func276.trans (congrArg some (by kernel_rfl))⟩
  f13 := ⟨Tryz.f277.name, by decide, Tryz.func277.trans (congrArg some (by kernel_rfl))⟩
  f14 := ⟨Tryz.f278.name, by decide, Tryz.func278.trans (congrArg some (by kernel_rfl))⟩
  f15 := ⟨Tryz.f279.name, by decide, Tryz.func279.trans (congrArg some (by kernel_rfl))⟩
  f16 := ⟨Tryz.f280.name, by decide, Tryz.func280.trans (congrArg some (by kernel_rfl))⟩
  f17 := ⟨Tryz.f281.name, by decide, Tryz.func281.trans (congrArg some (by kernel_rfl))⟩
  f18 := ⟨Tryz.f282.name, by decide, Tryz.func282.trans (congrArg some (by kernel_rfl))⟩
  f19 := Tryz.func283.trans (congrArg some (by kernel_rfl))
  f20 := Tryz.func221.trans (congrArg some (by kernel_rfl))
  f30 := ⟨Tryz.f286.name, by decide, Tryz.func286.trans (congrArg some (by kernel_rfl))⟩
  f31 := Tryz.func287.trans (congrArg some (by kernel_rfl))
  f32 := Tryz.func288.trans (congrArg some (by kernel_rfl))
  f33 := ⟨Tryz.f289.name, by decide, Tryz.func289.trans (congrArg some (by kernel_rfl))⟩
  f34 := ⟨Tryz.f290.name, by decide, Tryz.func290.trans (congrArg some (by kernel_rfl))⟩
  f35 := ⟨Tryz.f155.name, by decide, Tryz.func155.trans (congrArg some (by kernel_rfl))⟩
  f40 := ⟨Tryz.f299.name, by decide, Tryz.func299.trans (congrArg some (by kernel_rfl))⟩
  t0 := Tryz.underlying0
  a0 := Tryz.isAgg0
  z0 := Tryz.sizeOf0
  v0 := Tryz.zeroValue0
  t3 := Tryz.underlying3
  a3 := Tryz.isAgg3
  z3 := Tryz.sizeOf3
  v3 := Tryz.zeroValue3
  t4 := Tryz.underlying4
  a4 := Tryz.isAgg4
  z4 := Tryz.sizeOf4
  v4 := Tryz.zeroValue4
  t5 := Tryz.underlying5
  a5 := Tryz.isAgg5
  z5 := Tryz.sizeOf5
  v5 := Tryz.zeroValue5
  t9 := Tryz.underlying9
  a9 := Tryz.isAgg9
  z9 := Tryz.sizeOf9
  v9 := Tryz.zeroValue9
  t22 := Tryz.underlying34
  a22 := Tryz.isAgg34
  z22 := Tryz.sizeOf34
  v22 := Tryz.zeroValue34
  t23 := Tryz.underlying34
  a23 := Tryz.isAgg34
  z23 := Tryz.sizeOf34
  v23 := Tryz.zeroValue34
  t25 := Tryz.underlying3
  a25 := Tryz.isAgg3
  z25 := Tryz.sizeOf3
  v25 := Tryz.zeroValue3
  t32 := Tryz.underlying265
  a32 := Tryz.isAgg265
  z32 := Tryz.sizeOf265
  v32 := Tryz.zeroValue265
  t35 := Tryz.underlying344
  a35 := Tryz.isAgg344
  z35 := Tryz.sizeOf344
  v35 := Tryz.zeroValue344
  t36 := Tryz.underlying345
  a36 := Tryz.isAgg345
  z36 := Tryz.sizeOf345
  v36 := Tryz.zeroValue345
  t41 := Tryz.underlying350
  a41 := Tryz.isAgg350
  z41 := Tryz.sizeOf350
  v41 := Tryz.zeroValue350
  t44 := Tryz.underlying273
  a44 := Tryz.isAgg273
  z44 := Tryz.sizeOf273
  v44 := Tryz.zeroValue273
  t46 := Tryz.underlying296
  a46 := Tryz.isAgg296
  z46 := Tryz.sizeOf296
  v46 := Tryz.zeroValue296
  t53 := Tryz.underlying354
  a53 := Tryz.isAgg354
  z53 := Tryz.sizeOf354
  v53 := Tryz.zeroValue354
  t57 := Tryz.underlying358
  a57 := Tryz.isAgg358
  z57 := Tryz.sizeOf358
  v57 := Tryz.zeroValue358
  t63 := Tryz.underlying365
  a63 := Tryz.isAgg365
  z63 := Tryz.sizeOf365
  v63 := Tryz.zeroValue365
  t64 := Tryz.underlying366
  a64 := Tryz.isAgg366
  z64 := Tryz.sizeOf366
  v64 := Tryz.zeroValue366 }
def Tryz.compactI_ren : Go.Shelf.Ren := ⟨fun | 20 => 254 | n => n, fun | 22 => 34 | 3 => 3 | 4 => 4 | 0 => 0 | n => n, fun | n => n⟩
theorem Tryz.compactI : Go.Proofs.Lays2.n20 Tryz.prog Tryz.compactI_ren := {
  mixed := by kernel_rfl
  f20 := Tryz.func254.trans (congrArg some (by kernel_rfl))
  t0 := Tryz.underlying0
  a0 := Tryz.isAgg0
  z0 := Tryz.sizeOf0
  v0 := Tryz.zeroValue0
  t3 := Tryz.underlying3
  a3 := Tryz.isAgg3
  z3 := Tryz.sizeOf3
  v3 := Tryz.zeroValue3
  t4 := Tryz.underlying4
  a4 := Tryz.isAgg4
  z4 := Tryz.sizeOf4
  v4 := Tryz.zeroValue4
  t22 := Tryz.underlying34
  a22 := Tryz.isAgg34
  z22 := Tryz.sizeOf34
  v22 := Tryz.zeroValue34
  i3 := by kernel_rfl }
end Go.Proofs

namespace Go.Proofs.YtfmcngncaffloaaGreatDoor
open Go.RowKit
set_option maxRecDepth 100000

instance : Inhabited Wv.Dt := ⟨⟨0, 0, 0⟩⟩
theorem ltD (a b : Wv.Dt) : ltOf cmpD a b = Wv.lessD a b := cmpD_less a b
theorem lessD_iff (a b : Wv.Dt) : Wv.lessD a b = true ↔ a.o < b.o ∨ (a.o = b.o ∧ (a.s < b.s ∨ (a.s = b.s ∧ a.i < b.i))) := by
  unfold Wv.lessD
  split <;> simp <;> omega
theorem lessD_not (a b : Wv.Dt) : Wv.lessD a b = false ↔ b.o < a.o ∨ (a.o = b.o ∧ (b.s < a.s ∨ (a.s = b.s ∧ b.i ≤ a.i))) := by
  rw [← Bool.not_eq_true, lessD_iff]
  omega
theorem swoD : Sort.SWO (ltOf cmpD) where
  irrefl x := by rw [ltD, lessD_not]; omega
  trans x y z h1 h2 := by rw [ltD, lessD_iff] at *; omega
  ntrans x y z h1 h2 := by rw [ltD, lessD_not] at *; omega
theorem totD (x y : Wv.Dt) (h1 : ltOf cmpD x y = false) (h2 : ltOf cmpD y x = false) : x = y := by
  rw [ltD, lessD_not] at h1 h2
  cases x; cases y
  simp at *
  omega
/-- Dots in their order. -/
def insD (x : Wv.Dt) : List Wv.Dt → List Wv.Dt
  | [] => [x]
  | y :: r => if Wv.lessD y x then y :: insD x r else x :: y :: r
def sortD (l : List Wv.Dt) : List Wv.Dt := l.foldr insD []
theorem insD_perm (x : Wv.Dt) : ∀ l, (insD x l).Perm (x :: l)
  | [] => by simp [insD]
  | y :: r => by
    unfold insD
    split
    · exact ((insD_perm x r).cons y).trans (List.Perm.swap x y r)
    · exact List.Perm.refl _
theorem sortD_perm : ∀ l, (sortD l).Perm l
  | [] => List.Perm.refl _
  | x :: r => (insD_perm x _).trans ((sortD_perm r).cons x)
theorem sortD_len (l : List Wv.Dt) : (sortD l).length = l.length := (sortD_perm l).length_eq
theorem insD_sorted (x : Wv.Dt) : ∀ l, l.Pairwise (fun a b => (!Wv.lessD b a) = true) → (insD x l).Pairwise (fun a b => (!Wv.lessD b a) = true)
  | [], _ => by simp [insD]
  | y :: r, h => by
    obtain ⟨h1, h2⟩ := List.pairwise_cons.1 h
    unfold insD
    split
    · rename_i hy
      refine List.pairwise_cons.2 ⟨fun z hz => ?_, insD_sorted x r h2⟩
      rcases List.mem_cons.1 ((insD_perm x r).mem_iff.1 hz) with rfl | hz'
      · simp only [Bool.not_eq_true', lessD_not]
        rw [lessD_iff] at hy
        omega
      · exact h1 z hz'
    · rename_i hy
      refine List.pairwise_cons.2 ⟨fun z hz => ?_, h⟩
      have hy' : Wv.lessD y x = false := by simpa using hy
      rcases List.mem_cons.1 hz with rfl | hz'
      · simp [hy']
      · have h3 := h1 z hz'
        simp only [Bool.not_eq_true', lessD_not] at h3 ⊢
        rw [lessD_not] at hy'
        omega
theorem sortD_sorted : ∀ l, (sortD l).Pairwise (fun a b => (!Wv.lessD b a) = true)
  | [] => List.Pairwise.nil
  | x :: r => insD_sorted x _ (sortD_sorted r)
theorem eq_sortD {l r : List Wv.Dt} (hp : l.Perm r) (hs : l.Pairwise (fun a b => (!Wv.lessD b a) = true)) : l = sortD r := by
  refine List.Perm.eq_of_pairwise (le := fun a b => (!Wv.lessD b a) = true) (fun a b _ _ h1 h2 => ?_) hs (sortD_sorted r) (hp.trans (sortD_perm r).symm)
  simp only [Bool.not_eq_true'] at h1 h2
  exact totD a b (by rw [ltD]; exact h2) (by rw [ltD]; exact h1)
theorem merge_sortD (l : List Wv.Dt) : l.mergeSort (fun x y => !(ltOf cmpD) y x) = sortD l := by
  refine eq_sortD (List.mergeSort_perm _ _) ?_
  have h := List.pairwise_mergeSort (le := fun x y => !(ltOf cmpD) y x) (fun a b c h1 h2 => by
    simp only [ltD, Bool.not_eq_true', lessD_not] at *; omega) (fun a b => by
    simp only [ltD, Bool.or_eq_true, Bool.not_eq_true', lessD_not]; omega) l
  simpa only [ltD] using h
def insI (x : Int) : List Int → List Int
  | [] => [x]
  | y :: r => if y < x then y :: insI x r else x :: y :: r
def sortI (l : List Int) : List Int := l.foldr insI []
theorem insI_perm (x : Int) : ∀ l, (insI x l).Perm (x :: l)
  | [] => by simp [insI]
  | y :: r => by
    unfold insI
    split
    · exact ((insI_perm x r).cons y).trans (List.Perm.swap x y r)
    · exact List.Perm.refl _
theorem sortI_perm : ∀ l, (sortI l).Perm l
  | [] => List.Perm.refl _
  | x :: r => (insI_perm x _).trans ((sortI_perm r).cons x)
theorem insI_sorted (x : Int) : ∀ l, l.Pairwise (fun a b => a ≤ b) → (insI x l).Pairwise (fun a b => a ≤ b)
  | [], _ => by simp [insI]
  | y :: r, h => by
    obtain ⟨h1, h2⟩ := List.pairwise_cons.1 h
    unfold insI
    split
    · refine List.pairwise_cons.2 ⟨fun z hz => ?_, insI_sorted x r h2⟩
      rcases List.mem_cons.1 ((insI_perm x r).mem_iff.1 hz) with rfl | hz'
      · omega
      · exact h1 z hz'
    · refine List.pairwise_cons.2 ⟨fun z hz => ?_, h⟩
      rcases List.mem_cons.1 hz with rfl | hz'
      · omega
      · have h3 := h1 z hz'
        omega
theorem sortI_sorted : ∀ l, (sortI l).Pairwise (fun a b => a ≤ b)
  | [] => List.Pairwise.nil
  | x :: r => insI_sorted x _ (sortI_sorted r)
theorem eq_sortI {l r : List Int} (hp : l.Perm r) (hs : l.Pairwise (fun a b => a ≤ b)) : l = sortI r :=
  List.Perm.eq_of_pairwise (le := fun a b => a ≤ b) (fun a b _ _ h1 h2 => by omega) hs (sortI_sorted r) (hp.trans (sortI_perm r).symm)
theorem merge_sortI {l r : List Int} (hp : l.Perm r) : l.mergeSort (fun x y => decide (x ≤ y)) = sortI r := by
  refine eq_sortI ((List.mergeSort_perm _ _).trans hp) ?_
  have h := List.pairwise_mergeSort (le := fun x y : Int => decide (x ≤ y)) (fun a b c h1 h2 => by simp at *; omega) (fun a b => by simp; omega) l
  exact h.imp (fun h => by simpa using h)

end Go.Proofs.YtfmcngncaffloaaGreatDoor
