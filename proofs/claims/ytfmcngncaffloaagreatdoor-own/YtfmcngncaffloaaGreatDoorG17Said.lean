import Derived.Shelf.LaysM
import Derived.Shelf.Strconv.Itoa3
import Derived.Ground.Names2Prog
import Derived.Test.YtfmcngncaffloaaGreatDoorProg
import Derived.Test.YtfmcngncaffloaaGreatDoorG04PoA
import Derived.Lib.LaidTab
namespace Go.Proofs
open Go.Shelf
def Tryz.laysM171_ren : Go.Shelf.Ren := ⟨fun | 171 => 182 | 243 => 205 | 246 => 215 | 283 => 216 | 284 => 217 | 285 => 218 | 286 => 219 | 129 => 221 | 317 => 220 | 318 => 222 | 319 => 223 | 320 => 224 | 337 => 225 | 338 => 226 | n => n, fun | 3 => 3 | 9 => 9 | 2 => 2 | 4 => 4 | 171 => 295 | 0 => 0 | 53 => 296 | 37 => 170 | 5 => 5 | 173 => 299 | 212 => 302 | 51 => 273 | 20 => 20 | 213 => 303 | 46 => 265 | 232 => 306 | 233 => 307 | n => n, fun | 17 => 8 | 18 => 9 | 19 => 10 | n => n⟩
theorem Tryz.laysM171 : Go.Proofs.LaysM.n171 Tryz.prog Tryz.laysM171_ren := {
  mixed := by kernel_rfl
  f129 := Tryz.func221.trans (congrArg some (by kernel_rfl))
  f171 := Tryz.func182.trans (congrArg some (by kernel_rfl))
  f243 := Tryz.func205.trans (congrArg some (by kernel_rfl))
  f246 := Tryz.func215.trans (congrArg some (by kernel_rfl))
  f283 := Tryz.func216.trans (congrArg some (by kernel_rfl))
  f284 := Tryz.func217.trans (congrArg some (by kernel_rfl))
  f285 := Tryz.func218.trans (congrArg some (by kernel_rfl))
  f286 := Tryz.func219.trans (congrArg some (by kernel_rfl))
  f317 := Tryz.func220.trans (congrArg some (by kernel_rfl))
  f318 := Tryz.func222.trans (congrArg some (by kernel_rfl))
  f319 := Tryz.func223.trans (congrArg some (by kernel_rfl))
  f320 := Tryz.func224.trans (congrArg some (by kernel_rfl))
  f337 := Tryz.func225.trans (congrArg some (by kernel_rfl))
  f338 := Tryz.func226.trans (congrArg some (by kernel_rfl))
  t0 := Tryz.underlying0
  a0 := Tryz.isAgg0
  z0 := Tryz.sizeOf0
  v0 := Tryz.zeroValue0
  t2 := Tryz.underlying2
  a2 := Tryz.isAgg2
  z2 := Tryz.sizeOf2
  v2 := Tryz.zeroValue2
  t3 := Tryz.underlying3
  a3 := Tryz.isAgg3
  z3 := Tryz.sizeOf3
  v3 := Tryz.zeroValue3
  t4 := Tryz.underlying4
  a4 := Tryz.isAgg4
  z4 := Tryz.sizeOf4
  v4 := Tryz.zeroValue4
  t5 := Tryz.underlying5
  a5 := Tryz.isAgg5
  z5 := Tryz.sizeOf5
  v5 := Tryz.zeroValue5
  t9 := Tryz.underlying9
  a9 := Tryz.isAgg9
  z9 := Tryz.sizeOf9
  v9 := Tryz.zeroValue9
  t20 := Tryz.underlying20
  a20 := Tryz.isAgg20
  z20 := Tryz.sizeOf20
  v20 := Tryz.zeroValue20
  t37 := Tryz.underlying170
  a37 := Tryz.isAgg170
  z37 := Tryz.sizeOf170
  v37 := Tryz.zeroValue170
  t46 := Tryz.underlying265
  a46 := Tryz.isAgg265
  z46 := Tryz.sizeOf265
  v46 := Tryz.zeroValue265
  t51 := Tryz.underlying273
  a51 := Tryz.isAgg273
  z51 := Tryz.sizeOf273
  v51 := Tryz.zeroValue273
  t53 := Tryz.underlying296
  a53 := Tryz.isAgg296
  z53 := Tryz.sizeOf296
  v53 := Tryz.zeroValue296
  t171 := Tryz.underlying295
  a171 := Tryz.isAgg295
  z171 := Tryz.sizeOf295
  v171 := Tryz.zeroValue295
  t173 := Tryz.underlying299
  a173 := Tryz.isAgg299
  z173 := Tryz.sizeOf299
  v173 := Tryz.zeroValue299
  t212 := Tryz.underlying302
  a212 := Tryz.isAgg302
  z212 := Tryz.sizeOf302
  v212 := Tryz.zeroValue302
  t213 := Tryz.underlying303
  a213 := Tryz.isAgg303
  z213 := Tryz.sizeOf303
  t232 := Tryz.underlying306
  a232 := Tryz.isAgg306
  z232 := Tryz.sizeOf306
  v232 := Tryz.zeroValue306
  t233 := Tryz.underlying307
  a233 := Tryz.isAgg307
  z233 := Tryz.sizeOf307
  v233 := Tryz.zeroValue307
  g17 := by kernel_rfl
  g18 := by kernel_rfl
  g19 := by kernel_rfl
  i0 := by kernel_rfl
  i2 := by kernel_rfl
  i3 := by kernel_rfl
  i4 := by kernel_rfl
  i5 := by kernel_rfl
  i9 := by kernel_rfl
  i20 := by kernel_rfl
  i37 := by kernel_rfl
  i46 := by kernel_rfl
  i51 := by kernel_rfl
  i53 := by kernel_rfl
  i171 := by kernel_rfl
  i173 := by kernel_rfl
  i212 := by kernel_rfl
  i232 := by kernel_rfl
  i233 := by kernel_rfl
  m17 := by kernel_rfl
  m18 := by kernel_rfl
  m19 := by kernel_rfl }
open Go.RowKit Go.Sort Go.Lib in
theorem Tryz.strconv_Itoa (n : Int) (h0 : -9223372036854775808 ≤ n) (h1 : n ≤ 9223372036854775807) (w : World) (htab : Lib.TabIs Tryz.prog w "internal/strconv.uint64pow10" .u64 Lib.pow10Tab) :
    Calls Tryz.prog 182 #[.int .i64 n] w fun e w' => e = .returned (.string ⟨(Lib.itoa n).toArray⟩) ∧ ∃ k os, w' = grow (w.drewN k) os := Any.strconv_Itoa Tryz.laysM171 n h0 h1 w htab
end Go.Proofs

namespace Go.Proofs.YtfmcngncaffloaaGreatDoor
open Go.RowKit
set_option maxRecDepth 100000

/-- The table of strconv's. -/
def Pw (w : World) : Prop := ∃ t fr, w.heap[8]? = some (.cells (Lib.pow10Tab.map fun z => Value.int .u64 z).toArray t fr)
theorem Pw.kept {w w' : World} (h : Pw w) (hb : Below w.heap.size w w') : Pw w' := by
  obtain ⟨t, fr, e⟩ := h
  exact ⟨t, fr, (hb.block _ (lt_of_heap e)).trans e⟩
/-- strconv.Itoa of a number below 150: some short string. -/
def ItoaSaid : Prop := ∀ (n : Nat) (w : World), n < 150 → Pw w →
  Calls Tryz.prog 182 #[I n] w fun e w' => (∃ s : ByteArray, s.size ≤ 64 ∧ e = .returned (.string s)) ∧ Below w.heap.size w w'
theorem below_grow (w : World) (k : Nat) (os : Array Obj) : Below w.heap.size w (Go.Sort.grow (w.drewN k) os) :=
  ⟨rfl, rfl, rfl, by simp [Go.Sort.grow], fun j hj => by simp [Go.Sort.grow, Array.getElem?_append, hj]⟩
theorem itoa_short (n : Nat) (h : n < 150) : (Lib.itoa (n : Int)).length ≤ 64 := by
  have : ∀ k : Fin 150, (Lib.itoa ((k.val : Nat) : Int)).length ≤ 64 := by decide +kernel
  exact this ⟨n, h⟩
theorem itoa_said : ItoaSaid := by
  intro n w hn hp
  obtain ⟨t, fr, e⟩ := hp
  refine (Tryz.strconv_Itoa n (by omega) (by omega) w ?_).mono ?_
  · unfold Lib.TabIs World.var?
    rw [show Tryz.prog.globalNamed _ = some 8 by kernel_rfl]
    simp [e]
  · rintro e w' ⟨rfl, k, os, rfl⟩
    exact ⟨⟨_, by show (Lib.itoa (n : Int)).toArray.size ≤ 64; simpa using itoa_short n hn, rfl⟩, below_grow w k os⟩

end Go.Proofs.YtfmcngncaffloaaGreatDoor

namespace Go.Proofs.YtfmcngncaffloaaGreatDoor
open Go.RowKit

/-- A fault of a batch: one deep over the sentinel at eb; one or two deep. -/
def IsFault (eb : Addr) (v : Value) : Prop := ∃ s, v = Flt s (Sent eb)
def IsFault2 (eb : Addr) (v : Value) : Prop := (∃ s, v = Flt s (Sent eb)) ∨ ∃ s t, v = Flt s (Flt t (Sent eb))
def ErrEnd2 (ok : Bool) (eb : Addr) (e : Ending) : Prop := if ok then e = .returned .nilIface else ∃ v, e = .returned v ∧ IsFault2 eb v
/-- How a check ends: nil, or a fault. -/
def ErrEnd (ok : Bool) (eb : Addr) (e : Ending) : Prop := if ok then e = .returned .nilIface else ∃ v, e = .returned v ∧ IsFault eb v
theorem errEnd_no {ok : Bool} {eb : Addr} {s : ByteArray} (h : ok = false) : ErrEnd ok eb (.returned (Flt s (Sent eb))) := by
  rw [h]; exact ⟨_, rfl, ⟨_, rfl⟩⟩
theorem errEnd_yes {ok : Bool} {eb : Addr} (h : ok = true) : ErrEnd ok eb (.returned .nilIface) := by
  rw [h]; rfl

end Go.Proofs.YtfmcngncaffloaaGreatDoor
