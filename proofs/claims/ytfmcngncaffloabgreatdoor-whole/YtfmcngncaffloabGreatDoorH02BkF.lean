import Derived.Test.YtfmcngncaffloabGreatDoorProg
import Derived.Test.YtfmcngncaffloabGreatDoorH00BkJ
import Derived.Handy
import Derived.WalkSpells
import Derived.WalkLawsBesides
import Derived.Laws.BitsAllLaws
set_option maxHeartbeats 400000
namespace Go.Proofs.YtfmcngncaffloabGreatDoor
open Go.RowKit
theorem zbh{k:IntKind}{a b:Int}(h:a=b):Ending.returned (.int k a)= .returned (.int k b):=by rw [h]
theorem znp{a b:Bool}(h:a=b):Ending.returned (.bool a)= .returned (.bool b):=by rw [h]
theorem zid{k:IntKind}{a b:Int}(h:a=b):Value.int k a= .int k b:=by rw [h]
theorem zai(n a b:Int)(w:World):
  Calls Tryz.prog 97 #[.int .i64 n, .int .i64 a, .int .i64 b] w fun e w'=>e= .returned (.bool (decide (a<=n) && decide (n<=b)))∧w'=w:=by
 go_enter Tryz.func97,Tryz.ntmps97
 go_wp2
 all_goals go_ret
 ·exact⟨znp (by simp [*]),rfl⟩
 ·exact⟨znp (by rw [decide_eq_false (by omega)];rfl),rfl⟩
theorem zs3(c:Nat)(h:c<4294967296):bits BinOp.and IntKind.u32 (c:Int) 1=((c % 2:Nat):Int):=by
 have:=u32_and_nat c 1 h (by omega)
 rw [Nat.and_one_is_mod] at this
 exact this
theorem zv3(c:Nat)(h:c<4294967296):bits BinOp.xor IntKind.u32 ((c:Int) / 2) 3988292384=(((c / 2)^^^ 3988292384:Nat):Int):=by
 have:=u32_xor_nat (c / 2) 3988292384 (by omega) (by omega)
 simpa using this
theorem zry(x:Nat)(hx:x<4294967296)(w:World):
  Calls Tryz.prog 191 #[.int .u32 x] w fun e w'=>e= .returned (.int .u32 (Wv.steps 8 x:Nat))∧w'=w:=by
 go_enter Tryz.func191,Tryz.ntmps191
 go_wp2
 go_loop [0,4] (fun s i=>∃k:Nat,k<=8∧i= .int .i64 k∧s= .int .u32 (Wv.steps k x:Nat)) (fun _ i=>8 - (intOf i).toNat)
 case atStart=>exact⟨0,Nat.zero_le _,rfl,rfl⟩
 case round=>
  obtain⟨k,hk,rfl,rfl⟩:=hrel
  have hlt:=Wv.steps_lt k x hx
  by_cases hlt:k<8
  ·go_wp2
   case _ h=>
    rw [zs3 _ ‹_›] at h
    exact⟨⟨k+1,by omega,by go_num,zid (by rw [zv3 _ ‹_›,Wv.steps,Wv.step,if_pos (by simp at h;omega)])⟩,by simp [intOf];omega⟩
   case _ h=>
    rw [zs3 _ ‹_›] at h
    exact⟨⟨k+1,by omega,by go_num,zid (by rw [Wv.steps,Wv.step,if_neg (by simp at h;omega)];simp)⟩,by simp [intOf];omega⟩
  ·obtain rfl:k=8:=by omega
   go_wp2
   go_ret
   exact⟨rfl,rfl⟩
theorem ztk(s:ByteArray)(k:Nat)(h:k<s.size):s.data.toList.take (k+1)=s.data.toList.take k++ [s[k]]:=by
 rw [List.take_succ_eq_append_getElem (by simpa using h)];rfl
theorem zzr(c:Nat)(h:c<4294967296):bits BinOp.xor IntKind.u32 IntKind.u32.max (c:Int)=((4294967295 - c:Nat):Int):=by
 have:=u32_xor_nat 4294967295 c (by omega) h
 have k:4294967295 ^^^ c=4294967295 - c:=by
  apply Nat.eq_of_testBit_eq
  intro i
  rw [Nat.testBit_xor,show 4294967295=2 ^ 32 - 1 from rfl,Nat.testBit_two_pow_sub_one,show(2 ^ 32 - 1) - c=2 ^ 32 - (c+1) by omega,Nat.testBit_two_pow_sub_succ h]
  by_cases hi:i<32<;>simp [hi]
  exact Nat.testBit_lt_two_pow (Nat.lt_of_lt_of_le h (Nat.pow_le_pow_right (n:=2) (by omega) (show 32<=i by omega)))
 rw [k] at this
 exact this
theorem zv4(c:Nat)(b:UInt8)(h:c<4294967296):bits BinOp.xor IntKind.u32 (c:Int) (b.toNat:Int)=((c ^^^ b.toNat:Nat):Int):=
 u32_xor_nat c b.toNat h (by have:=Wv.byte_lt b;omega)
theorem of_any(s:ByteArray)(w:World)(hs:s.size<=maxLen):
  Calls Tryz.prog 168 #[.string s] w fun e w'=>e= .returned (.int .u32 (Wv.sum s.data.toList:Nat))∧w'=w:=by
 unfold maxLen at hs
 go_enter Tryz.func168,Tryz.ntmps168
 go_wp2
 go_loop [3,7] (fun c i=>∃k:Nat,k<=s.size∧i= .int .i64 k∧c= .int .u32 (Wv.reg (s.data.toList.take k) 4294967295:Nat)) (fun _ i=>s.size - (intOf i).toNat)
 case atStart=>exact⟨0,Nat.zero_le _,rfl,rfl⟩
 case round=>
  obtain⟨k,hk,rfl,rfl⟩:=hrel
  have hr:=Wv.reg_lt (s.data.toList.take k) 4294967295 (by omega)
  by_cases hlt:k<s.size
  ·have HS:Hid (Wv.reg (s.data.toList.take (k+1)) 4294967295=Wv.steps 8 (Wv.reg (s.data.toList.take k) 4294967295 ^^^ s[k].toNat)):=by
    rw [ztk s k hlt];exact Wv.reg_snoc _ _ _
   generalize Wv.reg (s.data.toList.take k) 4294967295=c at *
   have hx:bits BinOp.xor IntKind.u32 (c:Int) ((s[k].toNat:Int) % 4294967296)=((c ^^^ s[k].toNat:Nat):Int):=by
    rw [Int.emod_eq_of_lt (by omega) (by have:=Wv.byte_lt s[k];omega)];exact zv4 c _ hr
   have hl:=Wv.xor_byte_lt c s[k] hr
   go_wp2_with (go_at_call 191;refine(zry _ hl _).mono ?_;rintro e w' ⟨rfl,rfl⟩)
   go_round
   case rel=>exact⟨k+1,by omega,by go_num,zid (by rw [HS.out])⟩
   case measure=>simp [intOf];omega
  ·obtain rfl:k=s.size:=by omega
   go_wp2
   go_ret
   exact⟨zbh (by rw [List.take_of_length_le (by simp),zzr _ (Wv.reg_lt _ _ (by omega))];rfl),rfl⟩
theorem pk_neg(c n:Int)(h:c<0):Wv.pk c n=(-(c+1)) % n:=by unfold Wv.pk;rw [if_pos h]
theorem pk_pos(c n:Int)(h:¬c<0):Wv.pk c n=c % n:=by unfold Wv.pk;rw [if_neg h]
theorem zao(c n:Int)(w:World)(hc: -9223372036854775808<=c∧c<=9223372036854775807)(hn:0<n∧n<=1048576):
  Calls Tryz.prog 7 #[.int .i64 c, .int .i64 n] w fun e w'=>e= .returned (.int .i64 (Wv.pk c n))∧w'=w:=by
 go_enter Tryz.func7,Tryz.ntmps7
 by_cases h:c<0
 ·rw [pk_neg c n h]
  go_wp2
  go_ret
  exact⟨zbh (by rw [←Int.neg_tmod,Int.tmod_eq_emod_of_nonneg (by omega)]),rfl⟩
 ·rw [pk_pos c n h]
  go_wp2
  go_ret
  exact⟨rfl,rfl⟩
end Go.Proofs.YtfmcngncaffloabGreatDoor
