import Derived.Test.YtfmcngncaffloabGreatDoorProg
import Derived.Test.YtfmcngncaffloabGreatDoorJ00BkJ
import Derived.Handy
import Derived.WalkSpells
import Derived.WalkLawsBesides
import Derived.Laws.BitsAllLaws
set_option maxHeartbeats 400000
namespace Go.Proofs.YtfmcngncaffloabGreatDoor
open Go.RowKit Go.Proofs.Tryz Wv
theorem zbo{k:IntKind}{a b:Int}(h:a=b):Ending.returned (.int k a)= .returned (.int k b):=by rw [h]
theorem zpa{a b:Bool}(h:a=b):Ending.returned (.bool a)= .returned (.bool b):=by rw [h]
theorem zjg{k:IntKind}{a b:Int}(h:a=b):Value.int k a= .int k b:=by rw [h]
theorem zai(n a b:Int)(w:World):
  Calls prog 97 #[.int .i64 n, .int .i64 a, .int .i64 b] w fun e w'=>e= .returned (.bool (decide (a<=n) && decide (n<=b)))∧w'=w:=by
 go_enter func97,ntmps97;go_wp2;all_goals go_ret
 ·exact⟨zpa (by simp [*]),rfl⟩
 ·exact⟨zpa (by rw [decide_eq_false (by omega)];rfl),rfl⟩
theorem zux(c:Nat)(h:c<4294967296):bits BinOp.and IntKind.u32 (c:Int) 1=((c % 2:Nat):Int):=by
 have:=u32_and_nat c 1 h (by omega);rw [Nat.and_one_is_mod] at this;exact this
theorem zx9(c:Nat)(h:c<4294967296):bits BinOp.xor IntKind.u32 ((c:Int) / 2) 3988292384=(((c / 2)^^^ 3988292384:Nat):Int):=by
 have:=u32_xor_nat (c / 2) 3988292384 (by omega) (by omega);simpa using this
theorem ztp(x:Nat)(hx:x<4294967296)(w:World):
  Calls prog 191 #[.int .u32 x] w fun e w'=>e= .returned (.int .u32 (steps 8 x:Nat))∧w'=w:=by
 go_enter func191,ntmps191;go_wp2;go_loop [0,4] (fun s i=>∃k:Nat,k<=8∧i= .int .i64 k∧s= .int .u32 (steps k x:Nat)) (fun _ i=>8 - (intOf i).toNat)
 case atStart=>exact⟨0,az _,rfl,rfl⟩
 case round=>
  obtain⟨k,hk,rfl,rfl⟩:=hrel;have hlt:=steps_lt k x hx;by_cases hlt:k<8
  ·go_wp2
   case _ h=>
    rw [zux _ ‹_›] at h;exact⟨⟨k+1,by omega,by go_num,zjg (by rw [zx9 _ ‹_›,steps,Wv.step,aA (by simp at h;omega)])⟩,by simp [intOf];omega⟩
   case _ h=>
    rw [zux _ ‹_›] at h;exact⟨⟨k+1,by omega,by go_num,zjg (by rw [steps,Wv.step,ap (by simp at h;omega)];simp)⟩,by simp [intOf];omega⟩
  ·obtain rfl:k=8:=by omega
   go_wp2;go_ret;exact⟨rfl,rfl⟩
theorem zvi(s:ByteArray)(k:Nat)(h:k<s.size):s.data.toList.take (k+1)=s.data.toList.take k++ [s[k]]:=by
 rw [aC (by simpa using h)];rfl
theorem not_u32(c:Nat)(h:c<4294967296):bits BinOp.xor IntKind.u32 IntKind.u32.max (c:Int)=((4294967295 - c:Nat):Int):=by
 have:=u32_xor_nat 4294967295 c (by omega) h
 have k:4294967295 ^^^ c=4294967295 - c:=by
  apply Nat.eq_of_testBit_eq;intro i;rw [Nat.testBit_xor,show 4294967295=2 ^ 32 - 1 from rfl,Nat.testBit_two_pow_sub_one,show(2 ^ 32 - 1) - c=2 ^ 32 - (c+1) by omega,Nat.testBit_two_pow_sub_succ h];by_cases hi:i<32<;>simp [hi]
  exact Nat.testBit_lt_two_pow (Nat.lt_of_lt_of_le h (Nat.pow_le_pow_right (n:=2) (by omega) (show 32<=i by omega)))
 rw [k] at this;exact this
theorem zya(c:Nat)(b:UInt8)(h:c<4294967296):bits BinOp.xor IntKind.u32 (c:Int) (b.toNat:Int)=((c ^^^ b.toNat:Nat):Int):=
 u32_xor_nat c b.toNat h (by have:=byte_lt b;omega)
theorem of_any(s:ByteArray)(w:World)(hs:s.size<=maxLen):
  Calls prog 168 #[.string s] w fun e w'=>e= .returned (.int .u32 (Wv.sum s.data.toList:Nat))∧w'=w:=by
 unfold maxLen at hs;go_enter func168,ntmps168;go_wp2;go_loop [3,7] (fun c i=>∃k:Nat,k<=s.size∧i= .int .i64 k∧c= .int .u32 (Wv.reg (s.data.toList.take k) 4294967295:Nat)) (fun _ i=>s.size - (intOf i).toNat)
 case atStart=>exact⟨0,az _,rfl,rfl⟩
 case round=>
  obtain⟨k,hk,rfl,rfl⟩:=hrel;have hr:=reg_lt (s.data.toList.take k) 4294967295 (by omega);by_cases hlt:k<s.size
  ·have HS:Hid (Wv.reg (s.data.toList.take (k+1)) 4294967295=steps 8 (Wv.reg (s.data.toList.take k) 4294967295 ^^^ s[k].toNat)):=by
    rw [zvi s k hlt];exact reg_snoc _ _ _
   generalize Wv.reg (s.data.toList.take k) 4294967295=c at *
   have hx:bits BinOp.xor IntKind.u32 (c:Int) ((s[k].toNat:Int) % 4294967296)=((c ^^^ s[k].toNat:Nat):Int):=by
    rw [Int.emod_eq_of_lt (by omega) (by have:=byte_lt s[k];omega)];exact zya c _ hr
   have hl:=xor_byte_lt c s[k] hr;go_wp2_with (go_at_call 191;refine(ztp _ hl _).mono ?_;rintro e w' ⟨rfl,rfl⟩)
   go_round
   case rel=>exact⟨k+1,by omega,by go_num,zjg (by rw [HS.out])⟩
   case measure=>simp [intOf];omega
  ·obtain rfl:k=s.size:=by omega
   go_wp2;go_ret;exact⟨zbo (by rw [aM (by simp),not_u32 _ (reg_lt _ _ (by omega))];rfl),rfl⟩
theorem pk_neg(c n:Int)(h:c<0):Wv.pk c n=(-(c+1)) % n:=by unfold Wv.pk;rw [aA h]
theorem pk_pos(c n:Int)(h:¬c<0):Wv.pk c n=c % n:=by unfold Wv.pk;rw [ap h]
theorem zaq(c n:Int)(w:World)(hc: -9223372036854775808<=c∧c<=9223372036854775807)(hn:0<n∧n<=1048576):
  Calls prog 7 #[.int .i64 c, .int .i64 n] w fun e w'=>e= .returned (.int .i64 (Wv.pk c n))∧w'=w:=by
 go_enter func7,ntmps7;by_cases h:c<0
 ·rw [pk_neg c n h]
  go_wp2;go_ret;exact⟨zbo (by rw [←Int.neg_tmod,Int.tmod_eq_emod_of_nonneg (by omega)]),rfl⟩
 ·rw [pk_pos c n h]
  go_wp2;go_ret;exact⟨rfl,rfl⟩
