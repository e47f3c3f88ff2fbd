import Derived.Test.YtfmcngncaffloaaGreatDoorProg
import Derived.Test.YtfmcngncaffloaaGreatDoorG00BkJ
import Derived.Handy
import Derived.WalkSpells
import Derived.WalkLawsBesides
import Derived.Laws.BitsAllLaws
set_option maxHeartbeats 400000
namespace Go.Proofs.YtfmcngncaffloaaGreatDoor
open Go.RowKit
theorem zbv{k:IntKind}{a b:Int}(h:a=b):Ending.returned (.int k a)= .returned (.int k b):=by rw [h]
theorem zad{a b:Bool}(h:a=b):Ending.returned (.bool a)= .returned (.bool b):=by rw [h]
theorem zdv{k:IntKind}{a b:Int}(h:a=b):Value.int k a= .int k b:=by rw [h]
theorem zai(n a b:Int)(w:World):
  Calls Tryz.prog 115 #[.int .i64 n, .int .i64 a, .int .i64 b] w fun e w'=>e= .returned (.bool (decide (a<=n) && decide (n<=b)))∧w'=w:=by
 go_enter Tryz.func115,Tryz.ntmps115
 go_wp2
 all_goals go_ret
 ·exact⟨zad (by simp [*]),rfl⟩
 ·exact⟨zad (by rw [decide_eq_false (by omega)];rfl),rfl⟩
theorem zsa(c:Nat)(h:c<4294967296):bits BinOp.and IntKind.u32 (c:Int) 1=((c % 2:Nat):Int):=by
 have:=u32_and_nat c 1 h (by omega)
 rw [Nat.and_one_is_mod] at this
 exact this
theorem zu9(c:Nat)(h:c<4294967296):bits BinOp.xor IntKind.u32 ((c:Int) / 2) 3988292384=(((c / 2)^^^ 3988292384:Nat):Int):=by
 have:=u32_xor_nat (c / 2) 3988292384 (by omega) (by omega)
 simpa using this
theorem zq5(x:Nat)(hx:x<4294967296)(w:World):
  Calls Tryz.prog 206 #[.int .u32 x] w fun e w'=>e= .returned (.int .u32 (Wv.steps 8 x:Nat))∧w'=w:=by
 go_enter Tryz.func206,Tryz.ntmps206
 go_wp2
 go_loop [0,4] (fun s i=>∃k:Nat,k<=8∧i= .int .i64 k∧s= .int .u32 (Wv.steps k x:Nat)) (fun _ i=>8 - (intOf i).toNat)
 case atStart=>exact⟨0,Nat.zero_le _,rfl,rfl⟩
 case round=>
  obtain⟨k,hk,rfl,rfl⟩:=hrel
  have hlt:=Wv.steps_lt k x hx
  by_cases hlt:k<8
  ·go_wp2
   case _ h=>
    rw [zsa _ ‹_›] at h
    exact⟨⟨k+1,by omega,by go_num,zdv (by rw [zu9 _ ‹_›,Wv.steps,Wv.step,if_pos (by simp at h;omega)])⟩,by simp [intOf];omega⟩
   case _ h=>
    rw [zsa _ ‹_›] at h
    exact⟨⟨k+1,by omega,by go_num,zdv (by rw [Wv.steps,Wv.step,if_neg (by simp at h;omega)];simp)⟩,by simp [intOf];omega⟩
  ·obtain rfl:k=8:=by omega
   go_wp2
   go_ret
   exact⟨rfl,rfl⟩
theorem zkb(s:ByteArray)(k:Nat)(h:k<s.size):s.data.toList.take (k+1)=s.data.toList.take k++ [s[k]]:=by
 rw [List.take_succ_eq_append_getElem (by simpa using h)];rfl
theorem zyu(c:Nat)(h:c<4294967296):bits BinOp.xor IntKind.u32 IntKind.u32.max (c:Int)=((4294967295 - c:Nat):Int):=by
 have:=u32_xor_nat 4294967295 c (by omega) h
 have k:4294967295 ^^^ c=4294967295 - c:=by
  apply Nat.eq_of_testBit_eq
  intro i
  rw [Nat.testBit_xor,show 4294967295=2 ^ 32 - 1 from rfl,Nat.testBit_two_pow_sub_one,show(2 ^ 32 - 1) - c=2 ^ 32 - (c+1) by omega,Nat.testBit_two_pow_sub_succ h]
  by_cases hi:i<32<;>simp [hi]
  exact Nat.testBit_lt_two_pow (Nat.lt_of_lt_of_le h (Nat.pow_le_pow_right (n:=2) (by omega) (show 32<=i by omega)))
 rw [k] at this
 exact this
theorem zva(c:Nat)(b:UInt8)(h:c<4294967296):bits BinOp.xor IntKind.u32 (c:Int) (b.toNat:Int)=((c ^^^ b.toNat:Nat):Int):=
 u32_xor_nat c b.toNat h (by have:=Wv.byte_lt b;omega)
theorem zzz(s:ByteArray)(w:World)(hs:s.size<=maxLen):
  Calls Tryz.prog 186 #[.string s] w fun e w'=>e= .returned (.int .u32 (Wv.sum s.data.toList:Nat))∧w'=w:=by
 unfold maxLen at hs
 go_enter Tryz.func186,Tryz.ntmps186
 go_wp2
 go_loop [3,7] (fun c i=>∃k:Nat,k<=s.size∧i= .int .i64 k∧c= .int .u32 (Wv.reg (s.data.toList.take k) 4294967295:Nat)) (fun _ i=>s.size - (intOf i).toNat)
 case atStart=>exact⟨0,Nat.zero_le _,rfl,rfl⟩
 case round=>
  obtain⟨k,hk,rfl,rfl⟩:=hrel
  have hr:=Wv.reg_lt (s.data.toList.take k) 4294967295 (by omega)
  by_cases hlt:k<s.size
  ·have HS:Hid (Wv.reg (s.data.toList.take (k+1)) 4294967295=Wv.steps 8 (Wv.reg (s.data.toList.take k) 4294967295 ^^^ s[k].toNat)):=by
    rw [zkb s k hlt];exact Wv.reg_snoc _ _ _
   generalize Wv.reg (s.data.toList.take k) 4294967295=c at *
   have hx:bits BinOp.xor IntKind.u32 (c:Int) ((s[k].toNat:Int) % 4294967296)=((c ^^^ s[k].toNat:Nat):Int):=by
    rw [Int.emod_eq_of_lt (by omega) (by have:=Wv.byte_lt s[k];omega)];exact zva c _ hr
   have hl:=Wv.xor_byte_lt c s[k] hr
   go_wp2_with (go_at_call 206;refine(zq5 _ hl _).mono ?_;rintro e w' ⟨rfl,rfl⟩)
   go_round
   case rel=>exact⟨k+1,by omega,by go_num,zdv (by rw [HS.out])⟩
   case measure=>simp [intOf];omega
  ·obtain rfl:k=s.size:=by omega
   go_wp2
   go_ret
   exact⟨zbv (by rw [List.take_of_length_le (by simp),zyu _ (Wv.reg_lt _ _ (by omega))];rfl),rfl⟩
theorem zoq(c:Nat)(h:c<4294967296):bits BinOp.xor IntKind.i64 ((c:Int) / 2) 3988292384=(((c / 2)^^^ 3988292384:Nat):Int):=by
 have hx:c / 2 ^^^ 3988292384<2 ^ 32:=Nat.xor_lt_two_pow (by omega) (by omega)
 have e:((c:Int) / 2)=((c / 2:Nat):Int):=by omega
 rw [e]
 show IntKind.i64.wrap ((BitVec.ofInt 64 ((c / 2:Nat):Int)^^^ BitVec.ofInt 64 ((3988292384:Nat):Int)).toNat:Int)=_
 rw [BitVec.toNat_xor,BitVec.ofInt_natCast,BitVec.ofInt_natCast,BitVec.toNat_ofNat,BitVec.toNat_ofNat,Nat.mod_eq_of_lt (by omega),Nat.mod_eq_of_lt (by omega),IntKind.wrap_i64]
 omega
theorem zoo(c b j:Nat):((((b:Int) / 2 ^ j).tmod 2 !=(c:Int) % 2)=true)↔¬(b / 2 ^ j % 2=c % 2):=by
 have e:((b:Int) / 2 ^ j)=((b / 2 ^ j:Nat):Int):=by simp
 rw [e,Int.tmod_eq_emod_of_nonneg (Int.natCast_nonneg _)]
 generalize b / 2 ^ j=q
 simp only [bne_iff_ne,ne_eq]
 omega
theorem zo9(s:ByteArray)(w:World)(hs:s.size<=maxLen):
  Calls Tryz.prog 146 #[.string s] w fun e w'=>e= .returned (.int .i64 (Wv.sum s.data.toList:Nat))∧w'=w:=by
 unfold maxLen at hs
 go_enter Tryz.func146,Tryz.ntmps146
 go_wp2
 go_loop [3,4] (fun c i=>∃k:Nat,k<=s.size∧i= .int .i64 k∧c= .int .i64 (Wv.reg (s.data.toList.take k) 4294967295:Nat)) (fun _ i=>s.size - (intOf i).toNat)
 case atStart=>exact⟨0,Nat.zero_le _,rfl,rfl⟩
 case round=>
  obtain⟨k,hk,rfl,rfl⟩:=hrel
  have hr:=Wv.reg_lt (s.data.toList.take k) 4294967295 (by omega)
  by_cases hlt:k<s.size
  ·have HS:Hid (Wv.reg (s.data.toList.take (k+1)) 4294967295=Wv.steps 8 (Wv.reg (s.data.toList.take k) 4294967295 ^^^ s[k].toNat)):=by
    rw [zkb s k hlt];exact Wv.reg_snoc _ _ _
   generalize Wv.reg (s.data.toList.take k) 4294967295=c at *
   go_wp2
   go_loop [3,5] (fun d i=>∃j:Nat,j<=8∧i= .int .i64 j∧d= .int .i64 (Wv.bsteps s[k].toNat j c:Nat)) (fun _ i=>8 - (intOf i).toNat)
   case atStart=>exact⟨0,Nat.zero_le _,rfl,rfl⟩
   case round=>
    obtain⟨j,hj,rfl,rfl⟩:=hrel
    have hb:=Wv.bsteps_lt s[k].toNat j c hr
    by_cases hlt:j<8
    ·have hw:wrap64 (s[k].toNat:Int)=(s[k].toNat:Int):=by have:=Wv.byte_lt s[k];unfold wrap64;omega
     go_wp2
     case _ h=>
      rw [zoo] at h
      exact⟨⟨j+1,by omega,by go_num,zdv (by rw [zoq _ hb,Wv.bsteps,Wv.bstep,if_neg h])⟩,by simp [intOf];omega⟩
     case _ h=>
      have h:=(not_congr (zoo _ _ _)).1 (Bool.eq_false_iff.1 h)
      exact⟨⟨j+1,by omega,by go_num,zdv (by rw [Wv.bsteps,Wv.bstep,if_pos (by simpa using h)];simp)⟩,by simp [intOf];omega⟩
    ·obtain rfl:j=8:=by omega
     have HE:Hid (Wv.bsteps s[k].toNat 8 c=Wv.steps 8 (c ^^^ s[k].toNat)):=Wv.bsteps_eight c s[k]
     go_wp2
     exact⟨⟨k+1,by omega,by go_num,zdv (by rw [HE.out,HS.out])⟩,by simp [intOf];omega⟩
  ·obtain rfl:k=s.size:=by omega
   go_wp2
   go_ret
   exact⟨zbv (by rw [List.take_of_length_le (by simp),Wv.sum];have:=Wv.reg_lt s.data.toList 4294967295 (by omega);omega),rfl⟩
end Go.Proofs.YtfmcngncaffloaaGreatDoor
