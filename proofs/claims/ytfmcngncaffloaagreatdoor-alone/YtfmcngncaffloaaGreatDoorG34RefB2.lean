import Derived.Test.YtfmcngncaffloaaGreatDoorG11DecD
import Derived.OwnWalk
set_option maxHeartbeats 800000
namespace Go.Proofs.YtfmcngncaffloaaGreatDoor
open Go.RowKit
set_option maxRecDepth 100000
def beN(n:Int):Nat->List UInt8
 | 0=> []
 | k+1=>beN (n / 256) k++Wv.be1 n
theorem zqh(n:Int):bits .and .i64 n 255=n % 256:=by
 have h255:(BitVec.ofInt 64 255).toNat=2 ^ 8 - 1:=by decide
 have key:(BitVec.ofInt 64 n &&& BitVec.ofInt 64 255).toNat=(n % ((2 ^ 64:Nat):Int)).toNat % 2 ^ 8:=by
  rw [BitVec.toNat_and,BitVec.toNat_ofInt,h255,Nat.and_two_pow_sub_one_eq_mod]
 show IntKind.i64.wrap ((BitVec.ofInt 64 n &&& BitVec.ofInt 64 255).toNat:Nat)=n % 256
 rw [key,IntKind.wrap_i64]
 omega
theorem zyq(j:Nat)(hj:1<=j)(z u:Value)(t:List Value):(List.replicate j z++t).set (j - 1) u=List.replicate (j - 1) z++u::t:=by
 obtain⟨r,rfl⟩:∃r,j=r+1:=⟨j - 1,by omega⟩
 simp only [Nat.add_sub_cancel]
 rw [List.replicate_succ',List.append_assoc,List.set_append_right _ _ (by simp)]
 simp
theorem zwm{w:World}{B g k j:Nat}{m:Int}{tail:List UInt8}(hj:1<=j)(h:w.ownsRow B 5 1 (.slice (some ⟨g,0,none⟩) k k) k (List.replicate j (.int .u8 0)++tail.map B8)):
  (w.setCell ⟨g,j - 1,none⟩ (.int .u8 (m % 256))).ownsRow B 5 1 (.slice (some ⟨g,0,none⟩) k k) k (List.replicate (j - 1) (.int .u8 0)++(Wv.be1 m++tail).map B8):=by
 have:=(h.stored (j - 1) (.int .u8 (m % 256))).1
 rw [zyq j hj] at this
 have e:(Wv.be1 m++tail).map B8= .int .u8 (m % 256)::tail.map B8:=by simp only [Wv.be1,List.cons_append,List.nil_append,List.map_cons,B8,Wv.ofNat_toNat]
 rw [e]
 exact this
theorem zhf(n:Int)(k:Nat)(hk:k<=8)(hk1:1<=k)(w:World):
  Calls Tryz.prog 145 #[I n,I k] w fun e w'=>e= .returned (.string ⟨(beN n k).toArray⟩)∧Below w.heap.size w w':=by
 obtain⟨i,hi,hz0,hz1,hz2⟩:=info_parts zfh
 go_enter Tryz.func145,Tryz.ntmps145
 go_wp2_with (first | (at_make;go_must (refine wpList_make_full _ rfl _ _ 170 rfl w.heap.size 5 i (.int .u8 0) 1 Tryz.underlying170 hi hz0 hz1 _ _ _ _ k rfl rfl rfl rfl (by rw [hz2];omega) (by unfold maxLen;omega) (Nat.le_refl _) ?_;intro w1 hown hgrow)))
 have HB1:Hid (Below w.heap.size w w1):=⟨hgrow.os,hgrow.tape,hgrow.output,hgrow.size,fun q hq=>hgrow.block q hq (by simp)⟩
 have HO1:Hid (w1.ownsRow w.heap.size 5 1 (.slice (some ⟨w.heap.size,0,none⟩) k k) k (List.replicate k (.int .u8 0)++([]:List UInt8).map B8)):=by
  show w1.ownsRow _ _ _ _ _ _
  have:=hown
  rw [Nat.mul_one,show(Value.int IntKind.u8 0).cells= #[.int .u8 0] from rfl,toList_madeCells_one] at this
  simpa using this
 clear hown hgrow hi hz0 hz1 hz2
 go_loopw [0,6] (fun t x wr=>∃(j:Nat) (m:Int) (tail:List UInt8),j<=k∧x= .int .i64 ((j:Int) - 1)∧t=I m∧Hid (beN n k=beN m j++tail)∧Hid (wr.ownsRow w.heap.size 5 1 (.slice (some ⟨w.heap.size,0,none⟩) k k) k (List.replicate j (.int .u8 0)++tail.map B8))∧Hid (Below w.heap.size w wr)) (fun _ x _=>(intOf x+1).toNat)
 case atStart=>exact⟨k,n, [],Nat.le_refl _,rfl,rfl,by simp [Hid],HO1,HB1⟩
 case round=>
  obtain⟨j,m,tail,hj,rfl,rfl,hbe,hok,hbk⟩:=hrel
  have hand:=zqh m
  by_cases hj1:1<=j
  ·have c0:wr.cell? ⟨w.heap.size,j - 1,none⟩=some (.int .u8 0):=by
    rw [hok.out.cellAt (j - 1) (by omega),List.getElem?_append_left (by simp;omega)]
    rw [List.getElem?_replicate,if_pos (by omega)]
   have f0:=hok.out.frozenAt (j - 1)
   have hi0:(0:Int)<=(j:Int) - 1:=by omega
   have hi1:(j:Int) - 1<(k:Int):=by omega
   go_wp2
   refine⟨⟨j - 1,m / 256,Wv.be1 m++tail,by omega,zdv (by omega),rfl, ?_,zwm hj1 hok.out,hbk.out.setCell (Nat.le_refl _) _⟩,by simp [intOf];omega⟩
   show beN n k=beN (m / 256) (j - 1)++(Wv.be1 m++tail)
   rw [hbe.out,←List.append_assoc]
   obtain⟨r,rfl⟩:∃r,j=r+1:=⟨j - 1,by omega⟩
   rfl
  ·obtain rfl:j=0:=by omega
   have hq:=zit (l:=beN n k) (B:=w.heap.size) (w:=wr) (g:=w.heap.size) (n:=k) (cap:=k) (by
    have:=hok.out
    have e:=hbe.out
    simp only [beN,List.nil_append] at e
    rw [e]
    have hl:tail.length=k:=by have:=hok.out.1;simpa using this
    unfold OwnB
    rw [hl]
    simpa using this)
   go_wp2
   go_ret
   exact⟨rfl,hbk.out⟩
theorem zcr(op:Int)(w:World):
  Calls Tryz.prog 130 #[I op] w fun e w'=>e= .returned (I (if Wv.isOp op then Wv.rKind op else -1))∧w'=w:=by
 have h:op=1∨op=2∨op=3∨op=4∨op=5∨op=6∨¬(1<=op∧op<=6):=by omega
 rcases h with rfl | rfl | rfl | rfl | rfl | rfl | h
 ·go_enter Tryz.func130,Tryz.ntmps130
  go_wp2
  go_ret
  exact⟨rfl,rfl⟩
 ·go_enter Tryz.func130,Tryz.ntmps130
  go_wp2
  go_ret
  exact⟨rfl,rfl⟩
 ·go_enter Tryz.func130,Tryz.ntmps130
  go_wp2
  go_ret
  exact⟨rfl,rfl⟩
 ·go_enter Tryz.func130,Tryz.ntmps130
  go_wp2
  go_ret
  exact⟨rfl,rfl⟩
 ·go_enter Tryz.func130,Tryz.ntmps130
  go_wp2
  go_ret
  exact⟨rfl,rfl⟩
 ·go_enter Tryz.func130,Tryz.ntmps130
  go_wp2
  go_ret
  exact⟨rfl,rfl⟩
 ·have e:(if Wv.isOp op then Wv.rKind op else -1)= -1:=by rw [if_neg];simp [Wv.isOp];omega
  rw [e]
  have h1:(op==1)=false:=by simp;omega
  have h2:(op==2)=false:=by simp;omega
  have h3:(op==3)=false:=by simp;omega
  have h4:(op==4)=false:=by simp;omega
  have h5:(op==5)=false:=by simp;omega
  have h6:(op==6)=false:=by simp;omega
  clear h e
  go_enter Tryz.func130,Tryz.ntmps130
  go_wp2
  go_ret
  exact⟨rfl,rfl⟩
theorem zg4(w:World):Calls Tryz.prog 130 #[I 1] w fun e w'=>e= .returned (I 0)∧w'=w:=zcr 1 w
theorem zg3(w:World):Calls Tryz.prog 130 #[I 2] w fun e w'=>e= .returned (I 1)∧w'=w:=zcr 2 w
theorem zg2(w:World):Calls Tryz.prog 130 #[I 3] w fun e w'=>e= .returned (I 1)∧w'=w:=zcr 3 w
theorem zg1(w:World):Calls Tryz.prog 130 #[I 4] w fun e w'=>e= .returned (I 2)∧w'=w:=zcr 4 w
theorem zg0(w:World):Calls Tryz.prog 130 #[I 5] w fun e w'=>e= .returned (I 3)∧w'=w:=zcr 5 w
theorem zgz(w:World):Calls Tryz.prog 130 #[I 6] w fun e w'=>e= .returned (I 3)∧w'=w:=zcr 6 w
theorem zft(b:Wv.Bt)(k:Int)(ds:List Wv.Dt):Hid (((ds.length:Int)==0)=((decide ((0:Int)<=ds.length) && decide ((ds.length:Int)<=0)) && Wv.dotsOk b k ds)):=by
 show((ds.length:Int)==0)=_
 cases ds with
 | nil=>rfl
 | cons d l=>
  have h1:(((d::l).length:Int)==0)=false:=by rw [beq_eq_false_iff_ne];simp only [List.length_cons];omega
  have h2:decide (((d::l).length:Int)<=0)=false:=by rw [decide_eq_false_iff_not];simp only [List.length_cons];omega
  rw [h1,h2]
  simp
end Go.Proofs.YtfmcngncaffloaaGreatDoor
