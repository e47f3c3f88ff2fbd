import Derived.Test.YtfmcngncaffloaaGreatDoorG35RefC
import Derived.Test.YtfmcngncaffloaaGreatDoorG36RefD
import Derived.Test.YtfmcngncaffloaaGreatDoorG37RefE
import Derived.Test.YtfmcngncaffloaaGreatDoorG38RefF
set_option maxHeartbeats 6400000
namespace Go.Proofs.YtfmcngncaffloaaGreatDoor
open Go.RowKit
set_option maxRecDepth 100000
theorem zt0(op:Int)(w:World)(h:¬(1<=op∧op<=6)):Calls Tryz.prog 130 #[I op] w fun e w'=>e= .returned (I (-1))∧w'=w:=by
 have e:(if Wv.isOp op then Wv.rKind op else -1)= -1:=by rw [if_neg];simp [Wv.isOp];omega
 have:=zcr op w
 rw [e] at this
 exact this
theorem zp9(b:Wv.Bt)(ca:Option Addr)(cc ec p q:Nat)(k:Nat)(m:Em)(w:World)(hk:k<b.effs.length)(hp:p<w.heap.size)
  (c0:w.cell? ⟨p,q+k*7,none⟩=some (I m.e.op)) (c1:w.cell? ⟨p,q+k*7+1,none⟩=some (I m.e.ob)) (c2:w.cell? ⟨p,q+k*7+2,none⟩=some (I m.e.va)) (c3:w.cell? ⟨p,q+k*7+3,none⟩=some (I m.e.ref.o)) (c4:w.cell? ⟨p,q+k*7+4,none⟩=some (I m.e.ref.s)) (c5:w.cell? ⟨p,q+k*7+5,none⟩=some (I m.e.ref.i)) (c6:w.cell? ⟨p,q+k*7+6,none⟩=some (.slice m.da m.e.dots.length m.dc)) (hop:¬(1<=m.e.op∧m.e.op<=6)):
  Calls Tryz.prog 201 #[bV b ca (some ⟨p,q,none⟩) cc ec,I k] w fun e w'=>e= .returned (.bool (Wv.effOk b k m.e))∧Below w.heap.size w w':=by
 have hki:(k:Int)<(b.effs.length:Int):=by omega
 have HF:Hid (Wv.effOk b k m.e=false):=by
  have:Wv.isOp m.e.op=false:=by simp [Wv.isOp];omega
  show Wv.effOk b k m.e=false
  simp [Wv.effOk,this]
 have HOP:Hid (¬(1<=m.e.op∧m.e.op<=6)):=hop
 clear hop
 go_enter Tryz.func201,Tryz.ntmps201
 go_wp2_with (first | (go_at_call 130;refine(zt0 _ _ HOP.out).mono ?_;rintro e w' ⟨rfl,h⟩;subst h))
 go_ret
 exact⟨zad HF.out.symm,((Below.refl _ _).alloc (Nat.le_refl _) _).alloc (by simp) _⟩
theorem zlv(b:Wv.Bt)(ca:Option Addr)(cc ec p q:Nat)(k:Nat)(m:Em)(w:World)(h:At w ca (b.clock.map I))(hk:k<b.effs.length)(hp:p<w.heap.size)
  (c0:w.cell? ⟨p,q+k*7,none⟩=some (I m.e.op)) (c1:w.cell? ⟨p,q+k*7+1,none⟩=some (I m.e.ob)) (c2:w.cell? ⟨p,q+k*7+2,none⟩=some (I m.e.va)) (c3:w.cell? ⟨p,q+k*7+3,none⟩=some (I m.e.ref.o)) (c4:w.cell? ⟨p,q+k*7+4,none⟩=some (I m.e.ref.s)) (c5:w.cell? ⟨p,q+k*7+5,none⟩=some (I m.e.ref.i)) (c6:w.cell? ⟨p,q+k*7+6,none⟩=some (.slice m.da m.e.dots.length m.dc)) (hd:At w m.da (flat zab m.e.dots)):
  Calls Tryz.prog 201 #[bV b ca (some ⟨p,q,none⟩) cc ec,I k] w fun e w'=>e= .returned (.bool (Wv.effOk b k m.e))∧Below w.heap.size w w':=by
 have ho:m.e.op=1∨m.e.op=2∨m.e.op=3∨m.e.op=4∨m.e.op=5∨m.e.op=6∨¬(1<=m.e.op∧m.e.op<=6):=by omega
 rcases ho with ho | ho | ho | ho | ho | ho | ho
 ·exact zp8 b ca cc ec p q k m w h hk hp c0 c1 c2 c3 c4 c5 c6 ho
 ·exact zp7 b ca cc ec p q k m w h hk hp c0 c1 c2 c3 c4 c5 c6 ho
 ·exact zp6 b ca cc ec p q k m w h hk hp c0 c1 c2 c3 c4 c5 c6 ho hd
 ·exact zp5 b ca cc ec p q k m w h hk hp c0 c1 c2 c3 c4 c5 c6 ho hd
 ·exact zp4 b ca cc ec p q k m w h hk hp c0 c1 c2 c3 c4 c5 c6 ho
 ·exact zp3 b ca cc ec p q k m w h hk hp c0 c1 c2 c3 c4 c5 c6 ho
 ·exact zp9 b ca cc ec p q k m w hk hp c0 c1 c2 c3 c4 c5 c6 ho
theorem zeu(b:Wv.Bt)(h:¬hNum b):Wv.isB b=false:=by rw [Wv.isB,zxl b h];rfl
theorem zry(b:Wv.Bt)(k:Nat)(hk:k<b.clock.length)(h:Wv.cOk b k=false):Wv.isB b=false:=by
 rw [Wv.isB,Wv.headOk,show Wv.clkOk b=false from Wv.clkTo_no b _ k hk h];simp
theorem zyy(b:Wv.Bt)(h0:0<=b.o)(h1:b.o<b.clock.length)(h:¬b.clock.getD b.o.toNat 0=b.s - 1):Wv.isB b=false:=by
 refine zry b b.o.toNat (by omega) ?_
 have e:((b.o.toNat:Nat):Int)=b.o:=by omega
 have h':(b.clock.getD b.o.toNat 0==b.s - 1)=false:=by rw [beq_eq_false_iff_ne];exact h
 simp only [Wv.cOk,e,h']
 simp
theorem zt6(b:Wv.Bt)(ca ea:Option Addr)(cc ec:Nat)(w:World)(h1:¬(2<=b.clock.length∧b.clock.length<=4∧0<=b.o∧b.o<b.clock.length)):
  Calls Tryz.prog 179 #[bV b ca ea cc ec] w fun e w'=>e= .returned (.bool (Wv.isB b))∧Below w.heap.size w w':=by
 have HF:Hid (Wv.isB b=false):=zeu b (by unfold hNum;omega)
 have HN:Hid (¬(2<=b.clock.length∧b.clock.length<=4∧0<=b.o∧b.o<b.clock.length)):=h1
 clear h1
 go_enter Tryz.func179,Tryz.ntmps179
 go_wp2_with fail
 all_goals first | (go_ret;exact⟨zad HF.out.symm,(Below.refl _ _).alloc (Nat.le_refl _) _⟩) | (exfalso;exact HN.out (by omega))
theorem zqd(b:Wv.Bt)(ca ea:Option Addr)(cc ec:Nat)(w:World)(a1:2<=b.clock.length)(a2:b.clock.length<=4)(a3:0<=b.o)(a4:b.o<b.clock.length)(g0:b.s<1):
  Calls Tryz.prog 179 #[bV b ca ea cc ec] w fun e w'=>e= .returned (.bool (Wv.isB b))∧Below w.heap.size w w':=by
 have HF:Hid (Wv.isB b=false):=zeu b (by unfold hNum;omega)
 have k1:(2:Int)<=(b.clock.length:Int):=by omega
 have k2:(b.clock.length:Int)<=4:=by omega
 have d0:decide (b.s<1)=true:=by simp;omega
 go_enter Tryz.func179,Tryz.ntmps179
 go_wp2_with fail
 go_quiet (fail)
 go_wp2
 go_ret
 exact⟨zad HF.out.symm,zal ((Below.refl _ _).alloc (Nat.le_refl _) _) _⟩
theorem zqc(b:Wv.Bt)(ca ea:Option Addr)(cc ec:Nat)(w:World)(a1:2<=b.clock.length)(a2:b.clock.length<=4)(a3:0<=b.o)(a4:b.o<b.clock.length)(g0:1<=b.s)(g1:30<b.s):
  Calls Tryz.prog 179 #[bV b ca ea cc ec] w fun e w'=>e= .returned (.bool (Wv.isB b))∧Below w.heap.size w w':=by
 have HF:Hid (Wv.isB b=false):=zeu b (by unfold hNum;omega)
 have k1:(2:Int)<=(b.clock.length:Int):=by omega
 have k2:(b.clock.length:Int)<=4:=by omega
 have d0:decide (b.s<1)=false:=by simp;omega
 have d1:decide (30<b.s)=true:=by simp;omega
 go_enter Tryz.func179,Tryz.ntmps179
 go_wp2_with fail
 go_quiet (fail)
 go_wp2
 go_ret
 exact⟨zad HF.out.symm,zal ((Below.refl _ _).alloc (Nat.le_refl _) _) _⟩
theorem zqb(b:Wv.Bt)(ca ea:Option Addr)(cc ec:Nat)(w:World)(a1:2<=b.clock.length)(a2:b.clock.length<=4)(a3:0<=b.o)(a4:b.o<b.clock.length)(g0:1<=b.s)(g1:b.s<=30)(g2:b.t<1):
  Calls Tryz.prog 179 #[bV b ca ea cc ec] w fun e w'=>e= .returned (.bool (Wv.isB b))∧Below w.heap.size w w':=by
 have HF:Hid (Wv.isB b=false):=zeu b (by unfold hNum;omega)
 have k1:(2:Int)<=(b.clock.length:Int):=by omega
 have k2:(b.clock.length:Int)<=4:=by omega
 have d0:decide (b.s<1)=false:=by simp;omega
 have d1:decide (30<b.s)=false:=by simp;omega
 have d2:decide (b.t<1)=true:=by simp;omega
 go_enter Tryz.func179,Tryz.ntmps179
 go_wp2_with fail
 go_quiet (fail)
 go_wp2
 go_ret
 exact⟨zad HF.out.symm,zal ((Below.refl _ _).alloc (Nat.le_refl _) _) _⟩
theorem zqa(b:Wv.Bt)(ca ea:Option Addr)(cc ec:Nat)(w:World)(a1:2<=b.clock.length)(a2:b.clock.length<=4)(a3:0<=b.o)(a4:b.o<b.clock.length)(g0:1<=b.s)(g1:b.s<=30)(g2:1<=b.t)(g3:200<b.t):
  Calls Tryz.prog 179 #[bV b ca ea cc ec] w fun e w'=>e= .returned (.bool (Wv.isB b))∧Below w.heap.size w w':=by
 have HF:Hid (Wv.isB b=false):=zeu b (by unfold hNum;omega)
 have k1:(2:Int)<=(b.clock.length:Int):=by omega
 have k2:(b.clock.length:Int)<=4:=by omega
 have d0:decide (b.s<1)=false:=by simp;omega
 have d1:decide (30<b.s)=false:=by simp;omega
 have d2:decide (b.t<1)=false:=by simp;omega
 have d3:decide (200<b.t)=true:=by simp;omega
 go_enter Tryz.func179,Tryz.ntmps179
 go_wp2_with fail
 go_quiet (fail)
 go_wp2
 go_ret
 exact⟨zad HF.out.symm,zal ((Below.refl _ _).alloc (Nat.le_refl _) _) _⟩
theorem zt5(b:Wv.Bt)(ca ea:Option Addr)(cc ec:Nat)(w:World)(a1:2<=b.clock.length)(a2:b.clock.length<=4)(a3:0<=b.o)(a4:b.o<b.clock.length)(h2:¬(1<=b.s∧b.s<=30∧1<=b.t∧b.t<=200)):
  Calls Tryz.prog 179 #[bV b ca ea cc ec] w fun e w'=>e= .returned (.bool (Wv.isB b))∧Below w.heap.size w w':=by
 by_cases g1:1<=b.s
 ·by_cases g2:b.s<=30
  ·by_cases g3:1<=b.t
   ·exact zqa b ca ea cc ec w a1 a2 a3 a4 g1 g2 g3 (by omega)
   ·exact zqb b ca ea cc ec w a1 a2 a3 a4 g1 g2 (by omega)
  ·exact zqc b ca ea cc ec w a1 a2 a3 a4 g1 (by omega)
 ·exact zqd b ca ea cc ec w a1 a2 a3 a4 (by omega)
theorem zh5(l:List Int)(k:Nat)(h:k<l.length):(l.map I)[k]?=some (I (l.getD k 0)):=by simp [h]
theorem zx5(b:Wv.Bt)(h0:0<=b.o)(ho:b.clock.getD b.o.toNat 0=b.s - 1)(k:Nat)(h:0<=b.clock.getD k 0∧b.clock.getD k 0<=30)(hto:Wv.clkTo b k=true):Wv.clkTo b (k+1)=true:=by
 rw [Wv.clkTo,hto,Wv.cOk]
 by_cases e:(k:Int)=b.o
 ·have:k=b.o.toNat:=by omega
  rw [this,ho] at h ⊢
  simp [h]
  omega
 ·have:((k:Int)==b.o)=false:=by rw [beq_eq_false_iff_ne];exact e
  simp only [this,h.1,h.2]
  simp
theorem zt4(b:Wv.Bt)(ea:Option Addr)(cc ec p q:Nat)(w:World)(a1:2<=b.clock.length)(a2:b.clock.length<=4)(a3:0<=b.o)(a4:b.o<b.clock.length)(g1:1<=b.s)(g2:b.s<=30)(g3:1<=b.t)(g4:b.t<=200)
  (hc:Hid (∀j u,(b.clock.map I)[j]?=some u->w.cell? ⟨p,q+j,none⟩=some u)) (hp:p<w.heap.size) (hz:¬b.clock.getD b.o.toNat 0=b.s - 1):
  Calls Tryz.prog 179 #[bV b (some ⟨p,q,none⟩) ea cc ec] w fun e w'=>e= .returned (.bool (Wv.isB b))∧Below w.heap.size w w':=by
 have HF:Hid (Wv.isB b=false):=zyy b a3 a4 hz
 have k1:(2:Int)<=(b.clock.length:Int):=by omega
 have k2:(b.clock.length:Int)<=4:=by omega
 have c0:w.cell? ⟨p,q+b.o.toNat,none⟩=some (I (b.clock.getD b.o.toNat 0)):=hc.out _ _ (zh5 b.clock _ (by omega))
 have hz':(b.clock.getD b.o.toNat 0 !=b.s - 1)=true:=by rw [bne_iff_ne];exact hz
 generalize b.clock.getD b.o.toNat 0=z at c0 hz'
 have d0:decide (b.s<1)=false:=by simp;omega
 have d1:decide (30<b.s)=false:=by simp;omega
 have d2:decide (b.t<1)=false:=by simp;omega
 have d3:decide (200<b.t)=false:=by simp;omega
 clear hz
 go_enter Tryz.func179,Tryz.ntmps179
 go_wp2_with fail
 go_quiet (fail)
 go_wp2
 go_ret
 exact⟨zad HF.out.symm,zal ((Below.refl _ _).alloc (Nat.le_refl _) _) _⟩
theorem zt3(b:Wv.Bt)(ea:Option Addr)(cc ec p q:Nat)(ms:List Em)(w:World)(a1:2<=b.clock.length)(a2:b.clock.length<=4)(a3:0<=b.o)(a4:b.o<b.clock.length)(g1:1<=b.s)(g2:b.s<=30)(g3:1<=b.t)(g4:b.t<=200)
  (h:BatAt w b (some ⟨p,q,none⟩) ea ms) (hc:Hid (∀j u,(b.clock.map I)[j]?=some u->w.cell? ⟨p,q+j,none⟩=some u)) (hp:p<w.heap.size) (hz:b.clock.getD b.o.toNat 0=b.s - 1) (hn':b.effs.length<=9223372036854775807):
  Calls Tryz.prog 179 #[bV b (some ⟨p,q,none⟩) ea cc ec] w fun e w'=>e= .returned (.bool (Wv.isB b))∧Below w.heap.size w w':=by
 have h':Hid (BatAt w b (some ⟨p,q,none⟩) ea ms):=h
 have k1:(2:Int)<=(b.clock.length:Int):=by omega
 have k2:(b.clock.length:Int)<=4:=by omega
 have c0:w.cell? ⟨p,q+b.o.toNat,none⟩=some (I (b.clock.getD b.o.toNat 0)):=hc.out _ _ (zh5 b.clock _ (by omega))
 have hz':(b.clock.getD b.o.toNat 0 !=b.s - 1)=false:=by rw [bne_eq_false_iff_eq];exact hz
 have HZ:Hid (b.clock.getD b.o.toNat 0=b.s - 1):=hz
 clear hz h
 generalize b.clock.getD b.o.toNat 0=z at c0 hz'
 have d0:decide (b.s<1)=false:=by simp;omega
 have d1:decide (30<b.s)=false:=by simp;omega
 have d2:decide (b.t<1)=false:=by simp;omega
 have d3:decide (200<b.t)=false:=by simp;omega
 go_enter Tryz.func179,Tryz.ntmps179
 go_wp2_with fail
 go_quiet (fail)
 go_wp2_with fail
 clear c0 hz' d0 d1 d2 d3
 go_loop [4] (fun x=>∃k:Nat,k<=b.clock.length∧x=I k∧Hid (Wv.clkTo b k=true)) (fun x=>b.clock.length - (intOf x).toNat)
 case atStart=>exact⟨0,Nat.zero_le _,rfl,rfl⟩
 case round=>
  obtain⟨k,hk,rfl,hto⟩:=hrel
  by_cases hlt:k<b.clock.length
  ·have c1:w.cell? ⟨p,q+k,none⟩=some (I (b.clock.getD k 0)):=hc.out _ _ (zh5 b.clock _ hlt)
   have hki:(k:Int)<(b.clock.length:Int):=by omega
   have HY:Hid (0<=b.clock.getD k 0∧b.clock.getD k 0<=30->Wv.clkTo b (k+1)=true):=fun hh=>zx5 b a3 HZ.out k hh hto.out
   have HX:Hid (¬(0<=b.clock.getD k 0∧b.clock.getD k 0<=30)->Wv.isB b=false):=fun hh=>zry b k hlt (by simp only [Wv.cOk,Bool.and_eq_false_iff,decide_eq_false_iff_not];omega)
   generalize b.clock.getD k 0=zk at c1 HY HX
   by_cases e0:0<=zk
   ·by_cases e1:zk<=30
    ·have HT:Hid (Wv.clkTo b (k+1)=true):=HY.out ⟨e0,e1⟩
     go_wp2_with fail
     exact⟨⟨k+1,by omega,by go_num,HT⟩,by simp [intOf];omega⟩
    ·have HF:Hid (Wv.isB b=false):=HX.out (by omega)
     have e2:30<zk:=by omega
     clear e1
     go_wp2_with fail
     go_ret
     exact⟨zad HF.out.symm,zal ((Below.refl _ _).alloc (Nat.le_refl _) _) _⟩
   ·have HF:Hid (Wv.isB b=false):=HX.out (by omega)
    have e2:zk<0:=by omega
    clear e0
    go_wp2_with fail
    go_ret
    exact⟨zad HF.out.symm,zal ((Below.refl _ _).alloc (Nat.le_refl _) _) _⟩
  ·obtain rfl:k=b.clock.length:=by omega
   have HCLK:Hid (Wv.clkOk b=true):=hto
   by_cases hL0:1<=b.effs.length
   ·by_cases hL1:b.effs.length<=5
    ·have HNUM:Hid (hNum b):=by show hNum b;unfold hNum;omega
     have k3:(1:Int)<=(b.effs.length:Int):=by omega
     have k4:(b.effs.length:Int)<=5:=by omega
     have hml:ms.length=b.effs.length:=by rw [h'.out.effs];simp
     obtain⟨p2,q2,hea,hp2,hc2⟩:=ze0 h'.out.cells (by omega)
     have hce:Hid _:=hc2
     subst hea
     clear hc2
     go_wp2_with fail
     go_loopw [5] (fun x wr=>∃k:Nat,k<=b.effs.length∧x=I k∧Hid (Wv.effsTo b k=true)∧Hid (Below (w.heap.size+1) (w.alloc (.cells #[I b.o,I b.s,I b.t, .slice (some ⟨p,q,none⟩) b.clock.length cc, .slice (some ⟨p2,q2,none⟩) b.effs.length ec] 124)) wr)) (fun x _=>b.effs.length - (intOf x).toNat)
     case atStart=>exact⟨0,Nat.zero_le _,rfl,rfl,zal (Below.refl _ _) _⟩
     case round=>
      obtain⟨k,hk,rfl,hto,hbk⟩:=hrel
      have HBr:Hid (Below w.heap.size w wr):=((Below.refl _ _).alloc (Nat.le_refl _) _).trans (hbk.out.mono (by omega))
      have hszr:w.heap.size<wr.heap.size:=by have:=hbk.out.size;simp at this;omega
      have y0:wr.cell? ⟨w.heap.size,0,none⟩=some (I b.o):=(hbk.out.cell (p:=⟨w.heap.size,0,none⟩) (by simp)).trans (World.cell?_alloc_mark w _ _ _ 0)
      have y1:wr.cell? ⟨w.heap.size,1,none⟩=some (I b.s):=(hbk.out.cell (p:=⟨w.heap.size,1,none⟩) (by simp)).trans (World.cell?_alloc_mark w _ _ _ 1)
      have y2:wr.cell? ⟨w.heap.size,2,none⟩=some (I b.t):=(hbk.out.cell (p:=⟨w.heap.size,2,none⟩) (by simp)).trans (World.cell?_alloc_mark w _ _ _ 2)
      have y3:wr.cell? ⟨w.heap.size,3,none⟩=some (.slice (some ⟨p,q,none⟩) b.clock.length cc):=(hbk.out.cell (p:=⟨w.heap.size,3,none⟩) (by simp)).trans (World.cell?_alloc_mark w _ _ _ 3)
      have y4:wr.cell? ⟨w.heap.size,4,none⟩=some (.slice (some ⟨p2,q2,none⟩) b.effs.length ec):=(hbk.out.cell (p:=⟨w.heap.size,4,none⟩) (by simp)).trans (World.cell?_alloc_mark w _ _ _ 4)
      by_cases hlt:k<b.effs.length
      ·have hlt':k<ms.length:=by omega
       obtain⟨c0,c1,c2,c3,c4,c5,c6⟩:=hce.out k hlt'
       have HM:Hid (ms[k]∈ms∧b.effs.getD k ⟨0,0,0,⟨0,0,0⟩, []⟩=ms[k].e):=⟨List.getElem_mem _,by rw [h'.out.effs];simp [hlt']⟩
       have hki:(k:Int)<(b.effs.length:Int):=by omega
       generalize ms[k]=m at c0 c1 c2 c3 c4 c5 c6 HM
       go_wp2_with fail
       refine(zlv b (some ⟨p,q,none⟩) cc ec p2 q2 k m wr (h'.out.kept HBr.out).clock hlt (by omega) (zaa HBr.out c0) (zaa HBr.out c1) (zaa HBr.out c2) (zaa HBr.out c3) (zaa HBr.out c4) (zaa HBr.out c5) (zaa HBr.out c6) ((h'.out.dots m HM.out.1).kept HBr.out)).mono ?_
       rintro e w2 ⟨rfl,hb2⟩
       have HB2:Hid (Below wr.heap.size wr w2):=hb2
       clear hb2 c0 c1 c2 c3 c4 c5 c6 y0 y1 y2 y3 y4
       generalize hok:Wv.effOk b k m.e=ok
       have HOK:Hid (Wv.effOk b k m.e=ok):=hok
       clear hok
       cases ok
       ·have HF:Hid (Wv.isB b=false):=by
         show Wv.isB b=false
         rw [Wv.isB,Wv.effsTo_no b _ k hlt (by rw [HM.out.2,HOK.out]),Bool.and_false]
        go_wp2
        go_ret
        exact⟨zad HF.out.symm,HBr.out.trans (HB2.out.mono (by omega))⟩
       ·have HT:Hid (Wv.effsTo b (k+1)=true):=by
         show(Wv.effsTo b k && Wv.effOk b k _)=true
         rw [hto.out,HM.out.2,HOK.out];rfl
        go_wp2
        exact⟨⟨k+1,by omega,by go_num,HT,hbk.out.trans (HB2.out.mono (by omega))⟩,by simp [intOf];omega⟩
      ·obtain rfl:k=b.effs.length:=by omega
       have HT:Hid (Wv.isB b=true):=by show Wv.isB b=true;rw [Wv.isB,zr0 b HNUM.out,HCLK.out,hto.out];rfl
       go_wp2
       go_ret
       exact⟨zad HT.out.symm,HBr.out⟩
    ·have HF:Hid (Wv.isB b=false):=zeu b (by unfold hNum;omega)
     have k4:(5:Int)<(b.effs.length:Int):=by omega
     have k3:(1:Int)<=(b.effs.length:Int):=by omega
     clear hL1
     go_wp2_with fail
     go_ret
     exact⟨zad HF.out.symm,zal ((Below.refl _ _).alloc (Nat.le_refl _) _) _⟩
   ·have HF:Hid (Wv.isB b=false):=zeu b (by unfold hNum;omega)
    have k3:(b.effs.length:Int)<1:=by omega
    clear hL0
    go_wp2_with fail
    go_ret
    exact⟨zad HF.out.symm,zal ((Below.refl _ _).alloc (Nat.le_refl _) _) _⟩
theorem znj(b:Wv.Bt)(ca ea:Option Addr)(cc ec:Nat)(ms:List Em)(w:World)(h:BatAt w b ca ea ms)(hn':b.effs.length<=9223372036854775807):
  Calls Tryz.prog 179 #[bV b ca ea cc ec] w fun e w'=>e= .returned (.bool (Wv.isB b))∧Below w.heap.size w w':=by
 by_cases h1:2<=b.clock.length∧b.clock.length<=4∧0<=b.o∧b.o<b.clock.length
 ·obtain⟨a1,a2,a3,a4⟩:=h1
  by_cases h2:1<=b.s∧b.s<=30∧1<=b.t∧b.t<=200
  ·obtain⟨g1,g2,g3,g4⟩:=h2
   obtain⟨p,q,rfl,hp,hc⟩:=h.clock.first (by simp;omega)
   by_cases hz:b.clock.getD b.o.toNat 0=b.s - 1
   ·exact zt3 b ea cc ec p q ms w a1 a2 a3 a4 g1 g2 g3 g4 h hc hp hz hn'
   ·exact zt4 b ea cc ec p q w a1 a2 a3 a4 g1 g2 g3 g4 hc hp hz
  ·exact zt5 b ca ea cc ec w a1 a2 a3 a4 h2
 ·exact zt6 b ca ea cc ec w h1
theorem zf9(n:Int)(w:World):Calls Tryz.prog 145 #[I n, .int .i64 1] w fun e w'=>e= .returned (.string ⟨(Wv.be1 n).toArray⟩)∧Below w.heap.size w w':=by
 have:=zhf n 1 (by omega) (by omega) w
 simpa [beN] using this
theorem zx8(n:Int)(w:World):Calls Tryz.prog 145 #[I n, .int .i64 2] w fun e w'=>e= .returned (.string ⟨(Wv.be2 n).toArray⟩)∧Below w.heap.size w w':=by
 have e:beN n 2=Wv.be2 n:=by simp [beN,Wv.be1,Wv.be2]
 have:=zhf n 2 (by omega) (by omega) w
 rw [e] at this
 exact this
theorem bytes4(n:Int)(w:World):Calls Tryz.prog 145 #[I n, .int .i64 4] w fun e w'=>e= .returned (.string ⟨(Wv.be4 n).toArray⟩)∧Below w.heap.size w w':=by
 have e:beN n 4=Wv.be4 n:=by
  simp only [beN,Wv.be1,Wv.be4,List.nil_append,List.cons_append]
  have h2:n / 256 / 256=n / 65536:=by omega
  have h3:n / 256 / 256 / 256=n / 16777216:=by omega
  rw [h3,h2]
 have:=zhf n 4 (by omega) (by omega) w
 rw [e] at this
 exact this
theorem zgh(d:Wv.Dt)(w:World):
  Calls Tryz.prog 198 #[dotV d] w fun e w'=>e= .returned (.string ⟨(Wv.dotB d).toArray⟩)∧Below w.heap.size w w':=by
 have l1:∀n,(Wv.be1 n).length=1:=Wv.be1_len
 have HB:Hid (Below w.heap.size w (w.alloc (.cells #[I d.o,I d.s,I d.i] 146))):=(Below.refl _ _).alloc (Nat.le_refl _) _
 go_enter Tryz.func198,Tryz.ntmps198
 go_wp2_with fail
 go_region_held3 (fun w'=>w'.cell? ⟨w.heap.size,0,none⟩=some (I d.o)∧w'.cell? ⟨w.heap.size,1,none⟩=some (I d.s)∧w'.cell? ⟨w.heap.size,2,none⟩=some (I d.i)) (first | go_keep | (refine⟨zaa hb ?_,zaa hb ?_,zaa hb ?_⟩<;>go_keep))
  (first | (go_at_call 145;refine(zf9 _ _).mono ?_;rintro e w' ⟨rfl,hb⟩;have HC:Hid (Below w.heap.size w w'):=(by first | exact HC.out.trans (hb.mono (by have:=HC.out.size;omega)) | exact HB.out.drew.trans (hb.mono (by simp)))))
 go_wp2
 go_ret
 exact⟨zro (by rw [zap,zap];rfl),HC.out⟩
end Go.Proofs.YtfmcngncaffloaaGreatDoor
