import Derived.Test.YtfmcngncaffloaaGreatDoorG34RefB2
set_option maxHeartbeats 1600000
namespace Go.Proofs.YtfmcngncaffloaaGreatDoor
open Go.RowKit
set_option maxRecDepth 100000
attribute [local go_sem ↓] za9 zbo
theorem zp4(b:Wv.Bt)(ca:Option Addr)(cc ec p q:Nat)(k:Nat)(m:Em)(w:World)(h:At w ca (b.clock.map I))(hk:k<b.effs.length)(hp:p<w.heap.size)
  (c0:w.cell? ⟨p,q+k*7,none⟩=some (I m.e.op)) (c1:w.cell? ⟨p,q+k*7+1,none⟩=some (I m.e.ob)) (c2:w.cell? ⟨p,q+k*7+2,none⟩=some (I m.e.va)) (c3:w.cell? ⟨p,q+k*7+3,none⟩=some (I m.e.ref.o)) (c4:w.cell? ⟨p,q+k*7+4,none⟩=some (I m.e.ref.s)) (c5:w.cell? ⟨p,q+k*7+5,none⟩=some (I m.e.ref.i)) (c6:w.cell? ⟨p,q+k*7+6,none⟩=some (.slice m.da m.e.dots.length m.dc)) (hop:m.e.op=5):
  Calls Tryz.prog 201 #[bV b ca (some ⟨p,q,none⟩) cc ec,I k] w fun e w'=>e= .returned (.bool (Wv.effOk b k m.e))∧Below w.heap.size w w':=by
 have h':Hid (At w ca (b.clock.map I)):=h
 have hki:(k:Int)<(b.effs.length:Int):=by omega
 have HE:Hid (Wv.effOk b k m.e=((decide (0<=m.e.ob) && decide (m.e.ob<=7) && (m.e.ob % 4==3)) && (decide (0<=m.e.va) && decide (m.e.va<=255)) && Wv.refOk b k m.e.ref 1 && (decide ((0:Int)<=m.e.dots.length) && decide ((m.e.dots.length:Int)<=0)) && Wv.dotsOk b k m.e.dots)):=by
  show Wv.effOk b k m.e=_
  unfold Wv.effOk
  rw [hop]
  rfl
 rw [hop] at c0
 have HW:Hid (Below w.heap.size w ((w.alloc (.cells #[I b.o,I b.s,I b.t, .slice ca b.clock.length cc, .slice (some ⟨p,q,none⟩) b.effs.length ec] 124)).alloc (.cells #[I 5,I m.e.ob,I m.e.va,I m.e.ref.o,I m.e.ref.s,I m.e.ref.i, .slice m.da m.e.dots.length m.dc] 149))):=((Below.refl _ _).alloc (Nat.le_refl _) _).alloc (by simp) _
 clear h hop
 by_cases hA:0<=m.e.ob∧m.e.ob<8
 case neg=>
  have HF:Hid (Wv.effOk b k m.e=false):=by
   have:(decide (0<=m.e.ob) && decide (m.e.ob<=7))=false:=by simp;omega
   show Wv.effOk b k m.e=false
   rw [HE.out,this];rfl
  by_cases hA0:0<=m.e.ob
  ·have hA1:8<=m.e.ob:=by omega
   clear hA
   go_enter Tryz.func201,Tryz.ntmps201
   go_wp2_with (first | (go_at_call 130;refine(zg0 _).mono ?_;rintro e w' ⟨rfl,h⟩;subst h))
   go_ret
   exact⟨zad HF.out.symm,((Below.refl _ _).alloc (Nat.le_refl _) _).alloc (by simp) _⟩
  ·have hA1:m.e.ob<0:=by omega
   clear hA hA0
   go_enter Tryz.func201,Tryz.ntmps201
   go_wp2_with (first | (go_at_call 130;refine(zg0 _).mono ?_;rintro e w' ⟨rfl,h⟩;subst h))
   go_ret
   exact⟨zad HF.out.symm,((Below.refl _ _).alloc (Nat.le_refl _) _).alloc (by simp) _⟩
 obtain⟨hA0,hA1⟩:=hA
 have hA7:(decide (0<=m.e.ob) && decide (m.e.ob<=7))=true:=by simp;omega
 cases hB:(m.e.ob % 4==3)
 ·have HF:Hid (Wv.effOk b k m.e=false):=by show Wv.effOk b k m.e=false;rw [HE.out,hA7,hB];rfl
  have hB':(m.e.ob % 4 !=3)=true:=by simpa using hB
  go_enter Tryz.func201,Tryz.ntmps201
  go_wp2_with (first | (go_at_call 130;refine(zg0 _).mono ?_;rintro e w' ⟨rfl,h⟩;subst h))
  go_ret
  exact⟨zad HF.out.symm,((Below.refl _ _).alloc (Nat.le_refl _) _).alloc (by simp) _⟩
 have hB':(m.e.ob % 4 !=3)=false:=by simpa using hB
 by_cases hC:0<=m.e.va∧m.e.va<=255
 case neg=>
  have HF:Hid (Wv.effOk b k m.e=false):=by
   have:(decide (0<=m.e.va) && decide (m.e.va<=255))=false:=by simp;omega
   show Wv.effOk b k m.e=false
   rw [HE.out,hA7,hB,this];rfl
  by_cases hC0:0<=m.e.va
  ·have hC1:255<m.e.va:=by omega
   clear hC
   go_enter Tryz.func201,Tryz.ntmps201
   go_wp2_with (first | (go_at_call 130;refine(zg0 _).mono ?_;rintro e w' ⟨rfl,h⟩;subst h))
   go_ret
   exact⟨zad HF.out.symm,((Below.refl _ _).alloc (Nat.le_refl _) _).alloc (by simp) _⟩
  ·have hC1:m.e.va<0:=by omega
   clear hC hC0
   go_enter Tryz.func201,Tryz.ntmps201
   go_wp2_with (first | (go_at_call 130;refine(zg0 _).mono ?_;rintro e w' ⟨rfl,h⟩;subst h))
   go_ret
   exact⟨zad HF.out.symm,((Below.refl _ _).alloc (Nat.le_refl _) _).alloc (by simp) _⟩
 obtain⟨hC0,hC1⟩:=hC
 have hC7:(decide (0<=m.e.va) && decide (m.e.va<=255))=true:=by simp [hC0,hC1]
 have HE2:Hid (Wv.effOk b k m.e=(Wv.refOk b k m.e.ref 1 && (decide ((0:Int)<=m.e.dots.length) && decide ((m.e.dots.length:Int)<=0)) && Wv.dotsOk b k m.e.dots)):=by
  show Wv.effOk b k m.e=_
  rw [HE.out,hA7,hB,hC7];rfl
 go_enter Tryz.func201,Tryz.ntmps201
 go_wp2_with (first | (go_at_call 130;refine(zg0 _).mono ?_;rintro e w' ⟨rfl,h⟩;subst h))
 refine(zbf b ca cc (.slice (some ⟨p,q,none⟩) b.effs.length ec) m.e.ref k _ (h'.out.kept HW.out)).mono ?_
 rintro e w1 ⟨rfl,hb1⟩
 have HB1:Hid (Below w.heap.size w w1):=HW.out.trans (hb1.mono (by simp;omega))
 have hsz:w.heap.size+1<w1.heap.size:=by have:=hb1.size;simp at this;omega
 have x0:w1.cell? ⟨w.heap.size+1,0,none⟩=some (I 5):=(hb1.cell (p:=⟨w.heap.size+1,0,none⟩) (by simp)).trans (Joins.cell_alloc_mark_at _ _ _ _ _ _ (by simp))
 have x6:w1.cell? ⟨w.heap.size+1,6,none⟩=some (.slice m.da m.e.dots.length m.dc):=(hb1.cell (p:=⟨w.heap.size+1,6,none⟩) (by simp)).trans (Joins.cell_alloc_mark_at _ _ _ _ _ _ (by simp))
 clear hb1 c0 c1 c2 c3 c4 c5 c6 HE
 have HD:=zft b k m.e.dots
 generalize hv:Wv.cov b m.e.ref k=cv
 have HCV:Hid (Wv.cov b m.e.ref k=cv):=hv
 clear hv
 cases hN:eq3 m.e.ref.o m.e.ref.s m.e.ref.i 0 0 0
 ·have HN:Hid (Wv.noneD m.e.ref=false):=hN
  cases cv
  ·go_wp2_with fail
   go_ret
   exact⟨zad (by rw [HE2.out,Wv.refOk,HN.out,HCV.out];simp),HB1.out⟩
  ·go_wp2_with fail
   go_ret
   exact⟨zad (by rw [HE2.out,Wv.refOk,HN.out,HCV.out];simpa using HD.out),HB1.out⟩
 ·have HN:Hid (Wv.noneD m.e.ref=true):=hN
  go_wp2_with fail
  go_ret
  exact⟨zad (by rw [HE2.out,Wv.refOk,HN.out];simpa using HD.out),HB1.out⟩
theorem zp3(b:Wv.Bt)(ca:Option Addr)(cc ec p q:Nat)(k:Nat)(m:Em)(w:World)(h:At w ca (b.clock.map I))(hk:k<b.effs.length)(hp:p<w.heap.size)
  (c0:w.cell? ⟨p,q+k*7,none⟩=some (I m.e.op)) (c1:w.cell? ⟨p,q+k*7+1,none⟩=some (I m.e.ob)) (c2:w.cell? ⟨p,q+k*7+2,none⟩=some (I m.e.va)) (c3:w.cell? ⟨p,q+k*7+3,none⟩=some (I m.e.ref.o)) (c4:w.cell? ⟨p,q+k*7+4,none⟩=some (I m.e.ref.s)) (c5:w.cell? ⟨p,q+k*7+5,none⟩=some (I m.e.ref.i)) (c6:w.cell? ⟨p,q+k*7+6,none⟩=some (.slice m.da m.e.dots.length m.dc)) (hop:m.e.op=6):
  Calls Tryz.prog 201 #[bV b ca (some ⟨p,q,none⟩) cc ec,I k] w fun e w'=>e= .returned (.bool (Wv.effOk b k m.e))∧Below w.heap.size w w':=by
 have h':Hid (At w ca (b.clock.map I)):=h
 have hki:(k:Int)<(b.effs.length:Int):=by omega
 have HE:Hid (Wv.effOk b k m.e=((decide (0<=m.e.ob) && decide (m.e.ob<=7) && (m.e.ob % 4==3)) && (decide (0<=m.e.va) && decide (m.e.va<=0)) && Wv.refOk b k m.e.ref 2 && (decide ((0:Int)<=m.e.dots.length) && decide ((m.e.dots.length:Int)<=0)) && Wv.dotsOk b k m.e.dots)):=by
  show Wv.effOk b k m.e=_
  unfold Wv.effOk
  rw [hop]
  rfl
 rw [hop] at c0
 have HW:Hid (Below w.heap.size w ((w.alloc (.cells #[I b.o,I b.s,I b.t, .slice ca b.clock.length cc, .slice (some ⟨p,q,none⟩) b.effs.length ec] 124)).alloc (.cells #[I 6,I m.e.ob,I m.e.va,I m.e.ref.o,I m.e.ref.s,I m.e.ref.i, .slice m.da m.e.dots.length m.dc] 149))):=((Below.refl _ _).alloc (Nat.le_refl _) _).alloc (by simp) _
 clear h hop
 by_cases hA:0<=m.e.ob∧m.e.ob<8
 case neg=>
  have HF:Hid (Wv.effOk b k m.e=false):=by
   have:(decide (0<=m.e.ob) && decide (m.e.ob<=7))=false:=by simp;omega
   show Wv.effOk b k m.e=false
   rw [HE.out,this];rfl
  by_cases hA0:0<=m.e.ob
  ·have hA1:8<=m.e.ob:=by omega
   clear hA
   go_enter Tryz.func201,Tryz.ntmps201
   go_wp2_with (first | (go_at_call 130;refine(zgz _).mono ?_;rintro e w' ⟨rfl,h⟩;subst h))
   go_ret
   exact⟨zad HF.out.symm,((Below.refl _ _).alloc (Nat.le_refl _) _).alloc (by simp) _⟩
  ·have hA1:m.e.ob<0:=by omega
   clear hA hA0
   go_enter Tryz.func201,Tryz.ntmps201
   go_wp2_with (first | (go_at_call 130;refine(zgz _).mono ?_;rintro e w' ⟨rfl,h⟩;subst h))
   go_ret
   exact⟨zad HF.out.symm,((Below.refl _ _).alloc (Nat.le_refl _) _).alloc (by simp) _⟩
 obtain⟨hA0,hA1⟩:=hA
 have hA7:(decide (0<=m.e.ob) && decide (m.e.ob<=7))=true:=by simp;omega
 cases hB:(m.e.ob % 4==3)
 ·have HF:Hid (Wv.effOk b k m.e=false):=by show Wv.effOk b k m.e=false;rw [HE.out,hA7,hB];rfl
  have hB':(m.e.ob % 4 !=3)=true:=by simpa using hB
  go_enter Tryz.func201,Tryz.ntmps201
  go_wp2_with (first | (go_at_call 130;refine(zgz _).mono ?_;rintro e w' ⟨rfl,h⟩;subst h))
  go_ret
  exact⟨zad HF.out.symm,((Below.refl _ _).alloc (Nat.le_refl _) _).alloc (by simp) _⟩
 have hB':(m.e.ob % 4 !=3)=false:=by simpa using hB
 by_cases hC:0<=m.e.va∧m.e.va<=0
 case neg=>
  have HF:Hid (Wv.effOk b k m.e=false):=by
   have:(decide (0<=m.e.va) && decide (m.e.va<=0))=false:=by simp;omega
   show Wv.effOk b k m.e=false
   rw [HE.out,hA7,hB,this];rfl
  by_cases hC0:0<=m.e.va
  ·have hC1:0<m.e.va:=by omega
   clear hC
   go_enter Tryz.func201,Tryz.ntmps201
   go_wp2_with (first | (go_at_call 130;refine(zgz _).mono ?_;rintro e w' ⟨rfl,h⟩;subst h))
   go_ret
   exact⟨zad HF.out.symm,((Below.refl _ _).alloc (Nat.le_refl _) _).alloc (by simp) _⟩
  ·have hC1:m.e.va<0:=by omega
   clear hC hC0
   go_enter Tryz.func201,Tryz.ntmps201
   go_wp2_with (first | (go_at_call 130;refine(zgz _).mono ?_;rintro e w' ⟨rfl,h⟩;subst h))
   go_ret
   exact⟨zad HF.out.symm,((Below.refl _ _).alloc (Nat.le_refl _) _).alloc (by simp) _⟩
 obtain⟨hC0,hC1⟩:=hC
 have hC7:(decide (0<=m.e.va) && decide (m.e.va<=0))=true:=by simp [hC0,hC1]
 have HE2:Hid (Wv.effOk b k m.e=(Wv.refOk b k m.e.ref 2 && (decide ((0:Int)<=m.e.dots.length) && decide ((m.e.dots.length:Int)<=0)) && Wv.dotsOk b k m.e.dots)):=by
  show Wv.effOk b k m.e=_
  rw [HE.out,hA7,hB,hC7];rfl
 go_enter Tryz.func201,Tryz.ntmps201
 go_wp2_with (first | (go_at_call 130;refine(zgz _).mono ?_;rintro e w' ⟨rfl,h⟩;subst h))
 refine(zbf b ca cc (.slice (some ⟨p,q,none⟩) b.effs.length ec) m.e.ref k _ (h'.out.kept HW.out)).mono ?_
 rintro e w1 ⟨rfl,hb1⟩
 have HB1:Hid (Below w.heap.size w w1):=HW.out.trans (hb1.mono (by simp;omega))
 have hsz:w.heap.size+1<w1.heap.size:=by have:=hb1.size;simp at this;omega
 have x0:w1.cell? ⟨w.heap.size+1,0,none⟩=some (I 6):=(hb1.cell (p:=⟨w.heap.size+1,0,none⟩) (by simp)).trans (Joins.cell_alloc_mark_at _ _ _ _ _ _ (by simp))
 have x6:w1.cell? ⟨w.heap.size+1,6,none⟩=some (.slice m.da m.e.dots.length m.dc):=(hb1.cell (p:=⟨w.heap.size+1,6,none⟩) (by simp)).trans (Joins.cell_alloc_mark_at _ _ _ _ _ _ (by simp))
 clear hb1 c0 c1 c2 c3 c4 c5 c6 HE
 have HD:=zft b k m.e.dots
 generalize hv:Wv.cov b m.e.ref k=cv
 have HCV:Hid (Wv.cov b m.e.ref k=cv):=hv
 clear hv
 cases hN:eq3 m.e.ref.o m.e.ref.s m.e.ref.i 0 0 0
 ·have HN:Hid (Wv.noneD m.e.ref=false):=hN
  cases cv
  ·go_wp2_with fail
   go_ret
   exact⟨zad (by rw [HE2.out,Wv.refOk,HN.out,HCV.out];simp),HB1.out⟩
  ·go_wp2_with fail
   go_ret
   exact⟨zad (by rw [HE2.out,Wv.refOk,HN.out,HCV.out];simpa using HD.out),HB1.out⟩
 ·have HN:Hid (Wv.noneD m.e.ref=true):=hN
  go_wp2_with fail
  go_ret
  exact⟨zad (by rw [HE2.out,Wv.refOk,HN.out];simp),HB1.out⟩
end Go.Proofs.YtfmcngncaffloaaGreatDoor
