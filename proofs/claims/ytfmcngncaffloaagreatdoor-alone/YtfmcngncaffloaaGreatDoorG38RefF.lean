import Derived.Test.YtfmcngncaffloaaGreatDoorG34RefB2
set_option maxHeartbeats 6400000
namespace Go.Proofs.YtfmcngncaffloaaGreatDoor
open Go.RowKit
set_option maxRecDepth 100000
attribute [local go_sem ↓] za9 zbo
theorem zp5(b:Wv.Bt)(ca:Option Addr)(cc ec p q:Nat)(k:Nat)(m:Em)(w:World)(h:At w ca (b.clock.map I))(hk:k<b.effs.length)(hp:p<w.heap.size)
  (c0:w.cell? ⟨p,q+k*7,none⟩=some (I m.e.op)) (c1:w.cell? ⟨p,q+k*7+1,none⟩=some (I m.e.ob)) (c2:w.cell? ⟨p,q+k*7+2,none⟩=some (I m.e.va)) (c3:w.cell? ⟨p,q+k*7+3,none⟩=some (I m.e.ref.o)) (c4:w.cell? ⟨p,q+k*7+4,none⟩=some (I m.e.ref.s)) (c5:w.cell? ⟨p,q+k*7+5,none⟩=some (I m.e.ref.i)) (c6:w.cell? ⟨p,q+k*7+6,none⟩=some (.slice m.da m.e.dots.length m.dc)) (hop:m.e.op=4) (hdd0:At w m.da (flat zab m.e.dots)):
  Calls Tryz.prog 201 #[bV b ca (some ⟨p,q,none⟩) cc ec,I k] w fun e w'=>e= .returned (.bool (Wv.effOk b k m.e))∧Below w.heap.size w w':=by
 have h':Hid (At w ca (b.clock.map I)):=h
 have hki:(k:Int)<(b.effs.length:Int):=by omega
 have HE:Hid (Wv.effOk b k m.e=((decide (0<=m.e.ob) && decide (m.e.ob<=7) && (m.e.ob % 4==2)) && (decide (0<=m.e.va) && decide (m.e.va<=255)) && Wv.refOk b k m.e.ref 0 && (decide ((0:Int)<=m.e.dots.length) && decide ((m.e.dots.length:Int)<=150)) && Wv.dotsOk b k m.e.dots)):=by
  show Wv.effOk b k m.e=_
  unfold Wv.effOk
  rw [hop]
  rfl
 rw [hop] at c0
 have HW:Hid (Below w.heap.size w ((w.alloc (.cells #[I b.o,I b.s,I b.t, .slice ca b.clock.length cc, .slice (some ⟨p,q,none⟩) b.effs.length ec] 124)).alloc (.cells #[I 4,I m.e.ob,I m.e.va,I m.e.ref.o,I m.e.ref.s,I m.e.ref.i, .slice m.da m.e.dots.length m.dc] 149))):=((Below.refl _ _).alloc (Nat.le_refl _) _).alloc (by simp) _
 have hdd:Hid (At w m.da (flat zab m.e.dots)):=hdd0
 clear h hop hdd0
 by_cases hA:0<=m.e.ob∧m.e.ob<8
 case neg=>
  have HF:Hid (Wv.effOk b k m.e=false):=by
   have:(decide (0<=m.e.ob) && decide (m.e.ob<=7))=false:=by simp;omega
   show Wv.effOk b k m.e=false
   rw [HE.out,this];rfl
  by_cases hA0:0<=m.e.ob
  ·have hA1:8<=m.e.ob:=by omega
   clear hA
   go_enter Tryz.func201,Tryz.ntmps201
   go_wp2_with (first | (go_at_call 130;refine(zg1 _).mono ?_;rintro e w' ⟨rfl,h⟩;subst h))
   go_ret
   exact⟨zad HF.out.symm,((Below.refl _ _).alloc (Nat.le_refl _) _).alloc (by simp) _⟩
  ·have hA1:m.e.ob<0:=by omega
   clear hA hA0
   go_enter Tryz.func201,Tryz.ntmps201
   go_wp2_with (first | (go_at_call 130;refine(zg1 _).mono ?_;rintro e w' ⟨rfl,h⟩;subst h))
   go_ret
   exact⟨zad HF.out.symm,((Below.refl _ _).alloc (Nat.le_refl _) _).alloc (by simp) _⟩
 obtain⟨hA0,hA1⟩:=hA
 have hA7:(decide (0<=m.e.ob) && decide (m.e.ob<=7))=true:=by simp;omega
 cases hB:(m.e.ob % 4==2)
 ·have HF:Hid (Wv.effOk b k m.e=false):=by show Wv.effOk b k m.e=false;rw [HE.out,hA7,hB];rfl
  have hB':(m.e.ob % 4 !=2)=true:=by simpa using hB
  go_enter Tryz.func201,Tryz.ntmps201
  go_wp2_with (first | (go_at_call 130;refine(zg1 _).mono ?_;rintro e w' ⟨rfl,h⟩;subst h))
  go_ret
  exact⟨zad HF.out.symm,((Below.refl _ _).alloc (Nat.le_refl _) _).alloc (by simp) _⟩
 have hB':(m.e.ob % 4 !=2)=false:=by simpa using hB
 by_cases hC:0<=m.e.va∧m.e.va<=255
 case neg=>
  have HF:Hid (Wv.effOk b k m.e=false):=by
   have:(decide (0<=m.e.va) && decide (m.e.va<=255))=false:=by simp;omega
   show Wv.effOk b k m.e=false
   rw [HE.out,hA7,hB,this];rfl
  by_cases hC0:0<=m.e.va
  ·have hC1:255<m.e.va:=by omega
   clear hC
   go_enter Tryz.func201,Tryz.ntmps201
   go_wp2_with (first | (go_at_call 130;refine(zg1 _).mono ?_;rintro e w' ⟨rfl,h⟩;subst h))
   go_ret
   exact⟨zad HF.out.symm,((Below.refl _ _).alloc (Nat.le_refl _) _).alloc (by simp) _⟩
  ·have hC1:m.e.va<0:=by omega
   clear hC hC0
   go_enter Tryz.func201,Tryz.ntmps201
   go_wp2_with (first | (go_at_call 130;refine(zg1 _).mono ?_;rintro e w' ⟨rfl,h⟩;subst h))
   go_ret
   exact⟨zad HF.out.symm,((Below.refl _ _).alloc (Nat.le_refl _) _).alloc (by simp) _⟩
 obtain⟨hC0,hC1⟩:=hC
 have hC7:(decide (0<=m.e.va) && decide (m.e.va<=255))=true:=by simp [hC0,hC1]
 have HE2:Hid (Wv.effOk b k m.e=(Wv.refOk b k m.e.ref 0 && (decide ((0:Int)<=m.e.dots.length) && decide ((m.e.dots.length:Int)<=150)) && Wv.dotsOk b k m.e.dots)):=by
  show Wv.effOk b k m.e=_
  rw [HE.out,hA7,hB,hC7];rfl
 go_enter Tryz.func201,Tryz.ntmps201
 go_wp2_with (first | (go_at_call 130;refine(zg1 _).mono ?_;rintro e w' ⟨rfl,h⟩;subst h))
 refine(zbf b ca cc (.slice (some ⟨p,q,none⟩) b.effs.length ec) m.e.ref k _ (h'.out.kept HW.out)).mono ?_
 rintro e w1 ⟨rfl,hb1⟩
 have HB1:Hid (Below w.heap.size w w1):=HW.out.trans (hb1.mono (by simp;omega))
 have hsz:w.heap.size+1<w1.heap.size:=by have:=hb1.size;simp at this;omega
 have x0:w1.cell? ⟨w.heap.size+1,0,none⟩=some (I 4):=(hb1.cell (p:=⟨w.heap.size+1,0,none⟩) (by simp)).trans (Joins.cell_alloc_mark_at _ _ _ _ _ _ (by simp))
 have x6:w1.cell? ⟨w.heap.size+1,6,none⟩=some (.slice m.da m.e.dots.length m.dc):=(hb1.cell (p:=⟨w.heap.size+1,6,none⟩) (by simp)).trans (Joins.cell_alloc_mark_at _ _ _ _ _ _ (by simp))
 clear c0 c1 c2 c3 c4 c5 c6 HE
 generalize hv:Wv.cov b m.e.ref k=cv
 clear hv
 cases hN:eq3 m.e.ref.o m.e.ref.s m.e.ref.i 0 0 0
 ·have HN:Hid (Wv.noneD m.e.ref=false):=hN
  have HF:Hid (Wv.effOk b k m.e=false):=by show Wv.effOk b k m.e=false;rw [HE2.out,Wv.refOk,HN.out];simp
  cases cv
  all_goals
   go_wp2_with fail
   go_ret
   exact⟨zad HF.out.symm,HB1.out⟩
 ·have HN:Hid (Wv.noneD m.e.ref=true):=hN
  by_cases hL:1<=m.e.dots.length∧m.e.dots.length<=150
  ·obtain⟨hL0,hL1⟩:=hL
   have hl1:(m.e.dots.length:Int)<=150:=by omega
   have hl0:((m.e.dots.length:Int)==0)=false:=by rw [beq_eq_false_iff_ne];omega
   have HLen:Hid ((decide ((0:Int)<=m.e.dots.length) && decide ((m.e.dots.length:Int)<=150))=true):=by show _=true;simp;omega
   obtain⟨p3,q3,hda,hp3,hd3⟩:=zdd hdd.out (by omega)
   have HDA:Hid (m.da=some ⟨p3,q3,none⟩):=hda
   have hd:Hid _:=hd3
   rw [hda] at x6
   clear hda hd3
   go_wp2_with fail
   clear x0 x6
   go_loopw [11] (fun x wr=>∃j:Nat,j<=m.e.dots.length∧x=I j∧Hid (Wv.dotsTo b k m.e.dots j=true)∧Hid (Below (w.heap.size+2) ((w.alloc (.cells #[I b.o,I b.s,I b.t, .slice ca b.clock.length cc, .slice (some ⟨p,q,none⟩) b.effs.length ec] 124)).alloc (.cells #[I 4,I m.e.ob,I m.e.va,I m.e.ref.o,I m.e.ref.s,I m.e.ref.i, .slice m.da m.e.dots.length m.dc] 149)) wr)) (fun x _=>m.e.dots.length - (intOf x).toNat)
   case atStart=>exact⟨0,Nat.zero_le _,rfl,rfl,hb1.mono (by simp)⟩
   case round=>
    obtain⟨j,hj,rfl,hto,hbk⟩:=hrel
    clear hb1
    have HBr:Hid (Below w.heap.size w wr):=HW.out.trans (hbk.out.mono (by omega))
    have hszr:w.heap.size+1<wr.heap.size:=by have:=hbk.out.size;simp at this;omega
    have hszr0:w.heap.size<wr.heap.size:=by omega
    have y0:wr.cell? ⟨w.heap.size,0,none⟩=some (I b.o):=(hbk.out.cell (p:=⟨w.heap.size,0,none⟩) (by simp)).trans (zav w _ _ _ 0)
    have y1:wr.cell? ⟨w.heap.size,1,none⟩=some (I b.s):=(hbk.out.cell (p:=⟨w.heap.size,1,none⟩) (by simp)).trans (zav w _ _ _ 1)
    have y2:wr.cell? ⟨w.heap.size,2,none⟩=some (I b.t):=(hbk.out.cell (p:=⟨w.heap.size,2,none⟩) (by simp)).trans (zav w _ _ _ 2)
    have y3:wr.cell? ⟨w.heap.size,3,none⟩=some (.slice ca b.clock.length cc):=(hbk.out.cell (p:=⟨w.heap.size,3,none⟩) (by simp)).trans (zav w _ _ _ 3)
    have y4:wr.cell? ⟨w.heap.size,4,none⟩=some (.slice (some ⟨p,q,none⟩) b.effs.length ec):=(hbk.out.cell (p:=⟨w.heap.size,4,none⟩) (by simp)).trans (zav w _ _ _ 4)
    have hp3r:p3<wr.heap.size:=by omega
    have x6:wr.cell? ⟨w.heap.size+1,6,none⟩=some (.slice (some ⟨p3,q3,none⟩) m.e.dots.length m.dc):=by
     rw [←HDA.out]
     exact(hbk.out.cell (p:=⟨w.heap.size+1,6,none⟩) (by simp)).trans (Joins.cell_alloc_mark_at _ _ _ _ _ _ (by simp))
    by_cases hlt:j<m.e.dots.length
    ·obtain⟨c0,c1,c2⟩:=hd.out j hlt
     replace c0:=zaa HBr.out c0
     replace c1:=zaa HBr.out c1
     replace c2:=zaa HBr.out c2
     have HD:Hid (Wv.dOk b k m.e.dots j=(((j==0) || Wv.lessD (m.e.dots.getD (j - 1) ⟨0,0,0⟩) m.e.dots[j]) && Wv.cov b m.e.dots[j] k)):=by show Wv.dOk b k m.e.dots j=_;simp [Wv.dOk,hlt]
     generalize m.e.dots[j]=d at c0 c1 c2 HD
     have hji:(j:Int)<(m.e.dots.length:Int):=by omega
     go_wp2_with fail
     go_region_held3 (fun w'=>w'.cell? ⟨w.heap.size,0,none⟩=some (I b.o)∧w'.cell? ⟨w.heap.size,1,none⟩=some (I b.s)∧w'.cell? ⟨w.heap.size,2,none⟩=some (I b.t)∧w'.cell? ⟨w.heap.size,3,none⟩=some (.slice ca b.clock.length cc)∧w'.cell? ⟨w.heap.size,4,none⟩=some (.slice (some ⟨p,q,none⟩) b.effs.length ec)∧w'.cell? ⟨w.heap.size+1,6,none⟩=some (.slice (some ⟨p3,q3,none⟩) m.e.dots.length m.dc)∧w'.cell? ⟨p3,q3+j*3,none⟩=some (I d.o)∧w'.cell? ⟨p3,q3+j*3+1,none⟩=some (I d.s)∧w'.cell? ⟨p3,q3+j*3+2,none⟩=some (I d.i)) (first | go_keep | (refine⟨zaa hb2 ?_,zaa hb2 ?_,zaa hb2 ?_,zaa hb2 ?_,zaa hb2 ?_,zaa hb2 ?_,zaa hb2 ?_,zaa hb2 ?_,zaa hb2 ?_⟩<;>go_keep))
      (first | (go_at_call 212;refine(zbf b ca cc (.slice (some ⟨p,q,none⟩) b.effs.length ec) d k _ ?_).mono ?_;exact h'.out.kept (Below.drew HBr.out);rintro e w2 ⟨rfl,hb2⟩))
     have HB2:Hid (Below wr.heap.size wr w2):=(Below.refl _ _).drew.trans hb2
     have HBW:Hid (Below w.heap.size w w2):=HBr.out.trans (HB2.out.mono (by omega))
     have hsz2:wr.heap.size<=w2.heap.size:=HB2.out.size
     replace c0:=zaa HB2.out c0
     replace c1:=zaa HB2.out c1
     replace c2:=zaa HB2.out c2
     replace x6:=zaa HB2.out x6
     clear hb2 y0 y1 y2 y3 y4
     generalize hcv:Wv.cov b d k=cv at HD
     clear hcv
     cases cv
     ·have HF:Hid (Wv.effOk b k m.e=false):=by
       show Wv.effOk b k m.e=false
       rw [HE2.out,show Wv.dotsOk b k m.e.dots=false from Wv.dotsTo_no b k _ _ j hlt (by rw [HD.out];simp),Bool.and_false]
      go_wp2_with fail
      go_quiet (fail)
      go_wp2
      go_ret
      exact⟨zad HF.out.symm,zal HBW.out _⟩
     ·by_cases hj0:j=0
      ·have HT:Hid (Wv.dotsTo b k m.e.dots (j+1)=true):=by show(Wv.dotsTo b k m.e.dots j && Wv.dOk b k m.e.dots j)=true;rw [hto.out,HD.out,hj0];rfl
       have hj1:((j:Int)==0)=true:=by simp [hj0]
       have hj2:(j:Int)<=0:=by omega
       have hj3:decide ((0:Int)<(j:Int))=false:=by simp;omega
       have hj4:decide (0<j)=false:=by simp;omega
       clear hj0
       go_wp2_with fail
       go_quiet (fail)
       go_wp2
       exact⟨⟨j+1,by omega,by go_num,HT,zal (hbk.out.trans (HB2.out.mono (by omega))) _⟩,by simp [intOf];omega⟩
      ·obtain⟨e0,e1,e2⟩:=hd.out (j - 1) (by omega)
       replace e0:=zaa HBW.out e0
       replace e1:=zaa HBW.out e1
       replace e2:=zaa HBW.out e2
       have HG:Hid (m.e.dots.getD (j - 1) ⟨0,0,0⟩=m.e.dots[j - 1]):=by show m.e.dots.getD (j - 1) ⟨0,0,0⟩=m.e.dots[j - 1];simp [show j - 1<m.e.dots.length by omega]
       generalize m.e.dots[j - 1]=f at e0 e1 e2 HG
       have hk1:((j:Int)==0)=false:=by simp;omega
       have hm1:(j:Int) - 1<(m.e.dots.length:Int):=by omega
       have hm0:(0:Int)<=(j:Int) - 1:=by omega
       have hm2:(1:Int)<=(j:Int):=by omega
       have hm3:1<=j:=by omega
       have hm4:0<j:=by omega
       have hm6:(0:Int)<(j:Int):=by omega
       have hm7:decide ((0:Int)<(j:Int))=true:=by simp;omega
       have hm8:decide (0<j)=true:=by simp;omega
       have hm5:(j:Int)<=(m.e.dots.length:Int):=by omega
       have hw1:IntKind.i64.wrap ((j:Int) - 1)=(j:Int) - 1:=by rw [IntKind.wrap_i64];omega
       clear hj0
       go_wp2_with fail
       go_region_held3 (fun w'=>w'.cell? ⟨w.heap.size+1,6,none⟩=some (.slice (some ⟨p3,q3,none⟩) m.e.dots.length m.dc)∧w'.cell? ⟨p3,q3+j*3,none⟩=some (I d.o)∧w'.cell? ⟨p3,q3+j*3+1,none⟩=some (I d.s)∧w'.cell? ⟨p3,q3+j*3+2,none⟩=some (I d.i)∧w'.cell? ⟨p3,q3+(j - 1)*3,none⟩=some (I f.o)∧w'.cell? ⟨p3,q3+(j - 1)*3+1,none⟩=some (I f.s)∧w'.cell? ⟨p3,q3+(j - 1)*3+2,none⟩=some (I f.i)) (first | go_keep | (refine⟨zaa hb3 ?_,zaa hb3 ?_,zaa hb3 ?_,zaa hb3 ?_,zaa hb3 ?_,zaa hb3 ?_,zaa hb3 ?_⟩<;>go_keep))
        (first | (go_at_call 196;refine(ziz f d _).mono ?_;rintro e w3 ⟨rfl,hb3⟩))
       have HB3:Hid (Below w2.heap.size w2 w3):=(Below.refl _ _).drew.trans hb3
       have HKZ:Hid ((j==0)=false):=by show(j==0)=false;simpa using hk1
       clear hb3 e0 e1 e2 c0 c1 c2 x6 hm0 hm1 hm2 hm3 hm4 hm5 hm6 hm7 hm8 hw1
       generalize hls:Wv.lessD f d=ls
       have HLS:Hid (Wv.lessD f d=ls):=hls
       clear hls
       cases ls
       ·have HF:Hid (Wv.effOk b k m.e=false):=by
         show Wv.effOk b k m.e=false
         rw [HE2.out,show Wv.dotsOk b k m.e.dots=false from Wv.dotsTo_no b k _ _ j hlt (by rw [HD.out,HG.out,HLS.out,HKZ.out];rfl),Bool.and_false]
        go_wp2
        go_ret
        exact⟨zad HF.out.symm,HBW.out.trans (HB3.out.mono (by omega))⟩
       ·have HT:Hid (Wv.dotsTo b k m.e.dots (j+1)=true):=by show(Wv.dotsTo b k m.e.dots j && Wv.dOk b k m.e.dots j)=true;rw [hto.out,HD.out,HG.out,HLS.out,HKZ.out];rfl
        go_wp2
        exact⟨⟨j+1,by omega,by go_num,HT,(hbk.out.trans (HB2.out.mono (by omega))).trans (HB3.out.mono (by omega))⟩,by simp [intOf];omega⟩
    ·obtain rfl:j=m.e.dots.length:=by omega
     have HT:Hid (Wv.effOk b k m.e=true):=by
      show Wv.effOk b k m.e=true
      rw [HE2.out,Wv.refOk,HN.out,show Wv.dotsOk b k m.e.dots=true from hto.out,HLen.out];rfl
     go_wp2
     go_ret
     exact⟨zad HT.out.symm,HBr.out⟩
  ·by_cases hL1:m.e.dots.length<=150
   ·have hl0:m.e.dots.length=0:=by omega
    have HF:Hid (Wv.effOk b k m.e=true):=by
     show Wv.effOk b k m.e=true
     have e:=List.eq_nil_of_length_eq_zero hl0
     rw [HE2.out,Wv.refOk,HN.out,e];rfl
    rw [hl0] at x6
    clear hL hL1 hl0
    go_wp2_with fail
    go_rounds 1
    go_ret
    exact⟨zad HF.out.symm,HB1.out⟩
   ·have HF:Hid (Wv.effOk b k m.e=false):=by
     have:(decide ((0:Int)<=m.e.dots.length) && decide ((m.e.dots.length:Int)<=150))=false:=by simp;omega
     show Wv.effOk b k m.e=false
     rw [HE2.out,this];simp
    have hl2:(150:Int)<(m.e.dots.length:Int):=by omega
    clear hL hL1
    go_wp2_with fail
    go_ret
    exact⟨zad HF.out.symm,HB1.out⟩
end Go.Proofs.YtfmcngncaffloaaGreatDoor
