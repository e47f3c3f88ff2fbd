import Derived.Test.YtfmcngncaffloabGreatDoorJ12ChkC
import Derived.Sort.Grow
import Derived.Shelf.SlGeneric
import Derived.Shelf.SlSortCmp.NoneTotal
import Derived.Shelf.SlIterI.Nil
import Derived.Shelf.SortM.Plain
import Derived.Shelf.SortM.SortNone
import Derived.Shelf.Slices.CompactI
import Derived.Ground.GgzProg
import Derived.Ground.SlgmProg
import Derived.Ground.SlsfProg
set_option maxHeartbeats 3200000
namespace Go.Proofs.YtfmcngncaffloabGreatDoor
open Go.RowKit Wv
set_option maxRecDepth 100000
theorem zdc(w:World)(cs:Array Value)(t:TypeId)(o:Obj)(j:Nat):((w.alloc (.cells cs t)).alloc o).cell? ⟨w.heap.size,j,none⟩=cs[j]?:=by
 rw [((Below.refl (w.heap.size+1) (w.alloc (.cells cs t))).alloc (by simp) o).cell (p:=⟨w.heap.size,j,none⟩) (by simp)];exact World.cell?_alloc_mark w cs t (0,0) j
theorem zb7(n:Int)(h1:0<=n)(h2:n<=7)(w:World):
  Calls Tryz.prog 68 #[I n] w fun e w'=>e= .returned (I (n % 4))∧w'=w:=by
 go_enter Tryz.func68,Tryz.ntmps68;go_wp2;go_ret;exact⟨rfl,rfl⟩
theorem zk8(b:Bt)(ca:Option Addr)(cc:Nat)(ev:Value)(i:Int)(m:Em)(w:World)(eb ef:Addr)(g:Gl w eb ef)(ho:¬(1<=m.e.op∧m.e.op<=6)):
  Calls Tryz.prog 172 #[batV b ca cc ev,I i,effV m] w fun e w'=>zca (effOk b i m.e) eb e∧Below w.heap.size w w':=by
 have HF:Hid (effOk b i m.e=false):=by
  have:isOp m.e.op=false:=by simp [isOp];omega
  show effOk b i m.e=false;simp [effOk,this]
 have HO:Hid (¬(1<=m.e.op∧m.e.op<=6)):=ho;have g':Hid (Gl w eb ef):=g;have HB:Hid (Below w.heap.size w ((w.alloc (.cells #[I b.o,I b.s,I b.t, .slice ca b.clock.length cc,ev] 134)).alloc (.cells #[I m.e.op,I m.e.ob,I m.e.va,I m.e.ref.o,I m.e.ref.s,I m.e.ref.i, .slice m.da m.e.dots.length m.dc] 128))):=((Below.refl _ _).alloc (ac _) _).alloc (by simp) _;clear g ho;go_enter Tryz.func172,Tryz.ntmps172;go_wp2_with (first | (go_at_call 67;refine(zh1 m.e.op _ eb ef (g'.out.kept HB.out) HO.out).mono ?_;rintro e w1 ⟨⟨st,rfl⟩,hb1⟩))
 go_ret;exact⟨zbl HF.out,HB.out.trans (Below.alloc (hb1.mono (by simp;omega)) (by have:=hb1.size;simp at this;omega) _)⟩
theorem zjd(b:Bt)(ca:Option Addr)(cc:Nat)(ev:Value)(i:Int)(m:Em)(w:World)(eb ef:Addr)(hI:zaj)(g:Gl w eb ef)(hp:Pw w)(hr:Right b)(h:At w ca (b.clock.map I))(hd:At w m.da (flat zac m.e.dots))(ho:1<=m.e.op∧m.e.op<=6)(hn:m.e.dots.length<=9223372036854775807):
  Calls Tryz.prog 172 #[batV b ca cc ev,I i,effV m] w fun e w'=>zca (effOk b i m.e) eb e∧Below w.heap.size w w':=by
 have HE:Hid (effOk b i m.e=((decide (0<=m.e.ob) && decide (m.e.ob<=7) && (m.e.ob % 4==rKind m.e.op)) && (decide (rLeast m.e.op<=m.e.va) && decide (m.e.va<=rGreat m.e.op)) &&
  refOk b i m.e.ref (rRef m.e.op) && (decide (rLeastD m.e.op<=m.e.dots.length) && decide ((m.e.dots.length:Int)<=rMostD m.e.op)) && dotsOk b i m.e.dots)):=by
  have:isOp m.e.op=true:=by simp [isOp,ho]
  show effOk b i m.e=_;simp only [effOk,this,Bool.true_and]
 have HO:Hid (1<=m.e.op∧m.e.op<=6):=ho;have hpw':Hid (Pw w):=hp;have g':Hid (Gl w eb ef):=g;have hr':Hid (Right b):=hr;have h':Hid (At w ca (b.clock.map I)):=h;have hd':Hid (At w m.da (flat zac m.e.dots)):=hd;have hE:=g.errBatch;have HB:Hid (Below w.heap.size w ((w.alloc (.cells #[I b.o,I b.s,I b.t, .slice ca b.clock.length cc,ev] 134)).alloc (.cells #[I m.e.op,I m.e.ob,I m.e.va,I m.e.ref.o,I m.e.ref.s,I m.e.ref.i, .slice m.da m.e.dots.length m.dc] 128))):=((Below.refl _ _).alloc (ac _) _).alloc (by simp) _;clear g ho hp hr h hd;go_enter Tryz.func172,Tryz.ntmps172;go_wp2_with fail
 refine(zbg m.e.op _ eb ef (g'.out.kept HB.out) HO.out).mono ?_;rintro e w1 ⟨rfl,hb0⟩;have hb1:Hid (Below ((w.alloc (.cells #[I b.o,I b.s,I b.t, .slice ca b.clock.length cc,ev] 134)).alloc (.cells #[I m.e.op,I m.e.ob,I m.e.va,I m.e.ref.o,I m.e.ref.s,I m.e.ref.i, .slice m.da m.e.dots.length m.dc] 128)).heap.size ((w.alloc (.cells #[I b.o,I b.s,I b.t, .slice ca b.clock.length cc,ev] 134)).alloc (.cells #[I m.e.op,I m.e.ob,I m.e.va,I m.e.ref.o,I m.e.ref.s,I m.e.ref.i, .slice m.da m.e.dots.length m.dc] 128)) w1):=hb0;have hsz:w.heap.size+1<w1.heap.size:=by have:=hb0.size;simp at this;omega
 have hsz0:w.heap.size<w1.heap.size:=by omega
 have HB1:Hid (Below w.heap.size w w1):=HB.out.trans (hb0.mono (by simp;omega));clear hb0;have y0:w1.cell? ⟨w.heap.size,0,none⟩=some (I b.o):=(hb1.out.cell (p:=⟨w.heap.size,0,none⟩) (by simp;omega)).trans (zdc w _ _ _ _);have y1:w1.cell? ⟨w.heap.size,1,none⟩=some (I b.s):=(hb1.out.cell (p:=⟨w.heap.size,1,none⟩) (by simp;omega)).trans (zdc w _ _ _ _);have y2:w1.cell? ⟨w.heap.size,2,none⟩=some (I b.t):=(hb1.out.cell (p:=⟨w.heap.size,2,none⟩) (by simp;omega)).trans (zdc w _ _ _ _);have y3:w1.cell? ⟨w.heap.size,3,none⟩=some (.slice ca b.clock.length cc):=(hb1.out.cell (p:=⟨w.heap.size,3,none⟩) (by simp;omega)).trans (zdc w _ _ _ _);have y4:w1.cell? ⟨w.heap.size,4,none⟩=some (ev):=(hb1.out.cell (p:=⟨w.heap.size,4,none⟩) (by simp;omega)).trans (zdc w _ _ _ _);have x0:w1.cell? ⟨w.heap.size+1,0,none⟩=some (I m.e.op):=(hb1.out.cell (p:=⟨w.heap.size+1,0,none⟩) (by simp)).trans (Joins.cell_alloc_mark_at _ _ _ _ _ _ (by simp));have x1:w1.cell? ⟨w.heap.size+1,1,none⟩=some (I m.e.ob):=(hb1.out.cell (p:=⟨w.heap.size+1,1,none⟩) (by simp)).trans (Joins.cell_alloc_mark_at _ _ _ _ _ _ (by simp));have x2:w1.cell? ⟨w.heap.size+1,2,none⟩=some (I m.e.va):=(hb1.out.cell (p:=⟨w.heap.size+1,2,none⟩) (by simp)).trans (Joins.cell_alloc_mark_at _ _ _ _ _ _ (by simp));have x3:w1.cell? ⟨w.heap.size+1,3,none⟩=some (I m.e.ref.o):=(hb1.out.cell (p:=⟨w.heap.size+1,3,none⟩) (by simp)).trans (Joins.cell_alloc_mark_at _ _ _ _ _ _ (by simp));have x4:w1.cell? ⟨w.heap.size+1,4,none⟩=some (I m.e.ref.s):=(hb1.out.cell (p:=⟨w.heap.size+1,4,none⟩) (by simp)).trans (Joins.cell_alloc_mark_at _ _ _ _ _ _ (by simp));have x5:w1.cell? ⟨w.heap.size+1,5,none⟩=some (I m.e.ref.i):=(hb1.out.cell (p:=⟨w.heap.size+1,5,none⟩) (by simp)).trans (Joins.cell_alloc_mark_at _ _ _ _ _ _ (by simp));have x6:w1.cell? ⟨w.heap.size+1,6,none⟩=some (.slice m.da m.e.dots.length m.dc):=(hb1.out.cell (p:=⟨w.heap.size+1,6,none⟩) (by simp)).trans (Joins.cell_alloc_mark_at _ _ _ _ _ _ (by simp));replace hE:=zaa HB1.out hE;have hz:=zad hE;unfold ruleV;have HB2:Hid (Below w.heap.size w (w1.alloc (.cells #[I (rKind m.e.op),I (rLeast m.e.op),I (rGreat m.e.op),I (rRef m.e.op),I (rLeastD m.e.op),I (rMostD m.e.op)] 118))):=HB1.out.alloc (by omega) _;cases hA:(decide (0<=m.e.ob) && decide (m.e.ob<=7))
 ·have HF:Hid (effOk b i m.e=false):=by show effOk b i m.e=false;rw [HE.out,hA];rfl
  go_wp2_with fail
  go_quiet ((go_at_call 97;exact Calls.quiet_of_same (zai _ _ _ _)))
  go_wp2;go_ret;exact⟨zbl HF.out,za7 HB2.out _⟩
 ·have hA':0<=m.e.ob∧m.e.ob<=7:=by simpa using hA
  obtain⟨hA1,hA2⟩:=hA';cases hB:(m.e.ob % 4==rKind m.e.op)
  ·have HF:Hid (effOk b i m.e=false):=by show effOk b i m.e=false;rw [HE.out,hA,hB];rfl
   have hB':(m.e.ob % 4 !=rKind m.e.op)=true:=by simpa using hB
   go_wp2_with fail
   go_quiet (first | (go_at_call 97;exact Calls.quiet_of_same (zai _ _ _ _)) | (go_at_call 68;exact Calls.quiet_of_same (zb7 _ hA1 hA2 _)))
   go_wp2;go_ret;exact⟨zbl HF.out,za7 HB2.out _⟩
  ·have hB':(m.e.ob % 4 !=rKind m.e.op)=false:=by simpa using hB
   go_wp2_with fail
   go_quiet (first | (go_at_call 97;exact Calls.quiet_of_same (zai _ _ _ _)) | (go_at_call 68;exact Calls.quiet_of_same (zb7 _ hA1 hA2 _)))
   have HN:Hid (Below w.heap.size w ((w1.alloc (.cells #[I (rKind m.e.op),I (rLeast m.e.op),I (rGreat m.e.op),I (rRef m.e.op),I (rLeastD m.e.op),I (rMostD m.e.op)] 118)).drewN nq)):=za7 HB2.out nq;have HW1:Hid (Below w1.heap.size w1 ((w1.alloc (.cells #[I (rKind m.e.op),I (rLeast m.e.op),I (rGreat m.e.op),I (rRef m.e.op),I (rLeastD m.e.op),I (rMostD m.e.op)] 118)).drewN nq)):=za7 ((Below.refl _ _).alloc (ac _) _) nq;have r0:((w1.alloc (.cells #[I (rKind m.e.op),I (rLeast m.e.op),I (rGreat m.e.op),I (rRef m.e.op),I (rLeastD m.e.op),I (rMostD m.e.op)] 118)).drewN nq).cell? ⟨w1.heap.size,0,none⟩=some (I (rKind m.e.op)):=World.cell?_alloc_mark w1 _ _ _ 0;have r1:((w1.alloc (.cells #[I (rKind m.e.op),I (rLeast m.e.op),I (rGreat m.e.op),I (rRef m.e.op),I (rLeastD m.e.op),I (rMostD m.e.op)] 118)).drewN nq).cell? ⟨w1.heap.size,1,none⟩=some (I (rLeast m.e.op)):=World.cell?_alloc_mark w1 _ _ _ 1;have r2:((w1.alloc (.cells #[I (rKind m.e.op),I (rLeast m.e.op),I (rGreat m.e.op),I (rRef m.e.op),I (rLeastD m.e.op),I (rMostD m.e.op)] 118)).drewN nq).cell? ⟨w1.heap.size,2,none⟩=some (I (rGreat m.e.op)):=World.cell?_alloc_mark w1 _ _ _ 2;have r3:((w1.alloc (.cells #[I (rKind m.e.op),I (rLeast m.e.op),I (rGreat m.e.op),I (rRef m.e.op),I (rLeastD m.e.op),I (rMostD m.e.op)] 118)).drewN nq).cell? ⟨w1.heap.size,3,none⟩=some (I (rRef m.e.op)):=World.cell?_alloc_mark w1 _ _ _ 3;have r4:((w1.alloc (.cells #[I (rKind m.e.op),I (rLeast m.e.op),I (rGreat m.e.op),I (rRef m.e.op),I (rLeastD m.e.op),I (rMostD m.e.op)] 118)).drewN nq).cell? ⟨w1.heap.size,4,none⟩=some (I (rLeastD m.e.op)):=World.cell?_alloc_mark w1 _ _ _ 4;have r5:((w1.alloc (.cells #[I (rKind m.e.op),I (rLeast m.e.op),I (rGreat m.e.op),I (rRef m.e.op),I (rLeastD m.e.op),I (rMostD m.e.op)] 118)).drewN nq).cell? ⟨w1.heap.size,5,none⟩=some (I (rMostD m.e.op)):=World.cell?_alloc_mark w1 _ _ _ 5;replace x0:=zaa HW1.out x0;replace x1:=zaa HW1.out x1;replace x2:=zaa HW1.out x2;replace x3:=zaa HW1.out x3;replace x4:=zaa HW1.out x4;replace x5:=zaa HW1.out x5;replace x6:=zaa HW1.out x6;replace y0:=zaa HW1.out y0;replace y1:=zaa HW1.out y1;replace y2:=zaa HW1.out y2;replace y3:=zaa HW1.out y3;replace y4:=zaa HW1.out y4;replace hE:=zaa HW1.out hE;have hs1:w1.heap.size<((w1.alloc (.cells #[I (rKind m.e.op),I (rLeast m.e.op),I (rGreat m.e.op),I (rRef m.e.op),I (rLeastD m.e.op),I (rMostD m.e.op)] 118)).drewN nq).heap.size:=by simp
   clear HB2 HW1;generalize (w1.alloc (.cells #[I (rKind m.e.op),I (rLeast m.e.op),I (rGreat m.e.op),I (rRef m.e.op),I (rLeastD m.e.op),I (rMostD m.e.op)] 118)).drewN nq=w2 at *
   replace hz:=zad hE;cases hC:(decide (rLeast m.e.op<=m.e.va) && decide (m.e.va<=rGreat m.e.op))
   ·have HF:Hid (effOk b i m.e=false):=by show effOk b i m.e=false;rw [HE.out,hA,hB,hC];rfl
    go_wp2_with (first | (go_at_call 97;refine(zai _ _ _ _).mono ?_;rintro e w' ⟨rfl,h⟩;subst h))
    go_ret;exact⟨zbl HF.out,HN.out⟩
   ·cases hD:refOk b i m.e.ref (rRef m.e.op)
    ·have HF:Hid (effOk b i m.e=false):=by show effOk b i m.e=false;rw [HE.out,hA,hB,hC,hD];rfl
     go_wp2_with (first | (go_at_call 97;refine(zai _ _ _ _).mono ?_;rintro e w' ⟨rfl,h⟩;subst h))
     refine(zfm b ca cc ev m.e.ref i (rRef m.e.op) _ hr'.out (h'.out.kept HN.out)).mono ?_;rw [hD];rintro e w3 ⟨rfl,hb2⟩;have HB3:Hid (Below w.heap.size w w3):=HN.out.trans (hb2.mono (by omega));replace r4:=zaa hb2 r4;replace r5:=zaa hb2 r5;replace x6:=zaa hb2 x6;replace y0:=zaa hb2 y0;replace y1:=zaa hb2 y1;replace y2:=zaa hb2 y2;replace y3:=zaa hb2 y3;replace y4:=zaa hb2 y4;replace hE:=zaa hb2 hE;replace hz:=zad hE;have hs3:=hb2.size;clear hb2 x0 x1 x2 x3 x4 x5 r0 r1 r2 r3;go_wp2_with (first | (go_at_call 97;refine(zai _ _ _ _).mono ?_;rintro e w' ⟨rfl,h⟩;subst h))
     go_ret;exact⟨zbl HF.out,HB3.out⟩
    ·cases hL:(decide (rLeastD m.e.op<=m.e.dots.length) && decide ((m.e.dots.length:Int)<=rMostD m.e.op))
     ·have HF:Hid (effOk b i m.e=false):=by show effOk b i m.e=false;rw [HE.out,hA,hB,hC,hD,hL];rfl
      go_wp2_with (first | (go_at_call 97;refine(zai _ _ _ _).mono ?_;rintro e w' ⟨rfl,h⟩;subst h))
      refine(zfm b ca cc ev m.e.ref i (rRef m.e.op) _ hr'.out (h'.out.kept HN.out)).mono ?_;rw [hD];rintro e w3 ⟨rfl,hb2⟩;have HB3:Hid (Below w.heap.size w w3):=HN.out.trans (hb2.mono (by omega));replace r4:=zaa hb2 r4;replace r5:=zaa hb2 r5;replace x6:=zaa hb2 x6;replace y0:=zaa hb2 y0;replace y1:=zaa hb2 y1;replace y2:=zaa hb2 y2;replace y3:=zaa hb2 y3;replace y4:=zaa hb2 y4;replace hE:=zaa hb2 hE;replace hz:=zad hE;have hs3:=hb2.size;clear hb2 x0 x1 x2 x3 x4 x5 r0 r1 r2 r3;go_wp2_with (first | (go_at_call 97;refine(zai _ _ _ _).mono ?_;rintro e w' ⟨rfl,h⟩;subst h))
      go_ret;exact⟨zbl HF.out,HB3.out⟩
     ·have HT:Hid (effOk b i m.e=dotsOk b i m.e.dots):=by show effOk b i m.e=_;rw [HE.out,hA,hB,hC,hD,hL];rfl
      have hlen:m.e.dots.length<=150:=by
       simp only [ak,aq] at hL;have:rMostD m.e.op<=150:=by unfold rMostD;repeat' split<;>omega
       omega
      go_wp2_with (first | (go_at_call 97;refine(zai _ _ _ _).mono ?_;rintro e w' ⟨rfl,h⟩;subst h))
      refine(zfm b ca cc ev m.e.ref i (rRef m.e.op) _ hr'.out (h'.out.kept HN.out)).mono ?_;rw [hD];rintro e w3 ⟨rfl,hb2⟩;have HB3:Hid (Below w.heap.size w w3):=HN.out.trans (hb2.mono (by omega));replace r4:=zaa hb2 r4;replace r5:=zaa hb2 r5;replace x6:=zaa hb2 x6;replace y0:=zaa hb2 y0;replace y1:=zaa hb2 y1;replace y2:=zaa hb2 y2;replace y3:=zaa hb2 y3;replace y4:=zaa hb2 y4;replace hE:=zaa hb2 hE;replace hz:=zad hE;have hs3:=hb2.size;clear hb2 x0 x1 x2 x3 x4 x5 r0 r1 r2 r3;go_wp2_with (first | (go_at_call 97;refine(zai _ _ _ _).mono ?_;rintro e w' ⟨rfl,h⟩;subst h))
      refine(zlz b ca cc ev i m.e.dots m.da m.dc _ eb ef hI (g'.out.kept HB3.out) (hpw'.out.kept HB3.out) hr'.out (h'.out.kept HB3.out) (hd'.out.kept HB3.out) hlen).mono ?_;rintro e w4 ⟨he,hb3⟩;have HB4:Hid (Below w.heap.size w w4):=HB3.out.trans (hb3.mono (by omega));unfold zca at he;cases hc:dotsOk b i m.e.dots
      ·rw [hc] at he
       obtain⟨v,rfl,hv⟩:=he;have HV:Hid (zgf eb v):=hv;clear hv;go_wp2;go_ret;exact⟨zhr (HT.out.trans hc) HV.out,HB4.out⟩
      ·rw [hc] at he
       obtain rfl:=he;go_wp2;go_ret;exact⟨zd4 (HT.out.trans hc),HB4.out⟩
theorem zje(b:Bt)(ca:Option Addr)(cc:Nat)(ev:Value)(i:Int)(m:Em)(w:World)(eb ef:Addr)(hI:zaj)(g:Gl w eb ef)(hp:Pw w)(hr:Right b)(h:At w ca (b.clock.map I))(hd:At w m.da (flat zac m.e.dots))(hn:m.e.dots.length<=9223372036854775807):
  Calls Tryz.prog 172 #[batV b ca cc ev,I i,effV m] w fun e w'=>zca (effOk b i m.e) eb e∧Below w.heap.size w w':=by
 by_cases ho:1<=m.e.op∧m.e.op<=6
 ·exact zjd b ca cc ev i m w eb ef hI g hp hr h hd ho hn
 ·exact zk8 b ca cc ev i m w eb ef g ho
theorem ztg{ok:Bool}{eb:Addr}{v:Value}(h:ok=false)(hv:zgf eb v):zfb ok eb (.returned v):=by
 rw [h];exact⟨_,rfl,Or.inl hv⟩
theorem zqj{ok:Bool}{eb:Addr}{s:ByteArray}{v:Value}(h:ok=false)(hv:zgf eb v):zfb ok eb (.returned (Flt s v)):=by
 obtain⟨t,rfl⟩:=hv;rw [h];exact⟨_,rfl,Or.inr ⟨_,_,rfl⟩⟩
theorem zqi{ok:Bool}{eb:Addr}(h:ok=true):zfb ok eb (.returned .nilIface):=by
 rw [h];rfl
theorem zlr(b:Bt)(h:headOk b=true):Right b:=by
 obtain⟨h1,h2,h3,h4,h5⟩:=head_clock b h;exact⟨h1,h2,h3,h4,h5⟩
theorem zin(b:Bt)(ca ea:Option Addr)(cc ec:Nat)(ms:List Em)(w:World)(eb ef:Addr)(hI:zaj)(g:Gl w eb ef)(hp:Pw w)(h:BatAt w b ca ea ms)(hn:b.clock.length<=9223372036854775807)(hn':b.effs.length<=9223372036854775807)(hd:∀m∈ms,m.e.dots.length<=9223372036854775807):
  Calls Tryz.prog 133 #[bV b ca ea cc ec] w fun e w'=>zfb (Wv.isB b) eb e∧Below w.heap.size w w':=by
 have hpw':Hid (Pw w):=hp;have g':Hid (Gl w eb ef):=g;have h':Hid (BatAt w b ca ea ms):=h;have HB:Hid (Below w.heap.size w (w.alloc (.cells #[I b.o,I b.s,I b.t, .slice ca b.clock.length cc, .slice ea b.effs.length ec] 134))):=(Below.refl _ _).alloc (ac _) _;clear g hp h;go_enter Tryz.func133,Tryz.ntmps133;go_wp2_with fail
 refine(zly b ca ea cc ec _ eb ef hI (g'.out.kept HB.out) (hpw'.out.kept HB.out) (h'.out.kept HB.out).clock hn hn').mono ?_;rintro e w1 ⟨he,hb1⟩;have HB1:Hid (Below w.heap.size w w1):=HB.out.trans (hb1.mono (by simp));unfold zca at he;cases hh:headOk b
 ·rw [hh] at he
  obtain⟨v,rfl,⟨st,rfl⟩⟩:=he;have HF:Hid (Wv.isB b=false):=by show Wv.isB b=false;rw [Wv.isB,hh];rfl
  go_wp2;go_ret;exact⟨ztg HF.out ⟨_,rfl⟩,HB1.out⟩
 ·rw [hh] at he
  obtain rfl:=he;have HW1:Hid (Below (w.heap.size+1) (w.alloc (.cells #[I b.o,I b.s,I b.t, .slice ca b.clock.length cc, .slice ea b.effs.length ec] 134)) w1):=hb1.mono (by simp);have hr':Hid (Right b):=zlr b hh
  have hle:1<=b.effs.length∧b.effs.length<=5:=by
   simp only [headOk,ak,aq] at hh;exact hh.1.2
  have hml:ms.length=b.effs.length:=by rw [h'.out.effs];simp
  obtain⟨p,q,hea,hp,hc0⟩:=zjj h'.out.cells (by omega);have hc:Hid _:=hc0;subst hea;have HH:Hid (headOk b=true):=hh;have hd':Hid (∀m∈ms,m.e.dots.length<=9223372036854775807):=hd;have HL:Hid (ms.length=b.effs.length):=hml;clear hb1 hc0 hh hd hml;have y0:w1.cell? ⟨w.heap.size,0,none⟩=some (I b.o):=(HW1.out.cell (p:=⟨w.heap.size,0,none⟩) (by simp)).trans (World.cell?_alloc_mark w _ _ _ 0);have y1:w1.cell? ⟨w.heap.size,1,none⟩=some (I b.s):=(HW1.out.cell (p:=⟨w.heap.size,1,none⟩) (by simp)).trans (World.cell?_alloc_mark w _ _ _ 1);have y2:w1.cell? ⟨w.heap.size,2,none⟩=some (I b.t):=(HW1.out.cell (p:=⟨w.heap.size,2,none⟩) (by simp)).trans (World.cell?_alloc_mark w _ _ _ 2);have y3:w1.cell? ⟨w.heap.size,3,none⟩=some (.slice ca b.clock.length cc):=(HW1.out.cell (p:=⟨w.heap.size,3,none⟩) (by simp)).trans (World.cell?_alloc_mark w _ _ _ 3);have y4:w1.cell? ⟨w.heap.size,4,none⟩=some (.slice (some ⟨p,q,none⟩) b.effs.length ec):=(HW1.out.cell (p:=⟨w.heap.size,4,none⟩) (by simp)).trans (World.cell?_alloc_mark w _ _ _ 4);go_wp2_with fail
  clear y0 y1 y2 y3 y4;go_loopw [15] (fun x wr=>∃k:Nat,k<=b.effs.length∧x=I k∧Hid (effsTo b k=true)∧Hid (Below (w.heap.size+1) (w.alloc (.cells #[I b.o,I b.s,I b.t, .slice ca b.clock.length cc, .slice (some ⟨p,q,none⟩) b.effs.length ec] 134)) wr)) (fun x _=>b.effs.length - (intOf x).toNat)
  case atStart=>exact⟨0,az _,rfl,rfl,HW1⟩
  case round=>
   obtain⟨k,hk,rfl,hto,hb⟩:=hrel;have hsz:w.heap.size<wr.heap.size:=by have:=hb.out.size;simp at this;omega
   have hbw:Hid (Below w.heap.size w wr):=((Below.refl _ _).alloc (ac _) _).trans (hb.out.mono (by omega));by_cases hlt:k<b.effs.length
   ·have hlt':k<ms.length:=by rw [HL.out];exact hlt
    obtain⟨c0,c1,c2,c3,c4,c5,c6⟩:=hc.out k hlt';replace c0:=zaa hbw.out c0;replace c1:=zaa hbw.out c1;replace c2:=zaa hbw.out c2;replace c3:=zaa hbw.out c3;replace c4:=zaa hbw.out c4;replace c5:=zaa hbw.out c5;replace c6:=zaa hbw.out c6;have hpr:p<wr.heap.size:=by omega
    have HM:Hid (ms[k]∈ms∧b.effs.getD k ⟨0,0,0,⟨0,0,0⟩, []⟩=ms[k].e):=⟨aU _,by rw [h'.out.effs];simp [hlt']⟩
    generalize ms[k]=m at c0 c1 c2 c3 c4 c5 c6 HM;have y0:wr.cell? ⟨w.heap.size,0,none⟩=some (I b.o):=(hb.out.cell (p:=⟨w.heap.size,0,none⟩) (by simp)).trans (World.cell?_alloc_mark w _ _ _ 0);have y1:wr.cell? ⟨w.heap.size,1,none⟩=some (I b.s):=(hb.out.cell (p:=⟨w.heap.size,1,none⟩) (by simp)).trans (World.cell?_alloc_mark w _ _ _ 1);have y2:wr.cell? ⟨w.heap.size,2,none⟩=some (I b.t):=(hb.out.cell (p:=⟨w.heap.size,2,none⟩) (by simp)).trans (World.cell?_alloc_mark w _ _ _ 2);have y3:wr.cell? ⟨w.heap.size,3,none⟩=some (.slice ca b.clock.length cc):=(hb.out.cell (p:=⟨w.heap.size,3,none⟩) (by simp)).trans (World.cell?_alloc_mark w _ _ _ 3);have y4:wr.cell? ⟨w.heap.size,4,none⟩=some (.slice (some ⟨p,q,none⟩) b.effs.length ec):=(hb.out.cell (p:=⟨w.heap.size,4,none⟩) (by simp)).trans (World.cell?_alloc_mark w _ _ _ 4);have HB2:Hid (Below w.heap.size w (wr.alloc (.cells #[I m.e.op,I m.e.ob,I m.e.va,I m.e.ref.o,I m.e.ref.s,I m.e.ref.i, .slice m.da m.e.dots.length m.dc] 128))):=hbw.out.alloc (by omega) _;go_wp2_with fail
    refine(zje b ca cc (.slice (some ⟨p,q,none⟩) b.effs.length ec) k m _ eb ef hI (g'.out.kept HB2.out) (hpw'.out.kept HB2.out) hr'.out (h'.out.clock.kept HB2.out) ((h'.out.dots m HM.out.1).kept HB2.out) (hd' m HM.out.1)).mono ?_;rintro e w2 ⟨he,hb2⟩;have HB3:Hid (Below w.heap.size w w2):=HB2.out.trans (hb2.mono (by simp;omega));have HK:Hid (Below (w.heap.size+1) wr w2):=((Below.refl _ _).alloc (by omega) _).trans (hb2.mono (by simp;omega));have hsz2:wr.heap.size<w2.heap.size:=by have:=hb2.size;simp at this;omega
    unfold zca at he;clear hb2 c0 c1 c2 c3 c4 c5 c6 y0 y1 y2 y3 y4;cases hc:effOk b k m.e
    ·rw [hc] at he
     obtain⟨v,rfl,⟨st,rfl⟩⟩:=he
     have HF:Hid (Wv.isB b=false):=by
      show Wv.isB b=false;rw [Wv.isB,effsTo_no b _ k hlt (by rw [HM.out.2,hc]),Bool.and_false]
     go_wp2_with (first | (go_at_call 173;refine(hI k _ (by omega) ?_).mono ?_;exact hpw'.out.kept HB3.out;rintro e w' ⟨⟨sn,hst,rfl⟩,hb9⟩;have hcat:¬9223372036854775807<7+sn.size:=by omega))
     go_ret;exact⟨zqj HF.out ⟨_,rfl⟩,HB3.out.trans (hb9.mono (by omega))⟩
    ·rw [hc] at he
     obtain rfl:=he
     have HT:Hid (effsTo b (k+1)=true):=by
      show(effsTo b k && effOk b k _)=true;rw [hto.out,HM.out.2,hc];rfl
     go_wp2_with fail
     exact⟨⟨k+1,by omega,by go_num,HT,hb.out.trans HK.out⟩,by simp [intOf];omega⟩
   ·obtain rfl:k=b.effs.length:=by omega
    have HT:Hid (Wv.isB b=true):=by show Wv.isB b=true;rw [Wv.isB,HH.out,hto.out];rfl
    go_wp2;go_ret;exact⟨zqi HT.out,hbw.out⟩
def cmpD(a b:Dt):Int:=orI (cmpI a.o b.o) (cmpI a.s b.s) (cmpI a.i b.i)
theorem zxv(a b:Dt):(decide (cmpD a b<0))=lessD a b:=zuh a b
theorem zk5(a b:Dt)(w:World):
  Calls Tryz.prog 208 #[dotV a,dotV b] w fun e w'=>e= .returned (I (cmpD a b))∧∃q os',w'=Sort.grow (w.drewN q) os':=by
 have k0:Hid (((((w.alloc (.cells #[I a.o,I a.s,I a.i] 125)).alloc (.cells #[I b.o,I b.s,I b.i] 125)).alloc (.cells #[I (cmpI a.o b.o),I (cmpI a.s b.s),I (cmpI a.i b.i)] 3)).drew).cell? ⟨w.heap.size+1+1,0,none⟩=some (I (cmpI a.o b.o))):=zde _ _ _ _ _ (by simp);have k1:Hid (((((w.alloc (.cells #[I a.o,I a.s,I a.i] 125)).alloc (.cells #[I b.o,I b.s,I b.i] 125)).alloc (.cells #[I (cmpI a.o b.o),I (cmpI a.s b.s),I (cmpI a.i b.i)] 3)).drew).cell? ⟨w.heap.size+1+1,1,none⟩=some (I (cmpI a.s b.s))):=zde _ _ _ _ _ (by simp);have k2:Hid (((((w.alloc (.cells #[I a.o,I a.s,I a.i] 125)).alloc (.cells #[I b.o,I b.s,I b.i] 125)).alloc (.cells #[I (cmpI a.o b.o),I (cmpI a.s b.s),I (cmpI a.i b.i)] 3)).drew).cell? ⟨w.heap.size+1+1,2,none⟩=some (I (cmpI a.i b.i))):=zde _ _ _ _ _ (by simp);go_enter Tryz.func208,Tryz.ntmps208;go_wp2_with fail
 go_region_held3 (fun w'=>w'.cell? ⟨w.heap.size,0,none⟩=some (I a.o)∧w'.cell? ⟨w.heap.size,1,none⟩=some (I a.s)∧w'.cell? ⟨w.heap.size,2,none⟩=some (I a.i)∧w'.cell? ⟨w.heap.size+1,0,none⟩=some (I b.o)∧w'.cell? ⟨w.heap.size+1,1,none⟩=some (I b.s)∧w'.cell? ⟨w.heap.size+1,2,none⟩=some (I b.i)) (go_keep)
  (first | (go_at_call 102;refine(zeb _ _ _).mono ?_;rintro e w' ⟨rfl,h⟩;subst h) | (go_at_call 101;refine(znw (cmpI a.o b.o) (cmpI a.s b.s) (cmpI a.i b.i) _ _ ?_ ?_ ?_).mono ?_;exact k0.out;exact k1.out;exact k2.out;rintro e w' ⟨rfl,h⟩;subst h))
 go_wp2;go_ret;exact⟨rfl,1,_,by rw [Sort.alloc_eq_grow,Sort.alloc_eq_grow,Sort.alloc_eq_grow,Sort.grow_grow,Sort.grow_grow];rfl⟩
end Go.Proofs.YtfmcngncaffloabGreatDoor
namespace Go.Proofs
open Go.Shelf
def Tryz.sortDot_ren:Go.Shelf.Ren:=⟨fun | 6=>270 | 15=>268 | 14=>283 | 28=>281 | 29=>217 | 20=>289 | 21=>290 | 22=>291 | 23=>292 | 24=>293 | 25=>294 | 26=>295 | 27=>296 | 46=>298 | 47=>285 | 48=>286 | 49=>299 | 50=>300 | 57=>301 | n=>n,fun | 22=>126 | 24=>125 | 25=>282 | 3=>3 | 39=>252 | 0=>0 | 53=>250 | 55=>287 | 4=>4 | 46=>337 | 45=>336 | 50=>342 | 5=>5 | 9=>9 | 66=>346 | 70=>350 | 76=>357 | 77=>358 | n=>n,fun | n=>n⟩
theorem Tryz.sortDot:Go.Proofs.SlLaysF0.n6 Tryz.prog Tryz.sortDot_ren:={
 mixed:=by kernel_rfl
 f6:=⟨Tryz.f270.name,by decide,Tryz.func270.trans (congrArg some (by kernel_rfl))⟩
 f14:=⟨Tryz.f283.name,by decide,Tryz.func283.trans (congrArg some (by kernel_rfl))⟩
 f15:=Tryz.func268.trans (congrArg some (by kernel_rfl))
 f20:=⟨Tryz.f289.name,by decide,Tryz.func289.trans (congrArg some (by kernel_rfl))⟩
 f21:=⟨Tryz.f290.name,by decide,Tryz.func290.trans (congrArg some (by kernel_rfl))⟩
 f22:=⟨Tryz.f291.name,by decide,Tryz.func291.trans (congrArg some (by kernel_rfl))⟩
 f23:=⟨Tryz.f292.name,by decide,Tryz.func292.trans (congrArg some (by kernel_rfl))⟩
 f24:=⟨Tryz.f293.name,by decide,Tryz.func293.trans (congrArg some (by kernel_rfl))⟩
 f25:=⟨Tryz.f294.name,by decide,Tryz.func294.trans (congrArg some (by kernel_rfl))⟩
 f26:=⟨Tryz.f295.name,by decide,Tryz.func295.trans (congrArg some (by kernel_rfl))⟩
 f27:=⟨Tryz.f296.name,by decide,Tryz.func296.trans (congrArg some (by kernel_rfl))⟩
 f28:=Tryz.func281.trans (congrArg some (by kernel_rfl))
 f29:=Tryz.func217.trans (congrArg some (by kernel_rfl))
 f46:=⟨Tryz.f298.name,by decide,Tryz.func298.trans (congrArg some (by kernel_rfl))⟩
 f47:=Tryz.func285.trans (congrArg some (by kernel_rfl))
 f48:=Tryz.func286.trans (congrArg some (by kernel_rfl))
 f49:=⟨Tryz.f299.name,by decide,Tryz.func299.trans (congrArg some (by kernel_rfl))⟩
 f50:=⟨Tryz.f300.name,by decide,Tryz.func300.trans (congrArg some (by kernel_rfl))⟩
 f57:=⟨Tryz.f301.name,by decide,Tryz.func301.trans (congrArg some (by kernel_rfl))⟩
 t0:=Tryz.underlying0
 a0:=Tryz.isAgg0
 z0:=Tryz.sizeOf0
 v0:=Tryz.zeroValue0
 t3:=Tryz.underlying3
 a3:=Tryz.isAgg3
 z3:=Tryz.sizeOf3
 v3:=Tryz.zeroValue3
 t4:=Tryz.underlying4
 a4:=Tryz.isAgg4
 z4:=Tryz.sizeOf4
 v4:=Tryz.zeroValue4
 t5:=Tryz.underlying5
 a5:=Tryz.isAgg5
 z5:=Tryz.sizeOf5
 v5:=Tryz.zeroValue5
 t9:=Tryz.underlying9
 a9:=Tryz.isAgg9
 z9:=Tryz.sizeOf9
 v9:=Tryz.zeroValue9
 t22:=Tryz.underlying126
 a22:=Tryz.isAgg126
 z22:=Tryz.sizeOf126
 v22:=Tryz.zeroValue126
 t25:=Tryz.underlying282
 a25:=Tryz.isAgg282
 z25:=Tryz.sizeOf282
 v25:=Tryz.zeroValue282
 t39:=Tryz.underlying252
 a39:=Tryz.isAgg252
 z39:=Tryz.sizeOf252
 v39:=Tryz.zeroValue252
 t45:=Tryz.underlying336
 a45:=Tryz.isAgg336
 z45:=Tryz.sizeOf336
 v45:=Tryz.zeroValue336
 t46:=Tryz.underlying337
 a46:=Tryz.isAgg337
 z46:=Tryz.sizeOf337
 v46:=Tryz.zeroValue337
 t50:=Tryz.underlying342
 a50:=Tryz.isAgg342
 z50:=Tryz.sizeOf342
 v50:=Tryz.zeroValue342
 t53:=Tryz.underlying250
 a53:=Tryz.isAgg250
 z53:=Tryz.sizeOf250
 v53:=Tryz.zeroValue250
 t55:=Tryz.underlying287
 a55:=Tryz.isAgg287
 z55:=Tryz.sizeOf287
 v55:=Tryz.zeroValue287
 t66:=Tryz.underlying346
 a66:=Tryz.isAgg346
 z66:=Tryz.sizeOf346
 v66:=Tryz.zeroValue346
 t70:=Tryz.underlying350
 a70:=Tryz.isAgg350
 z70:=Tryz.sizeOf350
 v70:=Tryz.zeroValue350
 t76:=Tryz.underlying357
 a76:=Tryz.isAgg357
 z76:=Tryz.sizeOf357
 v76:=Tryz.zeroValue357
 t77:=Tryz.underlying358
 a77:=Tryz.isAgg358
 z77:=Tryz.sizeOf358
 v77:=Tryz.zeroValue358}
def Tryz.sortedI_ren:Go.Shelf.Ren:=⟨fun | 6=>253 | 8=>259 | 9=>260 | 11=>266 | 13=>268 | 12=>267 | 23=>281 | 24=>217 | 14=>272 | 15=>273 | 16=>274 | 17=>275 | 18=>276 | 19=>277 | 20=>278 | 21=>279 | 22=>280 | 25=>284 | 26=>285 | 27=>286 | 28=>287 | 29=>288 | 30=>140 | 31=>297 | n=>n,fun | 26=>3 | 28=>319 | 24=>32 | 0=>0 | 3=>3 | 37=>252 | 48=>250 | 50=>287 | 4=>4 | 40=>337 | 39=>336 | 45=>342 | 5=>5 | 9=>9 | 51=>346 | 55=>350 | 57=>357 | 58=>358 | 33=>97 | n=>n,fun | n=>n⟩
theorem Tryz.sortedI:Go.Proofs.SlLaysZI.n6 Tryz.prog Tryz.sortedI_ren:={
 mixed:=by kernel_rfl
 f6:=⟨Tryz.f253.name,by decide,Tryz.func253.trans (congrArg some (by kernel_rfl))⟩
 f8:=⟨Tryz.f259.name,by decide,Tryz.func259.trans (congrArg some (by kernel_rfl))⟩
 f11:=⟨Tryz.f266.name,by decide,Tryz.func266.trans (congrArg some (by kernel_rfl))⟩
 t0:=Tryz.underlying0
 a0:=Tryz.isAgg0
 z0:=Tryz.sizeOf0
 v0:=Tryz.zeroValue0
 t24:=Tryz.underlying32
 a24:=Tryz.isAgg32
 z24:=Tryz.sizeOf32
 v24:=Tryz.zeroValue32
 t26:=Tryz.underlying3
 a26:=Tryz.isAgg3
 z26:=Tryz.sizeOf3
 v26:=Tryz.zeroValue3
 t28:=Tryz.underlying319
 a28:=Tryz.isAgg319
 z28:=Tryz.sizeOf319
 v28:=Tryz.zeroValue319
 i26:=by kernel_rfl}
def Tryz.sortI_ren:Go.Shelf.Ren:=⟨fun | 5=>260 | 8=>268 | 7=>267 | 19=>281 | 20=>217 | 10=>272 | 11=>273 | 12=>274 | 13=>275 | 14=>276 | 15=>277 | 16=>278 | 17=>279 | 18=>280 | 30=>284 | 31=>285 | 32=>286 | 33=>287 | 34=>288 | 35=>140 | 40=>297 | n=>n,fun | 23=>32 | 25=>3 | 3=>3 | 32=>252 | 22=>32 | 0=>0 | 44=>250 | 46=>287 | 4=>4 | 36=>337 | 35=>336 | 41=>342 | 5=>5 | 9=>9 | 53=>346 | 57=>350 | 63=>357 | 64=>358 | n=>n,fun | n=>n⟩
theorem Tryz.sortI:Go.Proofs.SlLaysM.n5 Tryz.prog Tryz.sortI_ren:={
 mixed:=by kernel_rfl
 f5:=⟨Tryz.f260.name,by decide,Tryz.func260.trans (congrArg some (by kernel_rfl))⟩
 f7:=⟨Tryz.f267.name,by decide,Tryz.func267.trans (congrArg some (by kernel_rfl))⟩
 f8:=Tryz.func268.trans (congrArg some (by kernel_rfl))
 f10:=⟨Tryz.f272.name,by decide,Tryz.func272.trans (congrArg some (by kernel_rfl))⟩
 f11:=⟨Tryz.f273.name,by decide,Tryz.func273.trans (congrArg some (by kernel_rfl))⟩
 f12:=⟨Tryz.f274.name,by decide,Tryz.func274.trans (congrArg some (by kernel_rfl))⟩
 f13:=⟨Tryz.f275.name,by decide,Tryz.func275.trans (congrArg some (by kernel_rfl))⟩
 f14:=⟨Tryz.f276.name,by decide,Tryz.func276.trans (congrArg some (by kernel_rfl))⟩
 f15:=⟨Tryz.f277.name,by decide,Tryz.func277.trans (congrArg some (by kernel_rfl))⟩
 f16:=⟨Tryz.f278.name,by decide,Tryz.func278.trans (congrArg some (by kernel_rfl))⟩
 f17:=⟨Tryz.f279.name,by decide,Tryz.func279.trans (congrArg some (by kernel_rfl))⟩
 f18:=⟨Tryz.f280.name,by decide,Tryz.func280.trans (congrArg some (by kernel_rfl))⟩
 f19:=Tryz.func281.trans (congrArg some (by kernel_rfl))
 f20:=Tryz.func217.trans (congrArg some (by kernel_rfl))
 f30:=⟨Tryz.f284.name,by decide,Tryz.func284.trans (congrArg some (by kernel_rfl))⟩
 f31:=Tryz.func285.trans (congrArg some (by kernel_rfl))
 f32:=Tryz.func286.trans (congrArg some (by kernel_rfl))
 f33:=⟨Tryz.f287.name,by decide,Tryz.func287.trans (congrArg some (by kernel_rfl))⟩
 f34:=⟨Tryz.f288.name,by decide,Tryz.func288.trans (congrArg some (by kernel_rfl))⟩
 f35:=⟨Tryz.f140.name,by decide,Tryz.func140.trans (congrArg some (by kernel_rfl))⟩
 f40:=⟨Tryz.f297.name,by decide,Tryz.func297.trans (congrArg some (by kernel_rfl))⟩
 t0:=Tryz.underlying0
 a0:=Tryz.isAgg0
 z0:=Tryz.sizeOf0
 v0:=Tryz.zeroValue0
 t3:=Tryz.underlying3
 a3:=Tryz.isAgg3
 z3:=Tryz.sizeOf3
 v3:=Tryz.zeroValue3
 t4:=Tryz.underlying4
 a4:=Tryz.isAgg4
 z4:=Tryz.sizeOf4
 v4:=Tryz.zeroValue4
 t5:=Tryz.underlying5
 a5:=Tryz.isAgg5
 z5:=Tryz.sizeOf5
 v5:=Tryz.zeroValue5
 t9:=Tryz.underlying9
 a9:=Tryz.isAgg9
 z9:=Tryz.sizeOf9
 v9:=Tryz.zeroValue9
 t22:=Tryz.underlying32
 a22:=Tryz.isAgg32
 z22:=Tryz.sizeOf32
 v22:=Tryz.zeroValue32
 t23:=Tryz.underlying32
 a23:=Tryz.isAgg32
 z23:=Tryz.sizeOf32
 v23:=Tryz.zeroValue32
 t25:=Tryz.underlying3
 a25:=Tryz.isAgg3
 z25:=Tryz.sizeOf3
 v25:=Tryz.zeroValue3
 t32:=Tryz.underlying252
 a32:=Tryz.isAgg252
 z32:=Tryz.sizeOf252
 v32:=Tryz.zeroValue252
 t35:=Tryz.underlying336
 a35:=Tryz.isAgg336
 z35:=Tryz.sizeOf336
 v35:=Tryz.zeroValue336
 t36:=Tryz.underlying337
 a36:=Tryz.isAgg337
 z36:=Tryz.sizeOf337
 v36:=Tryz.zeroValue337
 t41:=Tryz.underlying342
 a41:=Tryz.isAgg342
 z41:=Tryz.sizeOf342
 v41:=Tryz.zeroValue342
 t44:=Tryz.underlying250
 a44:=Tryz.isAgg250
 z44:=Tryz.sizeOf250
 v44:=Tryz.zeroValue250
 t46:=Tryz.underlying287
 a46:=Tryz.isAgg287
 z46:=Tryz.sizeOf287
 v46:=Tryz.zeroValue287
 t53:=Tryz.underlying346
 a53:=Tryz.isAgg346
 z53:=Tryz.sizeOf346
 v53:=Tryz.zeroValue346
 t57:=Tryz.underlying350
 a57:=Tryz.isAgg350
 z57:=Tryz.sizeOf350
 v57:=Tryz.zeroValue350
 t63:=Tryz.underlying357
 a63:=Tryz.isAgg357
 z63:=Tryz.sizeOf357
 v63:=Tryz.zeroValue357
 t64:=Tryz.underlying358
 a64:=Tryz.isAgg358
 z64:=Tryz.sizeOf358
 v64:=Tryz.zeroValue358}
def Tryz.compactI_ren:Go.Shelf.Ren:=⟨fun | 20=>252 | n=>n,fun | 22=>32 | 3=>3 | 4=>4 | 0=>0 | n=>n,fun | n=>n⟩
theorem Tryz.compactI:Go.Proofs.Lays2.n20 Tryz.prog Tryz.compactI_ren:={
 mixed:=by kernel_rfl
 f20:=Tryz.func252.trans (congrArg some (by kernel_rfl))
 t0:=Tryz.underlying0
 a0:=Tryz.isAgg0
 z0:=Tryz.sizeOf0
 v0:=Tryz.zeroValue0
 t3:=Tryz.underlying3
 a3:=Tryz.isAgg3
 z3:=Tryz.sizeOf3
 v3:=Tryz.zeroValue3
 t4:=Tryz.underlying4
 a4:=Tryz.isAgg4
 z4:=Tryz.sizeOf4
 v4:=Tryz.zeroValue4
 t22:=Tryz.underlying32
 a22:=Tryz.isAgg32
 z22:=Tryz.sizeOf32
 v22:=Tryz.zeroValue32
 i3:=by kernel_rfl}
end Go.Proofs
namespace Go.Proofs.YtfmcngncaffloabGreatDoor
open Go.RowKit Wv
set_option maxRecDepth 100000
instance:Inhabited Dt:=⟨⟨0,0,0⟩⟩
theorem ltD(a b:Dt):ltOf cmpD a b=lessD a b:=zxv a b
theorem zep(a b:Dt):lessD a b=true↔a.o<b.o∨(a.o=b.o∧(a.s<b.s∨(a.s=b.s∧a.i<b.i))):=by
 unfold lessD;split<;>simp<;>omega
theorem zb1(a b:Dt):lessD a b=false↔b.o<a.o∨(a.o=b.o∧(b.s<a.s∨(a.s=b.s∧b.i<=a.i))):=by
 rw [←Bool.not_eq_true,zep];omega
theorem swoD:Sort.SWO (ltOf cmpD) where
 irrefl x:=by rw [ltD,zb1];omega
 trans x y z h1 h2:=by rw [ltD,zep] at *;omega
 ntrans x y z h1 h2:=by rw [ltD,zb1] at *;omega
theorem totD(x y:Dt)(h1:ltOf cmpD x y=false)(h2:ltOf cmpD y x=false):x=y:=by
 rw [ltD,zb1] at h1 h2;cases x;cases y
 simp at *
 omega
def insD(x:Dt):List Dt->List Dt
 | []=> [x]
 | y::r=>if lessD y x then y::insD x r else x::y::r
def sortD(l:List Dt):List Dt:=l.foldr insD []
theorem zic(x:Dt):∀l,(insD x l).Perm (x::l)
 | []=>by simp [insD]
 | y::r=>by
  unfold insD;split
  ·exact((zic x r).cons y).trans (List.Perm.swap x y r)
  ·exact List.Perm.refl _
theorem zb5:∀l,(sortD l).Perm l
 | []=>List.Perm.refl _
 | x::r=>(zic x _).trans ((zb5 r).cons x)
theorem zek(l:List Dt):(sortD l).length=l.length:=(zb5 l).length_eq
theorem zi0(x:Dt):∀l,l.Pairwise (fun a b=>(!lessD b a)=true)->(insD x l).Pairwise (fun a b=>(!lessD b a)=true)
 | [],_=>by simp [insD]
 | y::r,h=>by
  obtain⟨h1,h2⟩:=List.pairwise_cons.1 h;unfold insD;split
  ·rename_i hy
   refine List.pairwise_cons.2 ⟨fun z hz=> ?_,zi0 x r h2⟩;rcases ar.1 ((zic x r).mem_iff.1 hz) with rfl | hz'
   ·simp only [Bool.not_eq_true',zb1]
    rw [zep] at hy;omega
   ·exact h1 z hz'
  ·rename_i hy
   refine List.pairwise_cons.2 ⟨fun z hz=> ?_,h⟩;have hy':lessD y x=false:=by simpa using hy
   rcases ar.1 hz with rfl | hz'
   ·simp [hy']
   ·have h3:=h1 z hz'
    simp only [Bool.not_eq_true',zb1] at h3 ⊢;rw [zb1] at hy';omega
theorem zdh:∀l,(sortD l).Pairwise (fun a b=>(!lessD b a)=true)
 | []=>List.Pairwise.nil
 | x::r=>zi0 x _ (zdh r)
theorem zql{l r:List Dt}(hp:l.Perm r)(hs:l.Pairwise (fun a b=>(!lessD b a)=true)):l=sortD r:=by
 refine List.Perm.eq_of_pairwise (le:=fun a b=>(!lessD b a)=true) (fun a b _ _ h1 h2=> ?_) hs (zdh r) (hp.trans (zb5 r).symm);simp only [Bool.not_eq_true'] at h1 h2;exact totD a b (by rw [ltD];exact h2) (by rw [ltD];exact h1)
theorem zpq(l:List Dt):l.mergeSort (fun x y=> !(ltOf cmpD) y x)=sortD l:=by
 refine zql (List.mergeSort_perm _ _) ?_
 have h:=List.pairwise_mergeSort (le:=fun x y=> !(ltOf cmpD) y x) (fun a b c h1 h2=>by
  simp only [ltD,Bool.not_eq_true',zb1] at *;omega) (fun a b=>by
  simp only [ltD,Bool.or_eq_true,Bool.not_eq_true',zb1];omega) l
 simpa only [ltD] using h
def insI(x:Int):List Int->List Int
 | []=> [x]
 | y::r=>if y<x then y::insI x r else x::y::r
def sortI(l:List Int):List Int:=l.foldr insI []
theorem zib(x:Int):∀l,(insI x l).Perm (x::l)
 | []=>by simp [insI]
 | y::r=>by
  unfold insI;split
  ·exact((zib x r).cons y).trans (List.Perm.swap x y r)
  ·exact List.Perm.refl _
theorem zdt:∀l,(sortI l).Perm l
 | []=>List.Perm.refl _
 | x::r=>(zib x _).trans ((zdt r).cons x)
theorem ziz(x:Int):∀l,l.Pairwise (fun a b=>a<=b)->(insI x l).Pairwise (fun a b=>a<=b)
 | [],_=>by simp [insI]
 | y::r,h=>by
  obtain⟨h1,h2⟩:=List.pairwise_cons.1 h;unfold insI;split
  ·refine List.pairwise_cons.2 ⟨fun z hz=> ?_,ziz x r h2⟩
   rcases ar.1 ((zib x r).mem_iff.1 hz) with rfl | hz'
   ·omega
   ·exact h1 z hz'
  ·refine List.pairwise_cons.2 ⟨fun z hz=> ?_,h⟩
   rcases ar.1 hz with rfl | hz'
   ·omega
   ·have h3:=h1 z hz'
    omega
theorem zey:∀l,(sortI l).Pairwise (fun a b=>a<=b)
 | []=>List.Pairwise.nil
 | x::r=>ziz x _ (zey r)
theorem eq_sortI{l r:List Int}(hp:l.Perm r)(hs:l.Pairwise (fun a b=>a<=b)):l=sortI r:=
 List.Perm.eq_of_pairwise (le:=fun a b=>a<=b) (fun a b _ _ h1 h2=>by omega) hs (zey r) (hp.trans (zdt r).symm)
theorem zpp{l r:List Int}(hp:l.Perm r):l.mergeSort (fun x y=>decide (x<=y))=sortI r:=by
 refine eq_sortI ((List.mergeSort_perm _ _).trans hp) ?_;have h:=List.pairwise_mergeSort (le:=fun x y:Int=>decide (x<=y)) (fun a b c h1 h2=>by simp at *;omega) (fun a b=>by simp;omega) l;exact h.imp (fun h=>by simpa using h)
