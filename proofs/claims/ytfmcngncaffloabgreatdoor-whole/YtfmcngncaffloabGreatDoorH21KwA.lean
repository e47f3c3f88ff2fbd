import Derived.BigQuiet
import Derived.Test.YtfmcngncaffloabGreatDoorH05KrD
set_option maxHeartbeats 6400000
namespace Go.Proofs.YtfmcngncaffloabGreatDoor
open Go.RowKit
set_option maxRecDepth 100000
theorem zsm{w:World}{base:Nat}{v:Value}{z:Int}(h:w.ownsRow base 3 1 v 1 [I z]):∃g c,v= .slice (some ⟨g,0,none⟩) 1 c∧w.cell? ⟨g,0,none⟩=some (I z):=by
 rcases h.2 with⟨_,h1⟩ | ⟨g,cap,cur,rfl,_⟩
 ·cases h1
 ·refine⟨g,cap,rfl, ?_⟩
  have:=h.cells (g:=g) rfl 0 (I z) rfl
  rw [Addr.add_lit] at this
  exact this
section
variable {σ : Type} {O : Ops σ} {P : Nat -> σ -> World -> Prop} {n : Nat} {S : σ}
theorem zvx(hA:∀s,Api O (P s) s)(hB:BegOk O S)(w:World)(hN:Calls Tryz.prog 25 #[I n] w fun e w'=>∃s,e= .returned (.tuple #[sV s,I 0])∧P s S w'):
  Calls Tryz.prog 8 #[I n] w fun e w'=>∃s,e= .returned (.tuple #[sV s, .bool true])∧P s (begF O S) w':=by
 obtain⟨b1,b2,b3,b4,b5,b6,b7⟩:=hB
 have HA:Hid (∀s,Api O (P s) s):=hA
 have HN:Hid (Calls Tryz.prog 25 #[I n] w fun e w'=>∃s,e= .returned (.tuple #[sV s,I 0])∧P s S w'):=hN
 have H1:Hid (∀s w,P s S w->Calls Tryz.prog 16 #[sV s,I 0] w fun e w'=>e= .returned (I 0)∧P s (O.bgn S 0).1 w'):=fun s w h=>by have h1:=(hA s).bgn S w 0 h;unfold Cl at h1;rw [b1] at h1;exact h1
 have H2:Hid (∀s w,P s (O.bgn S 0).1 w->Calls Tryz.prog 17 #[sV s,I 0,I 5,I 3,I 0,I 9] w fun e w'=>e= .returned (I 0)∧P s (O.doo (O.bgn S 0).1 0 5 3 0 9).1 w'):=fun s w h=>by have h1:=(hA s).doo _ w 0 5 3 0 9 h;unfold Cl at h1;rw [b2] at h1;exact h1
 have H3:Hid (∀s w,P s (O.doo (O.bgn S 0).1 0 5 3 0 9).1 w->Calls Tryz.prog 17 #[sV s,I 0,I 1,I 0,I 5,I 0] w fun e w'=>e= .returned (I 0)∧P s (O.doo (O.doo (O.bgn S 0).1 0 5 3 0 9).1 0 1 0 5 0).1 w'):=fun s w h=>by have h1:=(hA s).doo _ w 0 1 0 5 0 h;unfold Cl at h1;rw [b3] at h1;exact h1
 have H4:Hid (∀s w,P s (O.doo (O.doo (O.bgn S 0).1 0 5 3 0 9).1 0 1 0 5 0).1 w->Calls Tryz.prog 17 #[sV s,I 0,I 1,I 4,I 5,I 0] w fun e w'=>e= .returned (I 0)∧P s (O.doo (O.doo (O.doo (O.bgn S 0).1 0 5 3 0 9).1 0 1 0 5 0).1 0 1 4 5 0).1 w'):=fun s w h=>by have h1:=(hA s).doo _ w 0 1 4 5 0 h;unfold Cl at h1;rw [b4] at h1;exact h1
 have H5:Hid (∀s w,P s (O.doo (O.doo (O.doo (O.bgn S 0).1 0 5 3 0 9).1 0 1 0 5 0).1 0 1 4 5 0).1 w->Calls Tryz.prog 18 #[sV s,I 0] w fun e w'=>e= .returned (.tuple #[I 1,I 0])∧P s (begF O S) w'):=fun s w h=>by have h1:=(hA s).com _ w 0 h;rw [b5] at h1;exact h1
 have H6:Hid (∀s w,P s (begF O S) w->Calls Tryz.prog 14 #[sV s,I 0,I 3] w fun e w'=>∃v,e= .returned (.tuple #[v,I 0])∧w'.ownsRow w.heap.size 3 1 v 1 [I 9]∧Below w.heap.size w w'):=fun s w h=>by have h1:=(hA s).rd _ w 0 3 h;unfold Rl begF at h1;rw [b6] at h1;exact h1
 have H7:Hid (∀s w,P s (begF O S) w->Calls Tryz.prog 14 #[sV s,I 0,I 0] w fun e w'=>∃v,e= .returned (.tuple #[v,I 0])∧w'.ownsRow w.heap.size 3 1 v 1 [I 5]∧Below w.heap.size w w'):=fun s w h=>by have h1:=(hA s).rd _ w 0 0 h;unfold Rl begF at h1;rw [b7] at h1;exact h1
 generalize begF O S=S5 at *
 generalize (O.doo (O.doo (O.doo (O.bgn S 0).1 0 5 3 0 9).1 0 1 0 5 0).1 0 1 4 5 0).1=S4 at *
 generalize (O.doo (O.doo (O.bgn S 0).1 0 5 3 0 9).1 0 1 0 5 0).1=S3 at *
 generalize (O.doo (O.bgn S 0).1 0 5 3 0 9).1=S2 at *
 generalize (O.bgn S 0).1=S1 at *
 clear hA hN b1 b2 b3 b4 b5 b6 b7
 go_enter Tryz.func8,Tryz.ntmps8
 go_wp2_with fail
 refine HN.out.mono ?_
 rintro e w1 ⟨s,rfl,h1⟩
 have HP1:Hid (P s S w1):=h1
 clear h1 HN
 go_wp2_with fail
 refine(H1.out _ _ HP1.out).mono ?_
 rintro e w2 ⟨rfl,h1⟩
 have HP2:Hid (P s S1 w2):=h1
 clear h1 H1 HP1
 go_wp2_with fail
 refine(H2.out _ _ HP2.out).mono ?_
 rintro e w3 ⟨rfl,h1⟩
 have HP3:Hid (P s S2 w3):=h1
 clear h1 H2 HP2
 go_wp2_with fail
 refine(H3.out _ _ HP3.out).mono ?_
 rintro e w4 ⟨rfl,h1⟩
 have HP4:Hid (P s S3 w4):=h1
 clear h1 H3 HP3
 go_wp2_with fail
 refine(H4.out _ _ HP4.out).mono ?_
 rintro e w5 ⟨rfl,h1⟩
 have HP5:Hid (P s S4 w5):=h1
 clear h1 H4 HP4
 go_wp2_with fail
 refine(H5.out _ _ HP5.out).mono ?_
 rintro e w6 ⟨rfl,h1⟩
 have HP6:Hid (P s S5 w6):=h1
 clear h1 H5 HP5
 go_wp2_with fail
 refine(H6.out _ _ HP6.out).mono ?_
 rintro e w7 ⟨v7,rfl,h7,hb7⟩
 obtain⟨g7,c7,rfl,l7⟩:=zsm h7
 have HP7:Hid (P s S5 w7):=(HA.out s).bel _ _ _ HP6.out hb7
 clear h7 hb7 H6 HP6
 go_wp2_with fail
 refine(H7.out _ _ HP7.out).mono ?_
 rintro e w8 ⟨v8,rfl,h8,hb8⟩
 obtain⟨g8,c8,rfl,l8⟩:=zsm h8
 have HP8:Hid (P s S5 w8):=(HA.out s).bel _ _ _ HP7.out hb8
 have l7':w8.cell? ⟨g7,0,none⟩=some (I 9):=zaa hb8 l7
 clear h8 hb8 H7 HP7 l7
 go_wp2_with fail
 go_quiet (fail)
 have HP9:Hid (P s S5 (w8.drewN nq)):=(HA.out s).bel _ _ _ HP8.out (za5 (Below.refl _ _) nq)
 go_wp2
 go_ret2
 exact⟨s,rfl,HP9.out⟩
end
def EqLaw:Prop:=∀(xs ys:List Int) (a b:Option Addr) (ca cb:Nat) (w:World),At w a (xs.map I)->At w b (ys.map I)->xs.length<=1048576->Calls Tryz.prog 15 #[.slice a xs.length ca, .slice b ys.length cb] w fun e w'=>e= .returned (.bool (decide (xs=ys)))∧Below w.heap.size w w'
def Told(l:List Int)(v:Value)(w:World):Prop:=∃a c,v= .slice a l.length c∧At w a (l.map I)
theorem zgb{w w':World}{v:Value}{l:List Int}(h:w'.ownsRow w.heap.size 3 1 v l.length (l.map I)):Told l v w':=by
 rcases h.2 with⟨rfl,h1⟩ | ⟨g,cap,cur,rfl,_⟩
 ·refine⟨none,0,by have h0:l.length=0:=(by simpa using h1);rw [h0],fun j u hj=> ?_⟩
  have h0:l.length=0:=by simpa using h1
  rw [List.getElem?_eq_none (by simp;omega)] at hj
  cases hj
 ·refine⟨_,cap,rfl,fun j u hj=>⟨g,0,rfl, ?_⟩⟩
  have:=h.cells (g:=g) rfl j u hj
  rw [Addr.add_lit] at this
  exact this
structure Two(P:World->Prop)(n x y:Nat)(lg:Nat->List UInt8)(hd:Nat->Int)(ck:Nat->List Int)(rd:Int->Int->List Int×Int)(km:Nat)(cs:List Value):Prop where
 bel:∀w w',P w->Below w.heap.size w w'->P w'
 ax:∀w,P w->Asks n x w lg hd ck rd km cs
 ay:∀w,P w->Asks n y w lg hd ck rd km cs
 cl:∀r,(ck r).length<=1048576
 rl:∀r o,(rd r o).1.length<=1048576
 kb:km<=40
 mc:∀i,i<km->∃(k f t:Int) (bs:ByteArray),cs[i*4]?=some (I k)∧cs[i*4+1]?=some (I f)∧cs[i*4+2]?=some (I t)∧cs[i*4+3]?=some (.string bs)
section
variable {P : World -> Prop} {n x y : Nat} {lg : Nat -> List UInt8} {hd : Nat -> Int} {ck : Nat -> List Int} {rd : Int -> Int -> List Int × Int} {km : Nat} {cs : List Value}
end
def SpAt(w:World)(aa:Option Addr)(l:List Sp):Prop:=∀k (hk:k<l.length),∃p q,aa=some ⟨p,q,none⟩∧w.cell? ⟨p,q+k*5,none⟩=some (I l[k].k)∧w.cell? ⟨p,q+k*5+1,none⟩=some (I l[k].r)∧w.cell? ⟨p,q+k*5+2,none⟩=some (I l[k].a)∧w.cell? ⟨p,q+k*5+3,none⟩=some (I l[k].b)∧w.cell? ⟨p,q+k*5+4,none⟩=some (I l[k].c)
structure Rf{σ:Type}(O:Ops σ)(n:Nat)(w:World)(S0:σ)(R:Nat->Nat->σ->σ->World->Prop):Prop where
 bel:∀x y X Y w',R x y X Y w'->Below w.heap.size w w'
 new:∀x y X Y w' w2,R x y X Y w'->Below w'.heap.size w' w2->R x y X Y w2
 beg:Calls Tryz.prog 8 #[I n] w fun e w'=>∃x,e= .returned (.tuple #[sV x, .bool true])∧Calls Tryz.prog 8 #[I n] w' fun e w2=>∃y,e= .returned (.tuple #[sV y, .bool true])∧R x y S0 S0 w2
 dox:∀x y X Y w' o,SpOk o->R x y X Y w'->Calls Tryz.prog 9 #[sV x,I n, .agg #[I o.k,I o.r,I o.a,I o.b,I o.c]] w' fun e w2=>e= .returned (I (doesX O n X o).2)∧R x y (doesX O n X o).1 Y w2
 doy:∀x y X Y w' o,SpOk o->R x y X Y w'->Calls Tryz.prog 9 #[sV y,I n, .agg #[I o.k,I o.r,I o.a,I o.b,I o.c]] w' fun e w2=>e= .returned (I (doesX O n Y o).2)∧R x y X (doesX O n Y o).1 w2
 wrg:∀x y X Y w' v,Rg v->R x y X Y w'->Calls Tryz.prog 22 #[sV y,I n,I v] w' fun e w2=>e= .returned (.bool true)∧R x y X Y w2
 alk:∀x y X w',R x y X X w'->Calls Tryz.prog 23 #[sV x,sV y,I n] w' fun e w2=>e= .returned (.bool true)∧R x y X X w2
section
variable {σ : Type} {O : Ops σ} {n : Nat} {w : World} {S0 : σ} {R : Nat -> Nat -> σ -> σ -> World -> Prop}
end
structure Hv(P:World->Prop)(n s:Nat)(ck:Nat->List Int)(rd:Int->Int->List Int×Int)(l:List Int):Prop where
 bel:∀w w',P w->Below w.heap.size w w'->P w'
 fR:∀w,P w->∀r o:Int,Rl 14 #[sV s,I r,I o] w (rd r o)
 fC:∀w,P w->∀r:Nat,r<n->Rl 13 #[sV s,I r] w (ck r,0)
 fH:∀r:Nat,r<n->(rd r 0=([],4)∧rd r 4=([],4))∨∃v,rd r 0=([v],0)∧rd r 4=([v],0)∧(ck r).length=n∧l.getD r 0<=(ck r).getD r 0
abbrev laO (a b c d:Int):Obj:= .cells #[I a,I b,I c,I d] 27
theorem zgo{w:World}{g:Nat}{a b c d:Int}(h:w.heap[g]?=some (laO a b c d))(r:Nat)(hr:r<4):w.cell? ⟨g,r,none⟩=some (I ([a,b,c,d].getD r 0)):=by
 have hb:Blk w g #[I a,I b,I c,I d] 27:=h
 obtain rfl | rfl | rfl | rfl:r=0∨r=1∨r=2∨r=3:=by omega
 ·exact hb.cell 0
 ·exact hb.cell 1
 ·exact hb.cell 2
 ·exact hb.cell 3
section
variable {P : World -> Prop} {n s : Nat} {ck : Nat -> List Int} {rd : Int -> Int -> List Int × Int}
theorem zsv(hq:EqLaw){l:List Int}{v v':Value}{w w1:World}(hl:l.length<=1048576)(h1:Told l v w1)(hb:Below w1.heap.size w1 w)(h2:Told l v' w):Calls Tryz.prog 15 #[v,v'] w fun e w'=>e= .returned (.bool true)∧Below w.heap.size w w':=by
 obtain⟨a,c,rfl,ha⟩:=h1
 obtain⟨b,c',rfl,hb'⟩:=h2
 refine(hq l l a b c c' w (ha.kept hb) hb' hl).mono ?_
 rintro e w' ⟨rfl,hb2⟩
 exact⟨by rw [decide_eq_true rfl],hb2⟩
theorem zrc{a b c d:Int}(h:Hv P n s ck rd [a,b,c,d])(hq:EqLaw)(hn:n<=4)(w:World)(hP:P w):
  Calls Tryz.prog 21 #[sV s,I n, .agg #[I a,I b,I c,I d]] w fun e w'=>e= .returned (.bool true)∧Below w.heap.size w w':=by
 have HT:Hid (Hv P n s ck rd [a,b,c,d]):=h
 have HQ:Hid EqLaw:=hq
 obtain⟨w1,hw1⟩:∃w1,w1=w.alloc (laO a b c d):=⟨_,rfl⟩
 have HB1:Hid (Below w.heap.size w w1):=by rw [hw1];exact(Below.refl _ _).alloc (Nat.le_refl _) _
 have HC:Hid (∀w',Below w1.heap.size w1 w'->∀r<4,w'.cell? ⟨w.heap.size,r,none⟩=some (I ([a,b,c,d].getD r 0))):=fun w' hb r hr=>by
  refine zaa hb (zgo ?_ r hr)
  rw [hw1];exact heap_alloc_new w _
 have HP:Hid (∀w',Below w1.heap.size w1 w'->P w'):=fun w' hb=>h.bel _ _ (h.bel _ _ hP HB1.out) hb
 clear h hq hP
 go_enter Tryz.func21,Tryz.ntmps21
 go_wp2_with fail
 rw [←hw1]
 clear hw1
 go_loopw [7] (fun x7 wX=>∃r:Nat,r<=n∧x7=I r∧Hid (Below w1.heap.size w1 wX)) (fun x7 _=>n - (intOf x7).toNat)
 case atStart=>exact⟨0,Nat.zero_le _,rfl,Below.refl _ _⟩
 case round=>
  obtain⟨r,hr,rfl,HB2⟩:=hrel
  by_cases hlt:r<n
  ·have hri:(r:Int)<n:=by omega
   rcases HT.out.fH r hlt with⟨e1,e2⟩ | ⟨v,e1,e2,e3,e4⟩
   ·have HR1:Hid (∀w',Below w1.heap.size w1 w'->Calls Tryz.prog 14 #[sV s,I r,I 0] w' fun e w2=>∃v,e= .returned (.tuple #[v,I 4])∧w2.ownsRow w'.heap.size 3 1 v ([]:List Int).length (([]:List Int).map I)∧Below w'.heap.size w' w2):=fun w' hb=>by have h1:=HT.out.fR _ (HP.out _ hb) r 0;unfold Rl at h1;rw [e1] at h1;exact h1
    have HR2:Hid (∀w',Below w1.heap.size w1 w'->Calls Tryz.prog 14 #[sV s,I r,I 4] w' fun e w2=>∃v,e= .returned (.tuple #[v,I 4])∧w2.ownsRow w'.heap.size 3 1 v ([]:List Int).length (([]:List Int).map I)∧Below w'.heap.size w' w2):=fun w' hb=>by have h1:=HT.out.fR _ (HP.out _ hb) r 4;unfold Rl at h1;rw [e2] at h1;exact h1
    clear e1 e2
    go_wp2_with fail
    refine(HR1.out _ HB2.out).mono ?_
    rintro e w2 ⟨v2,rfl,h2,hb2⟩
    have HT2:Hid (Told [] v2 w2):=zgb h2
    have HB3:Hid (Below w1.heap.size w1 w2):=HB2.out.trans (hb2.mono HB2.out.size)
    clear h2 hb2 HR1 HB2
    go_wp2_with fail
    refine(HR2.out _ HB3.out).mono ?_
    rintro e w3 ⟨v3,rfl,h3,hb3⟩
    have HE:Hid (Calls Tryz.prog 15 #[v2,v3] w3 fun e w'=>e= .returned (.bool true)∧Below w3.heap.size w3 w'):=zsv HQ.out (by simp) HT2.out hb3 (zgb h3)
    have HB4:Hid (Below w1.heap.size w1 w3):=HB3.out.trans (hb3.mono HB3.out.size)
    clear h3 hb3 HR2 HB3 HT2
    go_wp2_with fail
    refine HE.out.mono ?_
    rintro e w4 ⟨rfl,h4⟩
    have HB5:Hid (Below w1.heap.size w1 w4):=HB4.out.trans (h4.mono HB4.out.size)
    clear h4 HE HB4
    go_wp2_with fail
    refine(HT.out.fC _ (HP.out _ HB5.out) r hlt).mono ?_
    rintro e w5 ⟨v5,rfl,h5,hb5⟩
    have HB6:Hid (Below w1.heap.size w1 w5):=HB5.out.trans (hb5.mono HB5.out.size)
    clear h5 hb5 HB5
    go_wp2_with fail
    go_roundw
    case rel=>exact⟨r+1,hlt,by go_num,HB6⟩
    case measure=>simp [intOf];omega
   ·have HR1:Hid (∀w',Below w1.heap.size w1 w'->Calls Tryz.prog 14 #[sV s,I r,I 0] w' fun e w2=>∃x,e= .returned (.tuple #[x,I 0])∧w2.ownsRow w'.heap.size 3 1 x [v].length ([v].map I)∧Below w'.heap.size w' w2):=fun w' hb=>by have h1:=HT.out.fR _ (HP.out _ hb) r 0;unfold Rl at h1;rw [e1] at h1;exact h1
    have HR2:Hid (∀w',Below w1.heap.size w1 w'->Calls Tryz.prog 14 #[sV s,I r,I 4] w' fun e w2=>∃x,e= .returned (.tuple #[x,I 0])∧w2.ownsRow w'.heap.size 3 1 x [v].length ([v].map I)∧Below w'.heap.size w' w2):=fun w' hb=>by have h1:=HT.out.fR _ (HP.out _ hb) r 4;unfold Rl at h1;rw [e2] at h1;exact h1
    have H3:Hid ((ck r).length=n):=e3
    have H4:Hid ([a,b,c,d].getD r 0<=(ck r).getD r 0):=e4
    clear e1 e2 e3 e4
    go_wp2_with fail
    refine(HR1.out _ HB2.out).mono ?_
    rintro e w2 ⟨v2,rfl,h2,hb2⟩
    have HT2:Hid (Told [v] v2 w2):=zgb h2
    have HB3:Hid (Below w1.heap.size w1 w2):=HB2.out.trans (hb2.mono HB2.out.size)
    clear h2 hb2 HR1 HB2
    go_wp2_with fail
    refine(HR2.out _ HB3.out).mono ?_
    rintro e w3 ⟨v3,rfl,h3,hb3⟩
    have HE:Hid (Calls Tryz.prog 15 #[v2,v3] w3 fun e w'=>e= .returned (.bool true)∧Below w3.heap.size w3 w'):=zsv HQ.out (by simp) HT2.out hb3 (zgb h3)
    have HB4:Hid (Below w1.heap.size w1 w3):=HB3.out.trans (hb3.mono HB3.out.size)
    clear h3 hb3 HR2 HB3 HT2
    go_wp2_with fail
    refine HE.out.mono ?_
    rintro e w4 ⟨rfl,h4⟩
    have HB5:Hid (Below w1.heap.size w1 w4):=HB4.out.trans (h4.mono HB4.out.size)
    clear h4 HE HB4
    go_wp2_with fail
    refine(HT.out.fC _ (HP.out _ HB5.out) r hlt).mono ?_
    rintro e w5 ⟨v5,rfl,h5,hb5⟩
    have HB6:Hid (Below w1.heap.size w1 w5):=HB5.out.trans (hb5.mono HB5.out.size)
    obtain⟨a5,c5,rfl,ha5⟩:=zgb h5
    have hl5:=H3.out
    have hrl:r<(ck r).length:=by omega
    obtain⟨g5,q5,rfl,k5⟩:=ha5 r (I ((ck r).getD r 0)) (by rw [List.getElem?_map,List.getD_eq_getElem?_getD,List.getElem?_eq_getElem hrl];rfl)
    clear hrl
    rw [hl5]
    have k1:=HC.out _ HB6.out r (by omega)
    have hle:=H4.out
    have hlf:decide ((ck r).getD r 0< [a,b,c,d].getD r 0)=false:=decide_eq_false (by omega)
    clear h5 hb5 HB5 ha5 H3 H4 hl5 hle
    generalize (ck r).getD r 0=cr at *
    generalize [a,b,c,d].getD r 0=lr at *
    go_wp2_with fail
    go_quiet (fail)
    have HB7:Hid (Below w1.heap.size w1 (w5.drewN nq)):=za5 HB6.out nq
    go_wp2_with fail
    go_roundw
    case rel=>exact⟨r+1,hlt,by go_num,HB7⟩
    case measure=>simp [intOf];omega
  ·have hri:¬(r:Int)<n:=by omega
   go_wp2
   go_ret
   exact⟨rfl,HB1.out.trans (HB2.out.mono HB1.out.size)⟩
end
end Go.Proofs.YtfmcngncaffloabGreatDoor
