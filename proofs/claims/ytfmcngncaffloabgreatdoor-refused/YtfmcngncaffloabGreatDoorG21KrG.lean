import Derived.BigQuiet
import Derived.Test.YtfmcngncaffloabGreatDoorG05KrD
set_option maxHeartbeats 6400000
namespace Go.Proofs.YtfmcngncaffloabGreatDoor
open Go.RowKit
set_option maxRecDepth 100000
theorem zr9{w:World}{base:Nat}{v:Value}{z:Int}(h:w.ownsRow base 3 1 v 1 [I z]):∃g c,v= .slice (some ⟨g,0,none⟩) 1 c∧w.cell? ⟨g,0,none⟩=some (I z):=by
 rcases h.2 with⟨_,h1⟩ | ⟨g,cap,cur,rfl,_⟩
 ·cases h1
 ·refine⟨g,cap,rfl, ?_⟩
  have:=h.cells (g:=g) rfl 0 (I z) rfl
  rw [Addr.add_lit] at this
  exact this
section
variable {σ : Type} {O : Ops σ} {P : Nat -> σ -> World -> Prop} {n : Nat} {S : σ}
theorem zlj(hA:∀s,Api O (P s) s)(hB:BegOk O S)(w:World)(hN:Calls Tryz.prog 25 #[I n] w fun e w'=>∃s,e= .returned (.tuple #[sV s,I 0])∧P s S w'):
  Calls Tryz.prog 8 #[I n] w fun e w'=>∃s,e= .returned (.tuple #[sV s, .bool true])∧P s (begF O S) w':=by
 obtain⟨b1,b2,b3,b4,b5,b6,b7⟩:=hB
 have HA:Hid (∀s,Api O (P s) s):=hA
 have HN:Hid (Calls Tryz.prog 25 #[I n] w fun e w'=>∃s,e= .returned (.tuple #[sV s,I 0])∧P s S w'):=hN
 have H1:Hid (∀s w,P s S w->Calls Tryz.prog 16 #[sV s,I 0] w fun e w'=>e= .returned (I 0)∧P s (O.bgn S 0).1 w'):=fun s w h=>by have h1:=(hA s).bgn S w 0 h;unfold Cl at h1;rw [b1] at h1;exact h1
 have H2:Hid (∀s w,P s (O.bgn S 0).1 w->Calls Tryz.prog 17 #[sV s,I 0,I 5,I 3,I 0,I 9] w fun e w'=>e= .returned (I 0)∧P s (O.doo (O.bgn S 0).1 0 5 3 0 9).1 w'):=fun s w h=>by have h1:=(hA s).doo _ w 0 5 3 0 9 h;unfold Cl at h1;rw [b2] at h1;exact h1
 have H3:Hid (∀s w,P s (O.doo (O.bgn S 0).1 0 5 3 0 9).1 w->Calls Tryz.prog 17 #[sV s,I 0,I 1,I 0,I 5,I 0] w fun e w'=>e= .returned (I 0)∧P s (O.doo (O.doo (O.bgn S 0).1 0 5 3 0 9).1 0 1 0 5 0).1 w'):=fun s w h=>by have h1:=(hA s).doo _ w 0 1 0 5 0 h;unfold Cl at h1;rw [b3] at h1;exact h1
 have H4:Hid (∀s w,P s (O.doo (O.doo (O.bgn S 0).1 0 5 3 0 9).1 0 1 0 5 0).1 w->Calls Tryz.prog 17 #[sV s,I 0,I 1,I 4,I 5,I 0] w fun e w'=>e= .returned (I 0)∧P s (O.doo (O.doo (O.doo (O.bgn S 0).1 0 5 3 0 9).1 0 1 0 5 0).1 0 1 4 5 0).1 w'):=fun s w h=>by have h1:=(hA s).doo _ w 0 1 4 5 0 h;unfold Cl at h1;rw [b4] at h1;exact h1
 have H5:Hid (∀s w,P s (O.doo (O.doo (O.doo (O.bgn S 0).1 0 5 3 0 9).1 0 1 0 5 0).1 0 1 4 5 0).1 w->Calls Tryz.prog 18 #[sV s,I 0] w fun e w'=>e= .returned (.tuple #[I 1,I 0])∧P s (begF O S) w'):=fun s w h=>by have h1:=(hA s).com _ w 0 h;rw [b5] at h1;exact h1
 have H6:Hid (∀s w,P s (begF O S) w->Calls Tryz.prog 14 #[sV s,I 0,I 3] w fun e w'=>∃v,e= .returned (.tuple #[v,I 0])∧w'.ownsRow w.heap.size 3 1 v 1 [I 9]∧Below w.heap.size w w'):=fun s w h=>by have h1:=(hA s).rd _ w 0 3 h;unfold Rl begF at h1;rw [b6] at h1;exact h1
 have H7:Hid (∀s w,P s (begF O S) w->Calls Tryz.prog 14 #[sV s,I 0,I 0] w fun e w'=>∃v,e= .returned (.tuple #[v,I 0])∧w'.ownsRow w.heap.size 3 1 v 1 [I 5]∧Below w.heap.size w w'):=fun s w h=>by have h1:=(hA s).rd _ w 0 0 h;unfold Rl begF at h1;rw [b7] at h1;exact h1
 generalize begF O S=S5 at *
 generalize (O.doo (O.doo (O.doo (O.bgn S 0).1 0 5 3 0 9).1 0 1 0 5 0).1 0 1 4 5 0).1=S4 at *
 generalize (O.doo (O.doo (O.bgn S 0).1 0 5 3 0 9).1 0 1 0 5 0).1=S3 at *
 generalize (O.doo (O.bgn S 0).1 0 5 3 0 9).1=S2 at *
 generalize (O.bgn S 0).1=S1 at *
 clear hA hN b1 b2 b3 b4 b5 b6 b7
 go_enter Tryz.func8,Tryz.ntmps8
 go_wp2_with fail
 refine HN.out.mono ?_
 rintro e w1 ⟨s,rfl,h1⟩
 have HP1:Hid (P s S w1):=h1
 clear h1 HN
 go_wp2_with fail
 refine(H1.out _ _ HP1.out).mono ?_
 rintro e w2 ⟨rfl,h1⟩
 have HP2:Hid (P s S1 w2):=h1
 clear h1 H1 HP1
 go_wp2_with fail
 refine(H2.out _ _ HP2.out).mono ?_
 rintro e w3 ⟨rfl,h1⟩
 have HP3:Hid (P s S2 w3):=h1
 clear h1 H2 HP2
 go_wp2_with fail
 refine(H3.out _ _ HP3.out).mono ?_
 rintro e w4 ⟨rfl,h1⟩
 have HP4:Hid (P s S3 w4):=h1
 clear h1 H3 HP3
 go_wp2_with fail
 refine(H4.out _ _ HP4.out).mono ?_
 rintro e w5 ⟨rfl,h1⟩
 have HP5:Hid (P s S4 w5):=h1
 clear h1 H4 HP4
 go_wp2_with fail
 refine(H5.out _ _ HP5.out).mono ?_
 rintro e w6 ⟨rfl,h1⟩
 have HP6:Hid (P s S5 w6):=h1
 clear h1 H5 HP5
 go_wp2_with fail
 refine(H6.out _ _ HP6.out).mono ?_
 rintro e w7 ⟨v7,rfl,h7,hb7⟩
 obtain⟨g7,c7,rfl,l7⟩:=zr9 h7
 have HP7:Hid (P s S5 w7):=(HA.out s).bel _ _ _ HP6.out hb7
 clear h7 hb7 H6 HP6
 go_wp2_with fail
 refine(H7.out _ _ HP7.out).mono ?_
 rintro e w8 ⟨v8,rfl,h8,hb8⟩
 obtain⟨g8,c8,rfl,l8⟩:=zr9 h8
 have HP8:Hid (P s S5 w8):=(HA.out s).bel _ _ _ HP7.out hb8
 have l7':w8.cell? ⟨g7,0,none⟩=some (I 9):=zaa hb8 l7
 clear h8 hb8 H7 HP7 l7
 go_wp2_with fail
 go_quiet (fail)
 have HP9:Hid (P s S5 (w8.drewN nq)):=(HA.out s).bel _ _ _ HP8.out (za4 (Below.refl _ _) nq)
 go_wp2
 go_ret2
 exact⟨s,rfl,HP9.out⟩
end
def EqLaw:Prop:=∀(xs ys:List Int) (a b:Option Addr) (ca cb:Nat) (w:World),At w a (xs.map I)->At w b (ys.map I)->xs.length<=1048576->Calls Tryz.prog 15 #[.slice a xs.length ca, .slice b ys.length cb] w fun e w'=>e= .returned (.bool (decide (xs=ys)))∧Below w.heap.size w w'
def Told(l:List Int)(v:Value)(w:World):Prop:=∃a c,v= .slice a l.length c∧At w a (l.map I)
theorem zh6{w w':World}{v:Value}{l:List Int}(h:w'.ownsRow w.heap.size 3 1 v l.length (l.map I)):Told l v w':=by
 rcases h.2 with⟨rfl,h1⟩ | ⟨g,cap,cur,rfl,_⟩
 ·refine⟨none,0,by have h0:l.length=0:=(by simpa using h1);rw [h0],fun j u hj=> ?_⟩
  have h0:l.length=0:=by simpa using h1
  rw [List.getElem?_eq_none (by simp;omega)] at hj
  cases hj
 ·refine⟨_,cap,rfl,fun j u hj=>⟨g,0,rfl, ?_⟩⟩
  have:=h.cells (g:=g) rfl j u hj
  rw [Addr.add_lit] at this
  exact this
theorem sl_of{w:World}{base:Nat}{e:TypeId}{s n:Nat}{v:Value}{xs:List Value}(h:w.ownsRow base e s v n xs):∃a c,v= .slice a n c:=by
 rcases h.2 with⟨rfl,rfl⟩ | ⟨g,cap,cur,rfl,_⟩
 ·exact⟨none,0,rfl⟩
 ·exact⟨_,_,rfl⟩
structure Two(P:World->Prop)(n x y:Nat)(lg:Nat->List UInt8)(hd:Nat->Int)(ck:Nat->List Int)(rd:Int->Int->List Int×Int)(km:Nat)(cs:List Value):Prop where
 bel:∀w w',P w->Below w.heap.size w w'->P w'
 ax:∀w,P w->Asks n x w lg hd ck rd km cs
 ay:∀w,P w->Asks n y w lg hd ck rd km cs
 cl:∀r,(ck r).length<=1048576
 rl:∀r o,(rd r o).1.length<=1048576
 kb:km<=40
 mc:∀i,i<km->∃(k f t:Int) (bs:ByteArray),cs[i*4]?=some (I k)∧cs[i*4+1]?=some (I f)∧cs[i*4+2]?=some (I t)∧cs[i*4+3]?=some (.string bs)
theorem zsa{w w':World}{base n c:Nat}{e:TypeId}{a:Option Addr}{cs:List Value}(h:w.ownsRow base e 4 (.slice a n c) n cs)(hn:0<n)(hb:Below w.heap.size w w'):∃g,a=some ⟨g,0,none⟩∧∀j u,cs[j]?=some u->w'.cell? ⟨g,j,none⟩=some u:=by
 rcases h.2 with⟨h1,rfl⟩ | ⟨g,cap,cur,h1,_⟩
 ·omega
 ·cases h1
  refine⟨g,rfl,fun j u hj=>zaa hb ?_⟩
  have:=h.cells (g:=g) rfl j u hj
  rw [Addr.add_lit,Nat.zero_add] at this
  exact this
section
variable {P : World -> Prop} {n x y : Nat} {lg : Nat -> List UInt8} {hd : Nat -> Int} {ck : Nat -> List Int} {rd : Int -> Int -> List Int × Int} {km : Nat} {cs : List Value}
theorem Two.eq(h:Two P n x y lg hd ck rd km cs)(hq:EqLaw){l:List Int}{v v':Value}{w w1:World}(hl:l.length<=1048576)(h1:Told l v w1)(hb:Below w1.heap.size w1 w)(h2:Told l v' w)(hP:P w):Calls Tryz.prog 15 #[v,v'] w fun e w'=>e= .returned (.bool true)∧P w':=by
 obtain⟨a,c,rfl,ha⟩:=h1
 obtain⟨b,c',rfl,hb'⟩:=h2
 refine(hq l l a b c c' w (ha.kept hb) hb' hl).mono ?_
 rintro e w' ⟨rfl,hb2⟩
 exact⟨by rw [decide_eq_true rfl],h.bel _ _ hP hb2⟩
theorem zvj(h:Two P n x y lg hd ck rd km cs)(hq:EqLaw)(hn:n<=4)(w:World)(hP:P w):
  Calls Tryz.prog 23 #[sV x,sV y,I n] w fun e w'=>e= .returned (.bool true)∧P w':=by
 have HT:Hid (Two P n x y lg hd ck rd km cs):=h
 have HQ:Hid EqLaw:=hq
 have HP0:Hid (P w):=hP
 clear h hq hP
 go_enter Tryz.func23,Tryz.ntmps23
 go_wp2_with fail
 go_loopw [7] (fun x7 wX=>∃r:Nat,r<=n∧x7=I r∧Hid (P wX)) (fun x7 _=>n - (intOf x7).toNat)
 case atStart=>exact⟨0,Nat.zero_le _,rfl,HP0⟩
 case round=>
  obtain⟨r,hr,rfl,HP1⟩:=hrel
  clear HP0
  by_cases hlt:r<n
  ·have hri:(r:Int)<n:=by omega
   go_wp2_with fail
   refine((HT.out.ax _ HP1.out).lg r hlt).mono ?_
   rintro e w1 ⟨rfl,rfl⟩
   go_wp2_with fail
   refine((HT.out.ay _ HP1.out).lg r hlt).mono ?_
   rintro e w1 ⟨rfl,rfl⟩
   go_wp2_with fail
   refine((HT.out.ax _ HP1.out).hd r hlt).mono ?_
   rintro e w1 ⟨rfl,rfl⟩
   go_wp2_with fail
   refine((HT.out.ay _ HP1.out).hd r hlt).mono ?_
   rintro e w1 ⟨rfl,rfl⟩
   go_wp2_with fail
   refine((HT.out.ax _ HP1.out).ck r hlt).mono ?_
   rintro e w1 ⟨v1,rfl,h1,hb1⟩
   have HT1:Hid (Told (ck r) v1 w1):=zh6 h1
   have HP2:Hid (P w1):=HT.out.bel _ _ HP1.out hb1
   clear h1 hb1 HP1
   go_wp2_with fail
   refine((HT.out.ay _ HP2.out).ck r hlt).mono ?_
   rintro e w2 ⟨v2,rfl,h2,hb2⟩
   have HE:Hid (Calls Tryz.prog 15 #[v1,v2] w2 fun e w'=>e= .returned (.bool true)∧P w'):=HT.out.eq HQ.out (HT.out.cl r) HT1.out hb2 (zh6 h2) (HT.out.bel _ _ HP2.out hb2)
   clear h2 hb2 HP2 HT1
   go_wp2_with fail
   refine HE.out.mono ?_
   rintro e w3 ⟨rfl,h3⟩
   have HP3:Hid (P w3):=h3
   clear h3 HE
   generalize (⟨(lg r).toArray⟩:ByteArray)=bs
   generalize hd r=hn'
   go_wp2_with fail
   go_loopw [21] (fun x21 wX=>∃o:Nat,o<=8∧x21=I o∧Hid (P wX)) (fun x21 _=>8 - (intOf x21).toNat)
   case atStart=>exact⟨0,Nat.zero_le _,rfl,HP3⟩
   case round=>
    obtain⟨o,ho,rfl,HP4⟩:=hrel
    clear HP3
    by_cases hlo:o<8
    ·have hoi:(o:Int)<8:=by omega
     have hoz:((rd r o).2 !=(rd r o).2)=false:=by simp
     have HRL:Hid ((rd r o).1.length<=1048576):=HT.out.rl r o
     go_wp2_with fail
     refine((HT.out.ax _ HP4.out).rd r o).mono ?_
     rintro e w5 ⟨v5,rfl,h5,hb5⟩
     have HT5:Hid (Told (rd r o).1 v5 w5):=zh6 h5
     have HP5:Hid (P w5):=HT.out.bel _ _ HP4.out hb5
     clear h5 hb5 HP4
     go_wp2_with fail
     refine((HT.out.ay _ HP5.out).rd r o).mono ?_
     rintro e w6 ⟨v6,rfl,h6,hb6⟩
     have HE:Hid (Calls Tryz.prog 15 #[v5,v6] w6 fun e w'=>e= .returned (.bool true)∧P w'):=HT.out.eq HQ.out HRL.out HT5.out hb6 (zh6 h6) (HT.out.bel _ _ HP5.out hb6)
     clear h6 hb6 HP5 HT5
     generalize (rd r o).2=zz at *
     go_wp2_with fail
     refine HE.out.mono ?_
     rintro e w7 ⟨rfl,h7⟩
     have HP7:Hid (P w7):=h7
     clear h7 HE
     go_wp2_with fail
     go_roundw
     case rel=>exact⟨o+1,hlo,by go_num,HP7⟩
     case measure=>simp [intOf];omega
    ·have hoi:¬(o:Int)<8:=by omega
     go_wp2_with fail
     go_roundw
     case rel=>exact⟨r+1,hlt,by go_num,HP4⟩
     case measure=>simp [intOf];omega
  ·have hri:¬(r:Int)<n:=by omega
   go_wp2_with fail
   refine(HT.out.ax _ HP1.out).ms.mono ?_
   rintro e w2 ⟨v2,rfl,h2,hb2⟩
   have HP2:Hid (P w2):=HT.out.bel _ _ HP1.out hb2
   have HR2:Hid (w2.ownsRow wr.heap.size 72 4 v2 km cs):=h2
   clear h2 hb2 HP1
   go_wp2_with fail
   refine(HT.out.ay _ HP2.out).ms.mono ?_
   rintro e w3 ⟨v3,rfl,h3,hb3⟩
   have HP3:Hid (P w3):=HT.out.bel _ _ HP2.out hb3
   have HR3:Hid (w3.ownsRow w2.heap.size 72 4 v3 km cs):=h3
   have HR2':Hid (w3.ownsRow wr.heap.size 72 4 v2 km cs):=zag HR2.out (fun g e=>hb3.block g (HR2.out.lt g e).2)
   clear h3 hb3 HP2 HR2
   obtain⟨a2,c2,rfl⟩:∃a c,v2= .slice a km c:=sl_of HR2'.out
   obtain⟨a3,c3,rfl⟩:∃a c,v3= .slice a km c:=sl_of HR3.out
   go_wp2_with fail
   have HKB:Hid (km<=40):=HT.out.kb
   go_loopw [31] (fun x31 wX=>∃i:Nat,i<=km∧x31=I i∧Hid (P wX)∧Hid (Below w3.heap.size w3 wX)) (fun x31 _=>km - (intOf x31).toNat)
   case atStart=>exact⟨0,Nat.zero_le _,rfl,HP3,Below.refl _ _⟩
   case round=>
    obtain⟨i,hi,rfl,HP4,HB4⟩:=hrel
    clear HP3
    have hk40:=HKB.out
    by_cases hlt2:i<km
    ·have hii:(i:Int)<km:=by omega
     obtain⟨g2,rfl,hc2⟩:=zsa HR2'.out (by omega) HB4.out
     obtain⟨g3,rfl,hc3⟩:=zsa HR3.out (by omega) HB4.out
     obtain⟨mk,mf,mt,mb,q0,q1,q2,q3⟩:=HT.out.mc i hlt2
     have d0:=hc2 _ _ q0
     have d1:=hc2 _ _ q1
     have d2:=hc2 _ _ q2
     have d3:=hc2 _ _ q3
     have f0:=hc3 _ _ q0
     have f1:=hc3 _ _ q1
     have f2:=hc3 _ _ q2
     have f3:=hc3 _ _ q3
     clear hc2 hc3 q0 q1 q2 q3
     go_wp2_with fail
     go_quiet (fail)
     have HP5:Hid (P (wr.drewN nq)):=HT.out.bel _ _ HP4.out (za4 (Below.refl _ _) nq)
     have HB5:Hid (Below w3.heap.size w3 (wr.drewN nq)):=za4 HB4.out nq
     go_wp2_with fail
     go_roundw
     case rel=>exact⟨i+1,hlt2,by go_num,HP5,HB5⟩
     case measure=>simp [intOf];omega
    ·have hii:¬(i:Int)<km:=by omega
     go_wp2
     go_ret
     exact⟨rfl,HP4.out⟩
end
def SpAt(w:World)(aa:Option Addr)(l:List Sp):Prop:=∀k (hk:k<l.length),∃p q,aa=some ⟨p,q,none⟩∧w.cell? ⟨p,q+k*5,none⟩=some (I l[k].k)∧w.cell? ⟨p,q+k*5+1,none⟩=some (I l[k].r)∧w.cell? ⟨p,q+k*5+2,none⟩=some (I l[k].a)∧w.cell? ⟨p,q+k*5+3,none⟩=some (I l[k].b)∧w.cell? ⟨p,q+k*5+4,none⟩=some (I l[k].c)
structure Rf{σ:Type}(O:Ops σ)(n:Nat)(w:World)(S0:σ)(R:Nat->Nat->σ->σ->World->Prop):Prop where
 bel:∀x y X Y w',R x y X Y w'->Below w.heap.size w w'
 new:∀x y X Y w' w2,R x y X Y w'->Below w'.heap.size w' w2->R x y X Y w2
 beg:Calls Tryz.prog 8 #[I n] w fun e w'=>∃x,e= .returned (.tuple #[sV x, .bool true])∧Calls Tryz.prog 8 #[I n] w' fun e w2=>∃y,e= .returned (.tuple #[sV y, .bool true])∧R x y S0 S0 w2
 dox:∀x y X Y w' o,SpOk o->R x y X Y w'->Calls Tryz.prog 9 #[sV x,I n, .agg #[I o.k,I o.r,I o.a,I o.b,I o.c]] w' fun e w2=>e= .returned (I (doesX O n X o).2)∧R x y (doesX O n X o).1 Y w2
 doy:∀x y X Y w' o,SpOk o->R x y X Y w'->Calls Tryz.prog 9 #[sV y,I n, .agg #[I o.k,I o.r,I o.a,I o.b,I o.c]] w' fun e w2=>e= .returned (I (doesX O n Y o).2)∧R x y X (doesX O n Y o).1 w2
 wrg:∀x y X Y w' v,Rg v->R x y X Y w'->Calls Tryz.prog 22 #[sV y,I n,I v] w' fun e w2=>e= .returned (.bool true)∧R x y X Y w2
 alk:∀x y X w',R x y X X w'->Calls Tryz.prog 23 #[sV x,sV y,I n] w' fun e w2=>e= .returned (.bool true)∧R x y X X w2
section
variable {σ : Type} {O : Ops σ} {n : Nat} {w : World} {S0 : σ} {R : Nat -> Nat -> σ -> σ -> World -> Prop}
theorem zyt(z:Int):Rg (IntKind.i64.wrap z):=by unfold Rg;rw [IntKind.wrap_i64];omega
theorem zl5(many v:Int)(hm:Rg many)(hv:Rg v)(hn:(n:Int)=2+Wv.pk many 3)(h:Rf O n w S0 R)(aa:Option Addr)(ca:Nat)(raws:List Sp)(hat:SpAt w aa raws)(hok:∀o∈raws,SpOk o)(hll:raws.length<=9223372036854775807):
  Calls Tryz.prog 5 #[I many, .slice aa raws.length ca,I v] w fun e w'=>e= .returned (.bool true)∧Below w.heap.size w w':=by
 have HR:Hid (Rf O n w S0 R):=h
 have HAT:Hid (SpAt w aa raws):=hat
 have HOK:Hid (∀o∈raws,SpOk o):=hok
 have HVR:Hid (Rg v):=hv
 have HPK:Hid (Calls Tryz.prog 7 #[I many,I 3] w fun e w'=>e= .returned (I (Wv.pk many 3))∧w'=w):=zaq many 3 w hm ⟨by decide,by decide⟩
 obtain⟨n0,n1⟩:=Wv.pk_lt many 3 (by decide)
 generalize Wv.pk many 3=n3 at *
 have hwn:IntKind.i64.wrap (2+n3)=(n:Int):=by rw [IntKind.wrap_i64,hn];omega
 clear h hat hok hm hv hn n0 n1
 go_enter Tryz.func5,Tryz.ntmps5
 go_wp2_with fail
 refine HPK.out.mono ?_
 rintro e w1 ⟨rfl,hw⟩
 obtain rfl:=hw.symm
 clear HPK
 go_wp2_with fail
 refine HR.out.beg.mono ?_
 rintro e w1 ⟨x,rfl,hy⟩
 have HY:Hid (Calls Tryz.prog 8 #[I n] w1 fun e w2=>∃y,e= .returned (.tuple #[sV y, .bool true])∧R x y S0 S0 w2):=hy
 clear hy
 go_wp2_with fail
 refine HY.out.mono ?_
 rintro e w2 ⟨y,rfl,h2⟩
 have H2:Hid (R x y S0 S0 w2):=h2
 clear h2 HY hwn
 go_wp2_with fail
 go_loopw [12] (fun x12 wX=>∃(k:Nat) (S:σ),k<=raws.length∧x12=I k∧Hid (R x y S S wX)) (fun x12 _=>raws.length - (intOf x12).toNat)
 case atStart=>exact⟨0,S0,Nat.zero_le _,rfl,H2⟩
 case round=>
  obtain⟨k,S,hk,rfl,HS⟩:=hrel
  clear H2
  by_cases hlt:k<raws.length
  ·have hki:(k:Int)<raws.length:=by omega
   obtain⟨pa,qa,rfl,hcells⟩:=HAT.out k hlt
   have HRC:Hid (∀w',Below w.heap.size w w'->w'.cell? ⟨pa,qa+k*5,none⟩=some (I raws[k].k)∧w'.cell? ⟨pa,qa+k*5+1,none⟩=some (I raws[k].r)∧w'.cell? ⟨pa,qa+k*5+2,none⟩=some (I raws[k].a)∧w'.cell? ⟨pa,qa+k*5+3,none⟩=some (I raws[k].b)∧w'.cell? ⟨pa,qa+k*5+4,none⟩=some (I raws[k].c)):=fun w' hb=>⟨zaa hb hcells.1,zaa hb hcells.2.1,zaa hb hcells.2.2.1,zaa hb hcells.2.2.2.1,zaa hb hcells.2.2.2.2⟩
   have HSO:Hid (SpOk raws[k]):=HOK.out _ (List.getElem_mem hlt)
   clear hcells
   generalize raws[k]=o at *
   obtain⟨e0,e1,e2,e3,e4⟩:=HRC.out wr (HR.out.bel _ _ _ _ _ HS.out)
   go_wp2_with fail
   refine(HR.out.dox x y S S _ o HSO.out HS.out).mono ?_
   rintro e w3 ⟨rfl,h3⟩
   have H3:Hid (R x y (doesX O n S o).1 S w3):=h3
   clear h3 e0 e1 e2 e3 e4 HS
   obtain⟨e0,e1,e2,e3,e4⟩:=HRC.out w3 (HR.out.bel _ _ _ _ _ H3.out)
   go_wp2_with fail
   refine(HR.out.doy x y _ S _ o HSO.out H3.out).mono ?_
   rintro e w4 ⟨rfl,h4⟩
   have H4:Hid (R x y (doesX O n S o).1 (doesX O n S o).1 w4):=h4
   clear h4 e0 e1 e2 e3 e4 H3
   obtain⟨vk,hwv,hvk⟩:∃vk,IntKind.i64.wrap (v+(k:Int))=vk∧Rg vk:=⟨_,rfl,zyt _⟩
   have HW:Hid (Calls Tryz.prog 22 #[sV y,I n,I vk] w4 fun e w2=>e= .returned (.bool true)∧R x y (doesX O n S o).1 (doesX O n S o).1 w2):=HR.out.wrg x y _ _ w4 _ hvk H4.out
   clear hvk
   have hzz:((doesX O n S o).2 !=(doesX O n S o).2)=false:=by simp
   generalize doesX O n S o=S' at *
   go_wp2_with fail
   refine HW.out.mono ?_
   rintro e w5 ⟨rfl,h5⟩
   have H5:Hid (R x y S'.1 S'.1 w5):=h5
   clear h5 HW H4
   go_wp2_with fail
   go_roundw
   case rel=>exact⟨k+1,S'.1,hlt,by go_num,H5⟩
   case measure=>simp [intOf];omega
  ·have hki:¬(k:Int)<raws.length:=by omega
   go_wp2_with fail
   refine(HR.out.wrg x y S S _ v HVR.out HS.out).mono ?_
   rintro e w3 ⟨rfl,h3⟩
   have H3:Hid (R x y S S w3):=h3
   clear h3 HS
   go_wp2_with fail
   refine(HR.out.alk x y S _ H3.out).mono ?_
   rintro e w4 ⟨rfl,h4⟩
   have H4:Hid (Below w.heap.size w w4):=HR.out.bel _ _ _ _ _ h4
   clear h4 H3
   go_wp2
   go_ret
   exact⟨rfl,H4.out⟩
end
end Go.Proofs.YtfmcngncaffloabGreatDoor
