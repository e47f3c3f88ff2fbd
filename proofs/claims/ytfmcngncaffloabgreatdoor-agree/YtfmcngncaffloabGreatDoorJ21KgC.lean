import Derived.BigQuiet
import Derived.Test.YtfmcngncaffloabGreatDoorJ05KrD
set_option maxHeartbeats 12800000
namespace Go.Proofs.YtfmcngncaffloabGreatDoor
open Go.RowKit Go.Proofs.Tryz
set_option maxRecDepth 100000
theorem zui{w:World}{base:Nat}{v:Value}{z:Int}(h:w.ownsRow base 3 1 v 1 [I z]):∃g c,v= .slice (some ⟨g,0,none⟩) 1 c∧w.cell? ⟨g,0,none⟩=some (I z):=by
 rcases h.2 with⟨_,h1⟩ | ⟨g,cap,cur,rfl,_⟩
 ·cases h1
 ·refine⟨g,cap,rfl, ?_⟩
  have:=h.cells (g:=g) rfl 0 (I z) rfl;rw [Addr.add_lit] at this;exact this
section
variable {σ : Type} {O : Ops σ} {P : Nat -> σ -> World -> Prop} {n : Nat} {S : σ}
theorem zx3(hA:∀s,Api O (P s) s)(hB:BegOk O S)(w:World)(hN:Calls prog 25 #[I n] w fun e w'=>∃s,e= .returned (.tuple #[sV s,I 0])∧P s S w'):
  Calls prog 8 #[I n] w fun e w'=>∃s,e= .returned (.tuple #[sV s, .bool true])∧P s (begF O S) w':=by
 obtain⟨b1,b2,b3,b4,b5,b6,b7⟩:=hB;have HA:Hid (∀s,Api O (P s) s):=hA;have HN:Hid (Calls prog 25 #[I n] w fun e w'=>∃s,e= .returned (.tuple #[sV s,I 0])∧P s S w'):=hN;have H1:Hid (∀s w,P s S w->Calls prog 16 #[sV s,I 0] w fun e w'=>e= .returned (I 0)∧P s (O.bgn S 0).1 w'):=fun s w h=>by have h1:=(hA s).bgn S w 0 h;unfold Cl at h1;rw [b1] at h1;exact h1
 have H2:Hid (∀s w,P s (O.bgn S 0).1 w->Calls prog 17 #[sV s,I 0,I 5,I 3,I 0,I 9] w fun e w'=>e= .returned (I 0)∧P s (O.doo (O.bgn S 0).1 0 5 3 0 9).1 w'):=fun s w h=>by have h1:=(hA s).doo _ w 0 5 3 0 9 h;unfold Cl at h1;rw [b2] at h1;exact h1
 have H3:Hid (∀s w,P s (O.doo (O.bgn S 0).1 0 5 3 0 9).1 w->Calls prog 17 #[sV s,I 0,I 1,I 0,I 5,I 0] w fun e w'=>e= .returned (I 0)∧P s (O.doo (O.doo (O.bgn S 0).1 0 5 3 0 9).1 0 1 0 5 0).1 w'):=fun s w h=>by have h1:=(hA s).doo _ w 0 1 0 5 0 h;unfold Cl at h1;rw [b3] at h1;exact h1
 have H4:Hid (∀s w,P s (O.doo (O.doo (O.bgn S 0).1 0 5 3 0 9).1 0 1 0 5 0).1 w->Calls prog 17 #[sV s,I 0,I 1,I 4,I 5,I 0] w fun e w'=>e= .returned (I 0)∧P s (O.doo (O.doo (O.doo (O.bgn S 0).1 0 5 3 0 9).1 0 1 0 5 0).1 0 1 4 5 0).1 w'):=fun s w h=>by have h1:=(hA s).doo _ w 0 1 4 5 0 h;unfold Cl at h1;rw [b4] at h1;exact h1
 have H5:Hid (∀s w,P s (O.doo (O.doo (O.doo (O.bgn S 0).1 0 5 3 0 9).1 0 1 0 5 0).1 0 1 4 5 0).1 w->Calls prog 18 #[sV s,I 0] w fun e w'=>e= .returned (.tuple #[I 1,I 0])∧P s (begF O S) w'):=fun s w h=>by have h1:=(hA s).com _ w 0 h;rw [b5] at h1;exact h1
 have H6:Hid (∀s w,P s (begF O S) w->Calls prog 14 #[sV s,I 0,I 3] w fun e w'=>∃v,e= .returned (.tuple #[v,I 0])∧w'.ownsRow w.heap.size 3 1 v 1 [I 9]∧Below w.heap.size w w'):=fun s w h=>by have h1:=(hA s).rd _ w 0 3 h;unfold Rl begF at h1;rw [b6] at h1;exact h1
 have H7:Hid (∀s w,P s (begF O S) w->Calls prog 14 #[sV s,I 0,I 0] w fun e w'=>∃v,e= .returned (.tuple #[v,I 0])∧w'.ownsRow w.heap.size 3 1 v 1 [I 5]∧Below w.heap.size w w'):=fun s w h=>by have h1:=(hA s).rd _ w 0 0 h;unfold Rl begF at h1;rw [b7] at h1;exact h1
 generalize begF O S=S5 at *
 generalize (O.doo (O.doo (O.doo (O.bgn S 0).1 0 5 3 0 9).1 0 1 0 5 0).1 0 1 4 5 0).1=S4 at *
 generalize (O.doo (O.doo (O.bgn S 0).1 0 5 3 0 9).1 0 1 0 5 0).1=S3 at *
 generalize (O.doo (O.bgn S 0).1 0 5 3 0 9).1=S2 at *
 generalize (O.bgn S 0).1=S1 at *
 clear hA hN b1 b2 b3 b4 b5 b6 b7;go_enter func8,ntmps8;go_wp2_with fail
 refine HN.out.mono ?_;rintro e w1 ⟨s,rfl,h1⟩;have HP1:Hid (P s S w1):=h1;clear h1 HN;go_wp2_with fail
 refine(H1.out _ _ HP1.out).mono ?_;rintro e w2 ⟨rfl,h1⟩;have HP2:Hid (P s S1 w2):=h1;clear h1 H1 HP1;go_wp2_with fail
 refine(H2.out _ _ HP2.out).mono ?_;rintro e w3 ⟨rfl,h1⟩;have HP3:Hid (P s S2 w3):=h1;clear h1 H2 HP2;go_wp2_with fail
 refine(H3.out _ _ HP3.out).mono ?_;rintro e w4 ⟨rfl,h1⟩;have HP4:Hid (P s S3 w4):=h1;clear h1 H3 HP3;go_wp2_with fail
 refine(H4.out _ _ HP4.out).mono ?_;rintro e w5 ⟨rfl,h1⟩;have HP5:Hid (P s S4 w5):=h1;clear h1 H4 HP4;go_wp2_with fail
 refine(H5.out _ _ HP5.out).mono ?_;rintro e w6 ⟨rfl,h1⟩;have HP6:Hid (P s S5 w6):=h1;clear h1 H5 HP5;go_wp2_with fail
 refine(H6.out _ _ HP6.out).mono ?_;rintro e w7 ⟨v7,rfl,h7,hb7⟩;obtain⟨g7,c7,rfl,l7⟩:=zui h7;have HP7:Hid (P s S5 w7):=(HA.out s).bel _ _ _ HP6.out hb7;clear h7 hb7 H6 HP6;go_wp2_with fail
 refine(H7.out _ _ HP7.out).mono ?_;rintro e w8 ⟨v8,rfl,h8,hb8⟩;obtain⟨g8,c8,rfl,l8⟩:=zui h8;have HP8:Hid (P s S5 w8):=(HA.out s).bel _ _ _ HP7.out hb8;have l7':w8.cell? ⟨g7,0,none⟩=some (I 9):=zaa hb8 l7;clear h8 hb8 H7 HP7 l7;go_wp2_with fail
 go_quiet (fail)
 have HP9:Hid (P s S5 (w8.drewN nq)):=(HA.out s).bel _ _ _ HP8.out (za7 (Below.refl _ _) nq);go_wp2;go_ret2;exact⟨s,rfl,HP9.out⟩
end
def EqLaw:Prop:=∀(xs ys:List Int) (a b:Option Addr) (ca cb:Nat) (w:World),At w a (xs.map I)->At w b (ys.map I)->xs.length<=1048576->Calls prog 15 #[.slice a xs.length ca, .slice b ys.length cb] w fun e w'=>e= .returned (.bool (decide (xs=ys)))∧Below w.heap.size w w'
def Told(l:List Int)(v:Value)(w:World):Prop:=∃a c,v= .slice a l.length c∧At w a (l.map I)
theorem zg9{w w':World}{v:Value}{l:List Int}(h:w'.ownsRow w.heap.size 3 1 v l.length (l.map I)):Told l v w':=by
 rcases h.2 with⟨rfl,h1⟩ | ⟨g,cap,cur,rfl,_⟩
 ·refine⟨none,0,by have h0:l.length=0:=(by simpa using h1);rw [h0],fun j u hj=> ?_⟩
  have h0:l.length=0:=by simpa using h1
  rw [aF (by simp;omega)] at hj;cases hj
 ·refine⟨_,cap,rfl,fun j u hj=>⟨g,0,rfl, ?_⟩⟩
  have:=h.cells (g:=g) rfl j u hj;rw [Addr.add_lit] at this;exact this
theorem sl_of{w:World}{base:Nat}{e:TypeId}{s n:Nat}{v:Value}{xs:List Value}(h:w.ownsRow base e s v n xs):∃a c,v= .slice a n c:=by
 rcases h.2 with⟨rfl,rfl⟩ | ⟨g,cap,cur,rfl,_⟩
 ·exact⟨none,0,rfl⟩
 ·exact⟨_,_,rfl⟩
structure Two(P:World->Prop)(n x y:Nat)(lg:Nat->List UInt8)(hd:Nat->Int)(ck:Nat->List Int)(rd:Int->Int->List Int×Int)(km:Nat)(cs:List Value):Prop where
 bel:∀w w',P w->Below w.heap.size w w'->P w'
 ax:∀w,P w->Asks n x w lg hd ck rd km cs
 ay:∀w,P w->Asks n y w lg hd ck rd km cs
 cl:∀r,(ck r).length<=1048576
 rl:∀r o,(rd r o).1.length<=1048576
 kb:km<=40
 mc:∀i,i<km->∃(k f t:Int) (bs:ByteArray),cs[i*4]?=some (I k)∧cs[i*4+1]?=some (I f)∧cs[i*4+2]?=some (I t)∧cs[i*4+3]?=some (.string bs)
section
variable {P : World -> Prop} {n x y : Nat} {lg : Nat -> List UInt8} {hd : Nat -> Int} {ck : Nat -> List Int} {rd : Int -> Int -> List Int × Int} {km : Nat} {cs : List Value}
end
def SpAt(w:World)(aa:Option Addr)(l:List Sp):Prop:=∀k (hk:k<l.length),∃p q,aa=some ⟨p,q,none⟩∧w.cell? ⟨p,q+k*5,none⟩=some (I l[k].k)∧w.cell? ⟨p,q+k*5+1,none⟩=some (I l[k].r)∧w.cell? ⟨p,q+k*5+2,none⟩=some (I l[k].a)∧w.cell? ⟨p,q+k*5+3,none⟩=some (I l[k].b)∧w.cell? ⟨p,q+k*5+4,none⟩=some (I l[k].c)
structure Rf{σ:Type}(O:Ops σ)(n:Nat)(w:World)(S0:σ)(R:Nat->Nat->σ->σ->World->Prop):Prop where
 bel:∀x y X Y w',R x y X Y w'->Below w.heap.size w w'
 new:∀x y X Y w' w2,R x y X Y w'->Below w'.heap.size w' w2->R x y X Y w2
 beg:Calls prog 8 #[I n] w fun e w'=>∃x,e= .returned (.tuple #[sV x, .bool true])∧Calls prog 8 #[I n] w' fun e w2=>∃y,e= .returned (.tuple #[sV y, .bool true])∧R x y S0 S0 w2
 dox:∀x y X Y w' o,SpOk o->R x y X Y w'->Calls prog 9 #[sV x,I n, .agg #[I o.k,I o.r,I o.a,I o.b,I o.c]] w' fun e w2=>e= .returned (I (doesX O n X o).2)∧R x y (doesX O n X o).1 Y w2
 doy:∀x y X Y w' o,SpOk o->R x y X Y w'->Calls prog 9 #[sV y,I n, .agg #[I o.k,I o.r,I o.a,I o.b,I o.c]] w' fun e w2=>e= .returned (I (doesX O n Y o).2)∧R x y X (doesX O n Y o).1 w2
 wrg:∀x y X Y w' v,Rg v->R x y X Y w'->Calls prog 22 #[sV y,I n,I v] w' fun e w2=>e= .returned (.bool true)∧R x y X Y w2
 alk:∀x y X w',R x y X X w'->Calls prog 23 #[sV x,sV y,I n] w' fun e w2=>e= .returned (.bool true)∧R x y X X w2
section
variable {σ : Type} {O : Ops σ} {n : Nat} {w : World} {S0 : σ} {R : Nat -> Nat -> σ -> σ -> World -> Prop}
end
structure Hv(P:World->Prop)(n s:Nat)(ck:Nat->List Int)(rd:Int->Int->List Int×Int)(l:List Int):Prop where
 bel:∀w w',P w->Below w.heap.size w w'->P w'
 fR:∀w,P w->∀r o:Int,Rl 14 #[sV s,I r,I o] w (rd r o)
 fC:∀w,P w->∀r:Nat,r<n->Rl 13 #[sV s,I r] w (ck r,0)
 fH:∀r:Nat,r<n->(rd r 0=([],4)∧rd r 4=([],4))∨∃v,rd r 0=([v],0)∧rd r 4=([v],0)∧(ck r).length=n∧l.getD r 0<=(ck r).getD r 0
abbrev laO (a b c d:Int):Obj:= .cells #[I a,I b,I c,I d] 27
theorem zuk{w:World}{g:Nat}{a b c d:Int}(h:w.heap[g]?=some (laO a b c d))(r:Nat)(hr:r<4):w.cell? ⟨g,r,none⟩=some (I ([a,b,c,d].getD r 0)):=by
 have hb:Blk w g #[I a,I b,I c,I d] 27:=h;obtain rfl | rfl | rfl | rfl:r=0∨r=1∨r=2∨r=3:=by omega
 ·exact hb.cell 0
 ·exact hb.cell 1
 ·exact hb.cell 2
 ·exact hb.cell 3
section
variable {P : World -> Prop} {n s : Nat} {ck : Nat -> List Int} {rd : Int -> Int -> List Int × Int}
theorem eq_told(hq:EqLaw){l:List Int}{v v':Value}{w w1:World}(hl:l.length<=1048576)(h1:Told l v w1)(hb:Below w1.heap.size w1 w)(h2:Told l v' w):Calls prog 15 #[v,v'] w fun e w'=>e= .returned (.bool true)∧Below w.heap.size w w':=by
 obtain⟨a,c,rfl,ha⟩:=h1;obtain⟨b,c',rfl,hb'⟩:=h2;refine(hq l l a b c c' w (ha.kept hb) hb' hl).mono ?_;rintro e w' ⟨rfl,hb2⟩;exact⟨by rw [aT rfl],hb2⟩
end
def dlX{σ:Type}(O:Ops σ)(S:σ):Nat->σ
 | 0=>S
 | k+1=>(O.dlv (dlX O S k) 0).1
structure Af{σ:Type}(O:Ops σ)(n:Nat)(w:World)(S0:σ)(ck:σ->Nat->List Int)(P:Nat->List (Nat×Obj)->σ->World->Prop)(W:List Int->σ->Prop)(C1 C2 M:List Int->Nat->σ->Prop)(J:List Int->σ->Nat->Nat->σ->Prop):Prop where
 apz:∀s,Apz O (P s) s
 put:∀s S g ob ob' w1 w2,P s [(g,ob)] S w1->Tch (fun k=>k=g) w1 w2->w2.heap[g]?=some ob'->P s [(g,ob')] S w2
 bel:∀s Z S w',P s Z S w'->Below w.heap.size w w'
 beg:Calls prog 8 #[I n] w fun e w'=>∃s,e= .returned (.tuple #[sV s, .bool true])∧P s [] S0 w'
 w0:W [1,0,0,0] S0
 fck:∀s Z S w' (r:Nat),r<n->P s Z S w'->Rl 13 #[sV s,I r] w' (ck S r,0)
 fms:∀s Z S w' l i,P s Z S w'->M l i S->Calls prog 34 #[sV s] w' fun e w2=>∃a c,e= .returned (.tuple #[.slice a 0 c,I 0])∧Below w'.heap.size w' w2
 fds:∀l S o (r:Nat),W l S->Wv.pk o.r n=r->r<n->W (if 0<(doesX O n S o).2 then l.set r (doesX O n S o).2 else l) (doesX O n S o).1
 fc0:∀l S,W l S->C1 l 0 S
 fc1:∀l (r:Nat) S,C1 l r S->r<n->((O.rst (O.abt S r).1 r).2=0∨(O.rst (O.abt S r).1 r).2=5)∧C1 l (r+1) (O.rst (O.abt S r).1 r).1
 fc2:∀s Z w' l S,P s Z S w'->C1 l n S->C2 l 0 S
 fc3:∀l i S,C2 l i S->C2 l (i+1) (O.drp S 0).1
 fc4:∀l S,C2 l 40 S->M l 0 S
 fj0:∀l i A,M l i A->J l A 0 0 A
 fj1:∀l A (r:Nat) S,J l A r r S->J l A r (r+1) S
 fj2:∀l A (r t:Nat) S,J l A r t S->r<n->t<n->r ≠ t->(O.ask S r t).2=0∧J l A r (t+1) (dlX O (O.ask S r t).1 4)
 fj3:∀l A (r:Nat) S,J l A r n S->J l A (r+1) 0 S
 fj4:∀l i A S,M l i A->J l A n 0 S->M l (i+1) S
 fm1:∀l S,M l 120 S->∀r,r<n->ck S r=ck S 0
 fm2:∀l i S,M l i S->∀r,r<n->(ck S r).length=n
 fm3:∀l i S,M l i S->(∀r,r<n->ck S r=ck S 0)->∀r,r<n->l.getD r 0<=(ck S 0).getD r 0
 fm4:∀l i S,M l i S->(∀r,r<n->ck S r=ck S 0)->∀r:Nat,r<n->∀k:Nat,k<8->∃v,O.rd S 0 k=(v,0)∧O.rd S r k=(v,0)
 frl:∀s Z S w' r o,P s Z S w'->(O.rd S r o).1.length<=1048576
section
variable {σ : Type} {O : Ops σ} {n : Nat} {w0 : World} {S0 : σ} {ck : σ -> Nat -> List Int} {P : Nat -> List (Nat × Obj) -> σ -> World -> Prop} {W : List Int -> σ -> Prop} {C1 C2 M : List Int -> Nat -> σ -> Prop} {J : List Int -> σ -> Nat -> Nat -> σ -> Prop} {l : List Int} {Z : List (Nat × Obj)} {s : Nat}
theorem calm_any(h:Af O n w0 S0 ck P W C1 C2 M J){S:σ}(hW:W l S)(w:World)(hP:P s Z S w)(h4:n<=4):
  Calls prog 10 #[sV s,I n] w fun e w'=>e= .returned (.bool true)∧∃S',P s Z S' w'∧M l 0 S':=by
 have HR:Hid (Af O n w0 S0 ck P W C1 C2 M J):=h;have HA:Hid (Api O (P s Z) s):=(h.apz s).api Z;have HC:Hid (C1 l 0 S):=h.fc0 _ _ hW;have HP0:Hid (P s Z S w):=hP;clear h hW hP;go_enter func10,ntmps10;go_wp2_with fail
 go_loopw [5] (fun x5 wX=>∃(r:Nat) (T:σ),r<=n∧x5=I r∧Hid (P s Z T wX)∧Hid (C1 l r T)) (fun x5 _=>n - (intOf x5).toNat)
 case atStart=>exact⟨0,S,az _,rfl,HP0,HC⟩
 case round=>
  obtain⟨r,T,hr,rfl,HP1,HC1⟩:=hrel;clear HP0 HC;by_cases hlt:r<n
  ·have hri:(r:Int)<n:=by omega
   have HN:=HR.out.fc1 l r T HC1.out hlt;have HC2:Hid (C1 l (r+1) (O.rst (O.abt T r).1 r).1):=HN.2;have hz:=HN.1;clear HN;go_wp2_with fail
   refine(HA.out.abt T _ r HP1.out).mono ?_;rintro e w1 ⟨rfl,h1⟩;have HP2:Hid (P s Z (O.abt T r).1 w1):=h1;clear h1 HP1;go_wp2_with fail
   refine(HA.out.rst (O.abt T r).1 _ r HP2.out).mono ?_;rintro e w2 ⟨rfl,h1⟩;have HP3:Hid (P s Z (O.rst (O.abt T r).1 r).1 w2):=h1;clear h1 HP2;generalize O.rst (O.abt T r).1 r=X at *
   obtain⟨T',z⟩:=X;simp only at hz HP3 HC2 ⊢;rcases hz with rfl | rfl
   ·go_wp2_with fail
    go_roundw
    case rel=>exact⟨r+1,T',hlt,by go_num,HP3,HC2⟩
    case measure=>simp [intOf];omega
   ·go_wp2_with fail
    go_roundw
    case rel=>exact⟨r+1,T',hlt,by go_num,HP3,HC2⟩
    case measure=>simp [intOf];omega
  ·have hri:¬(r:Int)<n:=by omega
   have hrn:r=n:=by omega
   have HC3:Hid (C2 l 0 T):=by rw [hrn] at HC1;exact HR.out.fc2 s Z _ l T HP1.out HC1.out
   clear HC1 hrn;go_wp2_with fail
   go_loopw [7] (fun x7 wX=>∃(i:Nat) (T:σ),i<=40∧x7=I i∧Hid (P s Z T wX)∧Hid (C2 l i T)) (fun x7 _=>40 - (intOf x7).toNat)
   case atStart=>exact⟨0,T,az _,rfl,HP1,HC3⟩
   case round=>
    obtain⟨i,V,hi,rfl,HP4,HC4⟩:=hrel;clear HP1 HC3;by_cases hl2:i<40
    ·have hii:(i:Int)<40:=by omega
     go_wp2_with fail
     refine(HA.out.drp V _ 0 HP4.out).mono ?_;rintro e w3 ⟨rfl,h1⟩;have HP5:Hid (P s Z (O.drp V 0).1 w3):=h1;have HC5:Hid (C2 l (i+1) (O.drp V 0).1):=HR.out.fc3 _ _ _ HC4.out;clear h1 HP4 HC4;go_wp2_with fail
     go_roundw
     case rel=>exact⟨i+1,_,hl2,by go_num,HP5,HC5⟩
     case measure=>simp [intOf];omega
    ·have hii:¬(i:Int)<40:=by omega
     have hi4:i=40:=by omega
     have HM:Hid (M l 0 V):=by rw [hi4] at HC4;exact HR.out.fc4 _ _ HC4.out
     clear HC4 hi4;go_wp2_with fail
     refine(HR.out.fms s Z V _ l 0 HP4.out HM.out).mono ?_;rintro e w4 ⟨a,c,rfl,hb⟩;have HP6:Hid (P s Z V w4):=HA.out.bel _ _ _ HP4.out hb;clear hb HP4;go_wp2;go_ret;exact⟨rfl,V,HP6.out,HM.out⟩
end
section
variable {σ : Type} {O : Ops σ} {n : Nat} {w0 : World} {S0 : σ} {ck : σ -> Nat -> List Int} {P : Nat -> List (Nat × Obj) -> σ -> World -> Prop} {W : List Int -> σ -> Prop} {C1 C2 M : List Int -> Nat -> σ -> Prop} {J : List Int -> σ -> Nat -> Nat -> σ -> Prop} {l : List Int} {Z : List (Nat × Obj)} {s i : Nat}
theorem eq_told2(hq:EqLaw){l m:List Int}{v v':Value}{w w1:World}(hl:m.length<=1048576)(h1:Told l v w1)(hb:Below w1.heap.size w1 w)(h2:Told m v' w):Calls prog 15 #[v',v] w fun e w'=>e= .returned (.bool (decide (m=l)))∧Below w.heap.size w w':=by
 obtain⟨a,c,rfl,ha⟩:=h1;obtain⟨b,c',rfl,hb'⟩:=h2;exact hq m l b a c' c w hb' (ha.kept hb) hl
theorem Told.len{l:List Int}{v:Value}{w:World}(h:Told l v w):∃a c,v= .slice a l.length c:=by
 obtain⟨a,c,e,_⟩:=h;exact⟨a,c,e⟩
def LvP{σ:Type}(n:Nat)(ck:σ->Nat->List Int)(S:σ)(Q:World->Prop)(e:Ending)(w':World):Prop:=∃b,e= .returned (.bool b)∧(b=true↔∀r,r<n->ck S r=ck S 0)∧Q w'
theorem zmh(h:Af O n w0 S0 ck P W C1 C2 M J)(hq:EqLaw){S:σ}(hM:M l i S)(w:World)(hP:P s Z S w)(h2:2<=n)(h4:n<=4):
  Calls prog 11 #[sV s,I n] w (LvP n ck S (P s Z S)):=by
 have HR:Hid (Af O n w0 S0 ck P W C1 C2 M J):=h;have HQ:Hid EqLaw:=hq;have HBL:Hid (∀w',Below w.heap.size w w'->P s Z S w'):=fun w' hb=>((h.apz s).api Z).bel _ _ _ hP hb
 have HCK:Hid (∀w' (r:Nat),r<n->Below w.heap.size w w'->Rl 13 #[sV s,I r] w' (ck S r,0)):=fun w' r hr hb=>h.fck s Z S w' r hr (HBL.out _ hb)
 have HL:Hid (∀r,r<n->(ck S r).length=n):=h.fm2 _ _ _ hM;clear h hq hP hM;go_enter func11,ntmps11;go_wp2_with fail
 refine(HCK.out w 0 (by omega) (Below.refl _ _)).mono ?_;rintro e w1 ⟨v1,rfl,h1,hb1⟩;have HT:Hid (Told (ck S 0) v1 w1):=zg9 h1;have HB1:Hid (Below w.heap.size w w1):=hb1;clear h1 hb1;obtain⟨a1,c1,rfl⟩:=HT.out.len;go_wp2_with fail
 go_loopw [7] (fun x7 wX=>∃r:Nat,1<=r∧r<=n∧x7=I r∧Hid (Below w1.heap.size w1 wX)∧Hid (∀q,q<r->ck S q=ck S 0)) (fun x7 _=>n - (intOf x7).toNat)
 case atStart=>exact⟨1,ac _,by omega,rfl,Below.refl _ _,fun q hq=>by rw [show q=0 by omega]⟩
 case round=>
  obtain⟨r,hr1,hr,rfl,HB2,HE⟩:=hrel;by_cases hlt:r<n
  ·have hri:(r:Int)<n:=by omega
   go_wp2_with fail
   refine(HCK.out _ r hlt (HB1.out.trans (HB2.out.mono HB1.out.size))).mono ?_;rintro e w2 ⟨v2,rfl,h2',hb2⟩;have HB3:Hid (Below w1.heap.size w1 w2):=HB2.out.trans (hb2.mono HB2.out.size);have HEQ:Hid (Calls prog 15 #[v2, .slice a1 (ck S 0).length c1] w2 fun e w'=>e= .returned (.bool (decide (ck S r=ck S 0)))∧Below w2.heap.size w2 w'):=eq_told2 HQ.out (by rw [HL.out r hlt];omega) HT.out HB3.out (zg9 h2');clear h2' hb2 HB2;go_wp2_with fail
   refine HEQ.out.mono ?_;rintro e w3 ⟨rfl,hb3⟩;have HB4:Hid (Below w1.heap.size w1 w3):=HB3.out.trans (hb3.mono HB3.out.size);clear hb3 HB3 HEQ;by_cases he:ck S r=ck S 0
   ·have HE2:Hid (∀q,q<r+1->ck S q=ck S 0):=fun q hq=>by
     rcases Nat.lt_succ_iff_lt_or_eq.1 hq with z | z
     ·exact HE.out q z
     ·rw [z];exact he
    rw [aT he];clear he HE;go_wp2_with fail
    go_roundw
    case rel=>exact⟨r+1,by omega,hlt,by go_num,HB4,HE2⟩
    case measure=>simp [intOf];omega
   ·have HN:Hid (¬∀r,r<n->ck S r=ck S 0):=fun q=>he (q r hlt)
    rw [decide_eq_false he];clear he HE;go_wp2;go_ret;exact⟨false,rfl,⟨fun q=>(by cases q),fun q=>absurd q HN.out⟩,HBL.out _ (HB1.out.trans (HB4.out.mono HB1.out.size))⟩
  ·have hri:¬(r:Int)<n:=by omega
   have hrn:r=n:=by omega
   have hl0:(ck S 0).length=n:=HL.out 0 (by omega);have HE3:Hid (∀r,r<n->ck S r=ck S 0):=by rw [hrn] at HE;exact HE.out
   rw [hl0];clear HE hrn hl0;go_wp2;go_ret;exact⟨true,rfl,⟨fun _=>HE3.out,fun _=>rfl⟩,HBL.out _ (HB1.out.trans (HB2.out.mono HB1.out.size))⟩
theorem zvz(h:Af O n w0 S0 ck P W C1 C2 M J){S:σ}(hM:M l i S)(w:World)(hP:P s Z S w)(h4:n<=4):
  Calls prog 12 #[sV s,I n] w fun e w'=>e= .returned (.bool true)∧∃S',P s Z S' w'∧M l (i+1) S':=by
 have HR:Hid (Af O n w0 S0 ck P W C1 C2 M J):=h;have HA:Hid (Api O (P s Z) s):=(h.apz s).api Z;have HM:Hid (M l i S):=hM;have HJ:Hid (J l S 0 0 S):=h.fj0 _ _ _ hM;have HP0:Hid (P s Z S w):=hP;clear h hM hP;go_enter func12,ntmps12;go_wp2_with fail
 go_loopw [5] (fun x5 wX=>∃(r:Nat) (T:σ),r<=n∧x5=I r∧Hid (P s Z T wX)∧Hid (J l S r 0 T)) (fun x5 _=>n - (intOf x5).toNat)
 case atStart=>exact⟨0,S,az _,rfl,HP0,HJ⟩
 case round=>
  obtain⟨r,T0,hr,rfl,HP1,HJ1⟩:=hrel;clear HP0 HJ;by_cases hlt:r<n
  ·have hri:(r:Int)<n:=by omega
   go_wp2_with fail
   go_loopw [6] (fun x6 wX=>∃(t:Nat) (T:σ),t<=n∧x6=I t∧Hid (P s Z T wX)∧Hid (J l S r t T)) (fun x6 _=>n - (intOf x6).toNat)
   case atStart=>exact⟨0,T0,az _,rfl,HP1,HJ1⟩
   case round=>
    obtain⟨t,T,ht,rfl,HP2,HJ2⟩:=hrel;clear HP1 HJ1;by_cases hlt2:t<n
    ·have hti:(t:Int)<n:=by omega
     by_cases hrt:t=r
     ·have hrti:(t:Int)=(r:Int):=by omega
      have HJ3:Hid (J l S r (t+1) T):=by rw [hrt] at HJ2 ⊢;exact HR.out.fj1 _ _ _ _ HJ2.out
      clear hrt HJ2;go_wp2_with fail
      go_roundw
      case rel=>exact⟨t+1,T,hlt2,by go_num,HP2,HJ3⟩
      case measure=>simp [intOf];omega
     ·have hrti:¬(t:Int)=(r:Int):=by omega
      have hrtb:((t:Int)==(r:Int))=false:=beq_eq_false_iff_ne.2 hrti;have HN:=HR.out.fj2 l S r t T HJ2.out hlt hlt2 (fun e=>hrt e.symm);have HJ3:Hid (J l S r (t+1) (dlX O (O.ask T r t).1 4)):=HN.2;have hz:=HN.1;clear HN HJ2 hrt;go_wp2_with fail
      refine(HA.out.ask T _ r t HP2.out).mono ?_;rintro e w1 ⟨rfl,h1⟩;have HP3:Hid (P s Z (O.ask T r t).1 w1):=h1;clear h1 HP2;generalize O.ask T r t=X at *
      obtain⟨T',z⟩:=X;simp only at hz HP3 HJ3 ⊢;subst hz;go_wp2_with fail
      go_loopw [8] (fun x8 wX=>∃(k:Nat),k<=4∧x8=I k∧Hid (P s Z (dlX O T' k) wX)) (fun x8 _=>4 - (intOf x8).toNat)
      case atStart=>exact⟨0,az _,rfl,HP3⟩
      case round=>
       obtain⟨k,hk,rfl,HP4⟩:=hrel;clear HP3;by_cases hlt3:k<4
       ·have hki:(k:Int)<=3:=by omega
        go_wp2_with fail
        refine(HA.out.dlv (dlX O T' k) _ 0 HP4.out).mono ?_;rintro e w3 ⟨rfl,h1⟩;have HP5:Hid (P s Z (dlX O T' (k+1)) w3):=h1;clear h1 HP4;go_wp2_with fail
        go_roundw
        case rel=>exact⟨k+1,hlt3,by go_num,HP5⟩
        case measure=>simp [intOf];omega
       ·have hki:¬(k:Int)<=3:=by omega
        have hk4:k=4:=by omega
        have HP5:Hid (P s Z (dlX O T' 4) wr):=by rw [hk4] at HP4;exact HP4
        clear HP4 hk4;go_wp2_with fail
        go_roundw
        case rel=>exact⟨t+1,_,hlt2,by go_num,HP5,HJ3⟩
        case measure=>simp [intOf];omega
    ·have hti:¬(t:Int)<n:=by omega
     have htn:t=n:=by omega
     have HJ3:Hid (J l S (r+1) 0 T):=by rw [htn] at HJ2;exact HR.out.fj3 _ _ _ _ HJ2.out
     clear HJ2 htn;go_wp2_with fail
     go_roundw
     case rel=>exact⟨r+1,T,hlt,by go_num,HP2,HJ3⟩
     case measure=>simp [intOf];omega
  ·have hri:¬(r:Int)<n:=by omega
   have hrn:r=n:=by omega
   have HM2:Hid (M l (i+1) T0):=by rw [hrn] at HJ1;exact HR.out.fj4 _ _ _ _ HM.out HJ1.out
   clear HJ1 hrn HM;go_wp2_with fail
   refine(HR.out.fms s Z T0 _ l (i+1) HP1.out HM2.out).mono ?_;rintro e w4 ⟨a,c,rfl,hb⟩;have HP6:Hid (P s Z T0 w4):=HA.out.bel _ _ _ HP1.out hb;clear hb HP1;go_wp2;go_ret;exact⟨rfl,T0,HP6.out,HM2.out⟩
end
section
variable {σ : Type} {O : Ops σ} {n : Nat} {w : World} {S0 : σ} {ck : σ -> Nat -> List Int} {P : Nat -> List (Nat × Obj) -> σ -> World -> Prop} {W : List Int -> σ -> Prop} {C1 C2 M : List Int -> Nat -> σ -> Prop} {J : List Int -> σ -> Nat -> Nat -> σ -> Prop}
theorem zt1(many:Int)(hm:Rg many)(hn:(n:Int)=2+Wv.pk many 3)(h:Af O n w S0 ck P W C1 C2 M J)(hq:EqLaw)(aa:Option Addr)(ca:Nat)(raws:List Sp)(hat:SpAt w aa raws)(hok:∀o∈raws,SpOk o)(hll:raws.length<=9223372036854775807):
    Calls prog 3 #[I many, .slice aa raws.length ca] w fun e w'=>e= .returned (.bool true)∧Below w.heap.size w w':=by
  have HR:Hid (Af O n w S0 ck P W C1 C2 M J):=h;have HQ:Hid EqLaw:=hq;have HAT:Hid (SpAt w aa raws):=hat;have HOK:Hid (∀o∈raws,SpOk o):=hok;have HPK:Hid (Calls prog 7 #[I many,I 3] w fun e w'=>e= .returned (I (Wv.pk many 3))∧w'=w):=zaq many 3 w hm ⟨by decide,by decide⟩;obtain⟨n0,n1⟩:=Wv.pk_lt many 3 (by decide);generalize Wv.pk many 3=n3 at *
  have hwn:IntKind.i64.wrap (2+n3)=(n:Int):=by rw [IntKind.wrap_i64,hn];omega
  have HN4:Hid (n<=4∧2<=n):=⟨by omega,by omega⟩
  clear h hat hok hm hn n0 n1 hq;go_enter func3,ntmps3;go_wp2_with fail
  refine HPK.out.mono ?_;rintro e w1 ⟨rfl,hw⟩;obtain rfl:=hw.symm;clear HPK;go_wp2_with fail
  refine HR.out.beg.mono ?_;rintro e w1 ⟨s,rfl,h1⟩;have H1:Hid (P s [] S0 w1):=h1;clear h1 hwn
  have H2:Hid (P s [(w1.heap.size,laO 1 0 0 0)] S0 (w1.alloc (laO 1 0 0 0))):=(HR.out.apz s).more [] [(w1.heap.size,laO 1 0 0 0)] S0 w1 _ H1.out ((Below.refl _ _).alloc (ac _) _) (fun p hp=>by
    rw [aB.1 hp]
    exact⟨ac _,heap_alloc_new w1 _⟩)
  have HW0:Hid (W [1,0,0,0] S0):=HR.out.w0;clear H1;go_wp2_with fail
  obtain⟨g,hg⟩:∃g,g=w1.heap.size:=⟨_,rfl⟩
  rw [←hg] at H2 ⊢;clear hg;go_loopw [9] (fun x9 wX=>∃(k:Nat) (S:σ) (a b c d:Int),k<=raws.length∧x9=I k∧Hid (P s [(g,laO a b c d)] S wX)∧Hid (W [a,b,c,d] S)) (fun x9 _=>raws.length - (intOf x9).toNat)
  case atStart=>exact⟨0,S0,1,0,0,0,az _,rfl,H2,HW0⟩
  case round=>
    obtain⟨k,S,a,b,c,d,hk,rfl,HS,HW⟩:=hrel;clear H2 HW0;by_cases hlt:k<raws.length
    . have hki:(k:Int)<raws.length:=by omega
      obtain⟨pa,qa,rfl,hcells⟩:=HAT.out k hlt;have HRC:Hid (∀w',Below w.heap.size w w'->w'.cell? ⟨pa,qa+k*5,none⟩=some (I raws[k].k)∧w'.cell? ⟨pa,qa+k*5+1,none⟩=some (I raws[k].r)∧w'.cell? ⟨pa,qa+k*5+2,none⟩=some (I raws[k].a)∧w'.cell? ⟨pa,qa+k*5+3,none⟩=some (I raws[k].b)∧w'.cell? ⟨pa,qa+k*5+4,none⟩=some (I raws[k].c)):=fun w' hb=>⟨zaa hb hcells.1,zaa hb hcells.2.1,zaa hb hcells.2.2.1,zaa hb hcells.2.2.2.1,zaa hb hcells.2.2.2.2⟩
      have HSO:Hid (SpOk raws[k]):=HOK.out _ (aU hlt);clear hcells;generalize raws[k]=o at *
      obtain⟨e0,e1,e2,e3,e4⟩:=HRC.out wr (HR.out.bel _ _ _ _ HS.out);obtain⟨n4,n2⟩:=HN4.out;obtain⟨r0,r1⟩:=Wv.pk_lt o.r n (by omega);have HDS:Hid (Calls prog 9 #[sV s,I n, .agg #[I o.k,I o.r,I o.a,I o.b,I o.c]] wr fun e w'=>e= .returned (I (doesX O n S o).2)∧P s [(g,laO a b c d)] (doesX O n S o).1 w'):=does_any (HR.out.apz s) o HSO.out ⟨by omega,n4⟩ _ HS.out;have HTY:Hid (∀r:Nat,Wv.pk o.r n=r->W (if 0<(doesX O n S o).2 then [a,b,c,d].set r (doesX O n S o).2 else [a,b,c,d]) (doesX O n S o).1):=fun r hr=>HR.out.fds _ S o r HW.out hr (by omega)
      have HRD:Hid (∀w,Calls prog 7 #[I o.r,I n] w fun e w'=>e= .returned (I (Wv.pk o.r n))∧w'=w):=fun w=>zaq o.r n w HSO.out.r ⟨by omega,by omega⟩
      have HR4:Hid (0<=Wv.pk o.r n∧Wv.pk o.r n<n):=⟨r0,r1⟩
      clear HS n4 n2 r0 r1 HW;generalize doesX O n S o=DX at *
      obtain⟨S',m⟩:=DX;simp only at HDS HTY;generalize hpr:Wv.pk o.r n=pr at *
      go_wp2_with fail
      refine HDS.out.mono ?_;rintro e w5 ⟨rfl,h5⟩;have HP6:Hid (P s [(g,laO a b c d)] S' w5):=h5;clear h5 HDS e0 e1 e2 e3 e4;have hrs:pr=0∨pr=1∨pr=2∨pr=3:=by have:=HR4.out;have:=HN4.out;omega
      by_cases hm0:0<m
      . obtain⟨e0,e1,e2,e3,e4⟩:=HRC.out w5 (HR.out.bel _ _ _ _ HP6.out);clear HRC;go_wp2_with fail
        refine(HRD.out _).mono ?_;rintro e w10 ⟨rfl,hw10⟩;obtain rfl:=hw10;have hbk:w10.heap[g]?=some (laO a b c d):=(HR.out.apz s).kz _ _ _ HP6.out (g,laO a b c d) (by simp);have hla:∀r<4,w10.cell? ⟨g,r,none⟩=some (I ([a,b,c,d].getD r 0)):=fun r hr=>zuk hbk r hr
        have l0:=hla 0 (by omega);have l1:=hla 1 (by omega);have l2:=hla 2 (by omega);have l3:=hla 3 (by omega);simp only [List.getD_cons_zero,List.getD_cons_succ] at l0 l1 l2 l3;clear hla e0 e1 e2 e3 e4;rcases hrs with rfl | rfl | rfl | rfl
        . have HW':Hid (W [m,b,c,d] S'):=by
            have:=HTY.out 0 rfl;rw [aA hm0] at this;exact this
          have HP7:Hid (P s [(g,laO m b c d)] S' (w10.setCell ⟨g,0,none⟩ (I m))):=HR.out.put s S' g _ _ w10 _ HP6.out ((Tch.refl _ _).setCell ⟨g,0,none⟩ (I m) (Or.inl rfl)) (Blk.set (show Blk w10 g #[I a,I b,I c,I d] 27 from hbk) 0 (I m));have hz:w10.frozen? ⟨g,0,none⟩=false:=Blk.frozen (show Blk w10 g #[I a,I b,I c,I d] 27 from hbk) 0;clear HTY HP6 hbk;go_wp2_with fail
          go_roundw
          case rel=>exact⟨k+1,S',m,b,c,d,hlt,by go_num,HP7,HW'⟩
          case measure=>simp [intOf];omega
        . have HW':Hid (W [a,m,c,d] S'):=by
            have:=HTY.out 1 rfl;rw [aA hm0] at this;exact this
          have HP7:Hid (P s [(g,laO a m c d)] S' (w10.setCell ⟨g,1,none⟩ (I m))):=HR.out.put s S' g _ _ w10 _ HP6.out ((Tch.refl _ _).setCell ⟨g,1,none⟩ (I m) (Or.inl rfl)) (Blk.set (show Blk w10 g #[I a,I b,I c,I d] 27 from hbk) 1 (I m));have hz:w10.frozen? ⟨g,1,none⟩=false:=Blk.frozen (show Blk w10 g #[I a,I b,I c,I d] 27 from hbk) 1;clear HTY HP6 hbk;go_wp2_with fail
          go_roundw
          case rel=>exact⟨k+1,S',a,m,c,d,hlt,by go_num,HP7,HW'⟩
          case measure=>simp [intOf];omega
        . have HW':Hid (W [a,b,m,d] S'):=by
            have:=HTY.out 2 rfl;rw [aA hm0] at this;exact this
          have HP7:Hid (P s [(g,laO a b m d)] S' (w10.setCell ⟨g,2,none⟩ (I m))):=HR.out.put s S' g _ _ w10 _ HP6.out ((Tch.refl _ _).setCell ⟨g,2,none⟩ (I m) (Or.inl rfl)) (Blk.set (show Blk w10 g #[I a,I b,I c,I d] 27 from hbk) 2 (I m));have hz:w10.frozen? ⟨g,2,none⟩=false:=Blk.frozen (show Blk w10 g #[I a,I b,I c,I d] 27 from hbk) 2;clear HTY HP6 hbk;go_wp2_with fail
          go_roundw
          case rel=>exact⟨k+1,S',a,b,m,d,hlt,by go_num,HP7,HW'⟩
          case measure=>simp [intOf];omega
        . have HW':Hid (W [a,b,c,m] S'):=by
            have:=HTY.out 3 rfl;rw [aA hm0] at this;exact this
          have HP7:Hid (P s [(g,laO a b c m)] S' (w10.setCell ⟨g,3,none⟩ (I m))):=HR.out.put s S' g _ _ w10 _ HP6.out ((Tch.refl _ _).setCell ⟨g,3,none⟩ (I m) (Or.inl rfl)) (Blk.set (show Blk w10 g #[I a,I b,I c,I d] 27 from hbk) 3 (I m));have hz:w10.frozen? ⟨g,3,none⟩=false:=Blk.frozen (show Blk w10 g #[I a,I b,I c,I d] 27 from hbk) 3;clear HTY HP6 hbk;go_wp2_with fail
          go_roundw
          case rel=>exact⟨k+1,S',a,b,c,m,hlt,by go_num,HP7,HW'⟩
          case measure=>simp [intOf];omega
      . have HW':Hid (W [a,b,c,d] S'):=by
          obtain⟨r,hr⟩:=aN HR4.out.1;have:=HTY.out r hr;rw [ap hm0] at this;exact this
        clear HRC HTY;go_wp2_with fail
        go_roundw
        case rel=>exact⟨k+1,S',a,b,c,d,hlt,by go_num,HP6,HW'⟩
        case measure=>simp [intOf];omega
    . have hki : ¬ (k:Int)<raws.length:=by omega
      obtain⟨n4,n2⟩:=HN4.out;have HCM:Hid (Calls prog 10 #[sV s,I n] wr fun e w'=>e= .returned (.bool true)∧∃S',P s [(g,laO a b c d)] S' w'∧M [a,b,c,d] 0 S'):=calm_any HR.out HW.out _ HS.out n4;clear HS HW n4 n2;go_wp2_with fail
      refine HCM.out.mono ?_;rintro e w2 ⟨rfl,S2,h2,hm2⟩;have HP2:Hid (P s [(g,laO a b c d)] S2 w2):=h2;have HM2:Hid (M [a,b,c,d] 0 S2):=hm2;have HLV:Hid (Calls prog 11 #[sV s,I n] w2 (LvP n ck S2 (P s [(g,laO a b c d)] S2))):=zmh HR.out HQ.out hm2 _ h2 HN4.out.2 HN4.out.1;clear h2 hm2 HCM HP2;go_wp2_with fail
      refine HLV.out.mono ?_;rintro e w3 ⟨b3,rfl,hb3,h3⟩;have HP3:Hid (P s [(g,laO a b c d)] S2 w3):=h3;have HB3:Hid (b3=true↔∀r,r<n->ck S2 r=ck S2 0):=hb3;clear h3 hb3 HLV;go_wp2_with fail
      go_loopw [7,12,13] (fun x7 x12 x13 wX=>∃(j:Nat) (S:σ) (b0:Bool),j<=120∧x7= .bool true∧x12= .bool b0∧x13=I j∧Hid (P s [(g,laO a b c d)] S wX)∧Hid (M [a,b,c,d] j S)∧Hid (b0=true↔∀r,r<n->ck S r=ck S 0)) (fun _ _ x13 _=>120 - (intOf x13).toNat)
      case atStart=>exact⟨0,S2,b3,az _,rfl,rfl,rfl,HP3,HM2,HB3⟩
      case round=>
        obtain⟨j,S4,b0,hj,rfl,rfl,rfl,HP4,HM4,HB4⟩:=hrel;clear HP3 HM2 HB3;by_cases hgo:j<120∧b0=false
        . obtain⟨hj2,rfl⟩:=hgo;have hji:(j:Int)<120:=by omega
          have HRN:Hid (Calls prog 12 #[sV s,I n] wr fun e w'=>e= .returned (.bool true)∧∃S',P s [(g,laO a b c d)] S' w'∧M [a,b,c,d] (j+1) S'):=zvz HR.out HM4.out _ HP4.out HN4.out.1;clear HP4 HM4 HB4;go_wp2_with fail
          refine HRN.out.mono ?_;rintro e w5 ⟨rfl,S5,h5,hm5⟩;have HP5:Hid (P s [(g,laO a b c d)] S5 w5):=h5;have HM5:Hid (M [a,b,c,d] (j+1) S5):=hm5;have HLV:Hid (Calls prog 11 #[sV s,I n] w5 (LvP n ck S5 (P s [(g,laO a b c d)] S5))):=zmh HR.out HQ.out hm5 _ h5 HN4.out.2 HN4.out.1;clear h5 hm5 HRN HP5;go_wp2_with fail
          refine HLV.out.mono ?_;rintro e w6 ⟨b6,rfl,hb6,h6⟩;have HP6:Hid (P s [(g,laO a b c d)] S5 w6):=h6;have HB6:Hid (b6=true↔∀r,r<n->ck S5 r=ck S5 0):=hb6;clear h6 hb6 HLV;go_wp2_with fail
          go_roundw
          case rel=>exact⟨j+1,S5,b6,hj2,rfl,rfl,by go_num,HP6,HM5,HB6⟩
          case measure=>simp [intOf];omega
        . have HL:Hid (∀r,r<n->ck S4 r=ck S4 0):=by
            by_cases hb:b0=true
            . exact HB4.out.1 hb
            . have hj3:j=120:=by
                have:b0=false:=by cases b0 with | true=>exact absurd rfl hb | false=>rfl
                have:¬j<120:=fun q=>hgo ⟨q,this⟩
                omega
              rw [hj3] at HM4;exact HR.out.fm1 _ _ HM4.out
          have hb1:b0=true:=HB4.out.2 HL.out;subst hb1;clear hgo HB4;obtain⟨n4,n2⟩:=HN4.out;have HCK0:Hid (Rl 13 #[sV s,I 0] wr (ck S4 0,0)):=HR.out.fck s _ S4 wr 0 (by omega) HP4.out;have HLE:Hid ((ck S4 0).length=n):=HR.out.fm2 _ _ _ HM4.out 0 (by omega);have HLS:Hid (∀r,r<n-> [a,b,c,d].getD r 0<=(ck S4 0).getD r 0):=HR.out.fm3 _ _ _ HM4.out HL.out;have HRD:Hid (∀r:Nat,r<n->∀k:Nat,k<8->∃v,O.rd S4 0 k=(v,0)∧O.rd S4 r k=(v,0)):=HR.out.fm4 _ _ _ HM4.out HL.out;have HRL:Hid (∀r o,(O.rd S4 r o).1.length<=1048576):=fun r o=>HR.out.frl s _ S4 wr r o HP4.out
          have HBW:Hid (∀w',Below wr.heap.size wr w'->P s [(g,laO a b c d)] S4 w'):=fun w' hb=>((HR.out.apz s).api _).bel _ _ _ HP4.out hb
          clear HM4 HL HP4 n4 n2;go_wp2_with fail
          all_goals
            refine HCK0.out.mono ?_;rintro e w7 ⟨v7,rfl,h7,hb7⟩;obtain⟨a7,c7,rfl,ha7⟩:=zg9 h7;have hl7:=HLE.out;have HBL:Hid (∀w',Below w7.heap.size w7 w'->P s [(g,laO a b c d)] S4 w'):=fun w' hb=>HBW.out _ (hb7.trans (hb.mono hb7.size))
            have HAC:Hid (At w7 a7 ((ck S4 0).map I)):=ha7;simp only at hl7 ⊢;rw [hl7];clear h7 hb7 ha7 hl7;go_wp2_with fail
            go_loopw [16] (fun x16 wX=>∃r:Nat,r<=n∧x16=I r∧Hid (Below w7.heap.size w7 wX)) (fun x16 _=>n - (intOf x16).toNat)
            case atStart=>exact⟨0,az _,rfl,Below.refl _ _⟩
            case round=>
              obtain⟨r,hr,rfl,HB8⟩:=hrel;by_cases hlr:r<n
              . have hri:(r:Int)<n:=by omega
                have hrl:r<(ck S4 0).length:=by rw [HLE.out];exact hlr
                obtain⟨g7,q7,rfl,k7⟩:=HAC.out r (I ((ck S4 0).getD r 0)) (by rw [List.getElem?_map,ai,ag hrl];rfl);have k8:wr.cell? ⟨g7,q7+r,none⟩=some (I ((ck S4 0).getD r 0)):=zaa HB8.out k7;have k9:wr.cell? ⟨g,r,none⟩=some (I ([a,b,c,d].getD r 0)):=zuk ((HR.out.apz s).kz _ _ _ (HBL.out _ HB8.out) (g,laO a b c d) (by simp)) r (by have:=HN4.out;omega);have hle:=HLS.out r hlr;have hlf:decide ((ck S4 0).getD r 0< [a,b,c,d].getD r 0)=false:=decide_eq_false (by omega);clear k7 hle hrl;have hn4:n<=4:=HN4.out.1;generalize (ck S4 0).getD r 0=cr at *
                generalize [a,b,c,d].getD r 0=lr at *
                go_wp2_with fail
                go_quiet (fail)
                have HB9:Hid (Below w7.heap.size w7 (wr.drewN nq)):=za7 HB8.out nq;clear HB8 k8 k9 hlf;go_wp2_with fail
                go_loopw [17] (fun x17 wX=>∃o:Nat,o<=8∧x17=I o∧Hid (Below w7.heap.size w7 wX)) (fun x17 _=>8 - (intOf x17).toNat)
                case atStart=>exact⟨0,az _,rfl,HB9⟩
                case round=>
                  obtain⟨o,ho,rfl,HB10⟩:=hrel;clear HB9;by_cases hlo:o<8
                  . have hoi:(o:Int)<8:=by omega
                    obtain⟨v,y1,y2⟩:=HRD.out r hlr o hlo;have hvl:v.length<=1048576:=by have:=HRL.out 0 o;rw [y1] at this;exact this
                    have HA:Hid (Api O (P s [(g,laO a b c d)]) s):=(HR.out.apz s).api _;have HR1:Hid (∀w',Below w7.heap.size w7 w'->Calls prog 14 #[sV s,I 0,I o] w' fun e w2=>∃x,e= .returned (.tuple #[x,I 0])∧w2.ownsRow w'.heap.size 3 1 x v.length (v.map I)∧Below w'.heap.size w' w2):=fun w' hb=>by have h1:=HA.out.rd S4 w' 0 o (HBL.out _ hb);unfold Rl at h1;rw [y1] at h1;exact h1
                    have HR2:Hid (∀w',Below w7.heap.size w7 w'->Calls prog 14 #[sV s,I r,I o] w' fun e w2=>∃x,e= .returned (.tuple #[x,I 0])∧w2.ownsRow w'.heap.size 3 1 x v.length (v.map I)∧Below w'.heap.size w' w2):=fun w' hb=>by have h1:=HA.out.rd S4 w' r o (HBL.out _ hb);unfold Rl at h1;rw [y2] at h1;exact h1
                    have HVL:Hid (v.length<=1048576):=hvl;clear y1 y2 hvl;go_wp2_with fail
                    refine(HR1.out _ HB10.out).mono ?_;rintro e w11 ⟨x1,rfl,z1,hb1⟩;have HT1:Hid (Told v x1 w11):=zg9 z1;have HB11:Hid (Below w7.heap.size w7 w11):=HB10.out.trans (hb1.mono HB10.out.size);clear z1 hb1 HR1 HB10;go_wp2_with fail
                    refine(HR2.out _ HB11.out).mono ?_;rintro e w12 ⟨x2,rfl,z2,hb2⟩;have HEQ:Hid (Calls prog 15 #[x1,x2] w12 fun e w'=>e= .returned (.bool true)∧Below w12.heap.size w12 w'):=eq_told HQ.out HVL.out HT1.out hb2 (zg9 z2);have HB12:Hid (Below w7.heap.size w7 w12):=HB11.out.trans (hb2.mono HB11.out.size);clear z2 hb2 HR2 HB11 HT1;go_wp2_with fail
                    refine HEQ.out.mono ?_;rintro e w13 ⟨rfl,hb3⟩;have HB13:Hid (Below w7.heap.size w7 w13):=HB12.out.trans (hb3.mono HB12.out.size);clear hb3 HEQ HB12;go_wp2_with fail
                    go_roundw
                    case rel=>exact⟨o+1,hlo,by go_num,HB13⟩
                    case measure=>simp [intOf];omega
                  . have hoi:¬(o:Int)<8:=by omega
                    go_wp2_with fail
                    go_roundw
                    case rel=>exact⟨r+1,hlr,by go_num,HB10⟩
                    case measure=>simp [intOf];omega
              . have hri:¬(r:Int)<n:=by omega
                go_wp2;go_ret;exact⟨rfl,HR.out.bel _ _ _ _ (HBL.out _ HB8.out)⟩
end
