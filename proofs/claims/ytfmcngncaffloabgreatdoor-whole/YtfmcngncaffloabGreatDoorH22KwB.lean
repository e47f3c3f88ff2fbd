import Derived.Test.YtfmcngncaffloabGreatDoorH21KwA
set_option maxHeartbeats 12800000
namespace Go.Proofs.YtfmcngncaffloabGreatDoor
open Go.RowKit
set_option maxRecDepth 100000
def tx2{σ:Type}(O:Ops σ)(S:σ)(r x:Int):σ:=(O.doo (O.doo (O.bgn S r).1 r 1 0 x 0).1 r 1 4 x 0).1
structure Wf{σ:Type}(O:Ops σ)(n:Nat)(w:World)(S0:σ)(ck:σ->Nat->List Int)(P:Nat->List (Nat×Obj)->σ->World->Prop)(W:List Int->σ->Prop):Prop where
 apz:∀s,Apz O (P s) s
 put:∀s S g ob ob' w1 w2,P s [(g,ob)] S w1->Tch (fun k=>k=g) w1 w2->w2.heap[g]?=some ob'->P s [(g,ob')] S w2
 bel:∀s Z S w',P s Z S w'->Below w.heap.size w w'
 beg:Calls Tryz.prog 8 #[I n] w fun e w'=>∃s,e= .returned (.tuple #[sV s, .bool true])∧P s [] S0 w'
 w0:W [1,0,0,0] S0
 fck:∀s Z S w' (r:Nat),r<n->P s Z S w'->Rl 13 #[sV s,I r] w' (ck S r,0)
 fhv:∀l S,W l S->∀r:Nat,r<n->(O.rd S r 0=([],4)∧O.rd S r 4=([],4))∨∃v,O.rd S r 0=([v],0)∧O.rd S r 4=([v],0)∧(ck S r).length=n∧l.getD r 0<=(ck S r).getD r 0
 ftx:∀l S (r:Nat) x,r<n->0<=x->x<100->W l S->((O.com (tx2 O S r x) r).2.2=0∧l.getD r 0<(O.com (tx2 O S r x) r).2.1∧W (l.set r (O.com (tx2 O S r x) r).2.1) (O.com (tx2 O S r x) r).1)∨((O.com (tx2 O S r x) r).2.2 ≠ 0∧W l (O.com (tx2 O S r x) r).1)
 ffl:∀l S (r:Nat) i j,r<n->W l S->W l (O.crs (O.fal (tx2 O S r 7) r i).1 r j).1
 fds:∀l S o,8<=Wv.pk o.k 16->Wv.pk o.k 16 ≠ 14->W l S->W l (doesX O n S o).1
section
variable {σ : Type} {O : Ops σ} {n : Nat} {w : World} {S0 : σ} {ck : σ -> Nat -> List Int} {P : Nat -> List (Nat × Obj) -> σ -> World -> Prop} {W : List Int -> σ -> Prop}
theorem Wf.halves(h:Wf O n w S0 ck P W)(hq:EqLaw)(hn:n<=4){s g:Nat}{a b c d:Int}{S:σ}(hW:W [a,b,c,d] S){w':World}(hP:P s [(g,laO a b c d)] S w'):Calls Tryz.prog 21 #[sV s,I n, .agg #[I a,I b,I c,I d]] w' fun e w2=>e= .returned (.bool true)∧P s [(g,laO a b c d)] S w2:=by
 have hA:=(h.apz s).api [(g,laO a b c d)]
 refine(zrc (P:=P s [(g,laO a b c d)] S) (ck:=ck S) (rd:=O.rd S) ⟨fun w1 w2 h1 h2=>hA.bel _ _ _ h1 h2,fun w1 h1 r o=>hA.rd _ _ r o h1,fun w1 h1 r hr=>h.fck _ _ _ _ r hr h1,fun r hr=>h.fhv _ _ hW r hr⟩ hq hn w' hP).mono ?_
 rintro e w2 ⟨rfl,hb⟩
 exact⟨rfl,hA.bel _ _ _ hP hb⟩
theorem zpt(many:Int)(hm:Rg many)(hn:(n:Int)=2+Wv.pk many 3)(h:Wf O n w S0 ck P W)(hq:EqLaw)(aa:Option Addr)(ca:Nat)(raws:List Sp)(hat:SpAt w aa raws)(hok:∀o∈raws,SpOk o)(hll:raws.length<=9223372036854775807):
  Calls Tryz.prog 4 #[I many, .slice aa raws.length ca] w fun e w'=>e= .returned (.bool true)∧Below w.heap.size w w':=by
 have HR:Hid (Wf O n w S0 ck P W):=h
 have HQ:Hid EqLaw:=hq
 have HAT:Hid (SpAt w aa raws):=hat
 have HOK:Hid (∀o∈raws,SpOk o):=hok
 have HPK:Hid (Calls Tryz.prog 7 #[I many,I 3] w fun e w'=>e= .returned (I (Wv.pk many 3))∧w'=w):=zao many 3 w hm ⟨by decide,by decide⟩
 obtain⟨n0,n1⟩:=Wv.pk_lt many 3 (by decide)
 generalize Wv.pk many 3=n3 at *
 have hwn:IntKind.i64.wrap (2+n3)=(n:Int):=by rw [IntKind.wrap_i64,hn];omega
 have HN4:Hid (n<=4∧2<=n):=⟨by omega,by omega⟩
 clear h hat hok hm hn n0 n1 hq
 go_enter Tryz.func4,Tryz.ntmps4
 go_wp2_with fail
 refine HPK.out.mono ?_
 rintro e w1 ⟨rfl,hw⟩
 obtain rfl:=hw.symm
 clear HPK
 go_wp2_with fail
 refine HR.out.beg.mono ?_
 rintro e w1 ⟨s,rfl,h1⟩
 have H1:Hid (P s [] S0 w1):=h1
 clear h1 hwn
 have H2:Hid (P s [(w1.heap.size,laO 1 0 0 0)] S0 (w1.alloc (laO 1 0 0 0))):=(HR.out.apz s).more [] [(w1.heap.size,laO 1 0 0 0)] S0 w1 _ H1.out ((Below.refl _ _).alloc (Nat.le_refl _) _) (fun p hp=>by
  rw [List.mem_singleton.1 hp]
  exact⟨Nat.le_refl _,heap_alloc_new w1 _⟩)
 have HW0:Hid (W [1,0,0,0] S0):=HR.out.w0
 clear H1
 go_wp2_with fail
 obtain⟨g,hg⟩:∃g,g=w1.heap.size:=⟨_,rfl⟩
 rw [←hg] at H2 ⊢
 clear hg
 go_loopw [9] (fun x9 wX=>∃(k:Nat) (S:σ) (a b c d:Int),k<=raws.length∧x9=I k∧Hid (P s [(g,laO a b c d)] S wX)∧Hid (W [a,b,c,d] S)) (fun x9 _=>raws.length - (intOf x9).toNat)
 case atStart=>exact⟨0,S0,1,0,0,0,Nat.zero_le _,rfl,H2,HW0⟩
 case round=>
  obtain⟨k,S,a,b,c,d,hk,rfl,HS,HW⟩:=hrel
  clear H2 HW0
  by_cases hlt:k<raws.length
  ·have hki:(k:Int)<raws.length:=by omega
   obtain⟨pa,qa,rfl,hcells⟩:=HAT.out k hlt
   have HRC:Hid (∀w',Below w.heap.size w w'->w'.cell? ⟨pa,qa+k*5,none⟩=some (I raws[k].k)∧w'.cell? ⟨pa,qa+k*5+1,none⟩=some (I raws[k].r)∧w'.cell? ⟨pa,qa+k*5+2,none⟩=some (I raws[k].a)∧w'.cell? ⟨pa,qa+k*5+3,none⟩=some (I raws[k].b)∧w'.cell? ⟨pa,qa+k*5+4,none⟩=some (I raws[k].c)):=fun w' hb=>⟨zaa hb hcells.1,zaa hb hcells.2.1,zaa hb hcells.2.2.1,zaa hb hcells.2.2.2.1,zaa hb hcells.2.2.2.2⟩
   have HSO:Hid (SpOk raws[k]):=HOK.out _ (List.getElem_mem hlt)
   clear hcells
   generalize raws[k]=o at *
   obtain⟨e0,e1,e2,e3,e4⟩:=HRC.out wr (HR.out.bel _ _ _ _ HS.out)
   clear HRC
   have HP1:Hid (P s [(wr.heap.size,spO o),(g,laO a b c d)] S (wr.alloc (spO o))):=(HR.out.apz s).lit HS.out o
   have HKZ:Hid (∀S w',P s [(wr.heap.size,spO o),(g,laO a b c d)] S w'->w'.cell? ⟨wr.heap.size,0,none⟩=some (I o.k)∧w'.cell? ⟨wr.heap.size,1,none⟩=some (I o.r)∧w'.cell? ⟨wr.heap.size,2,none⟩=some (I o.a)∧w'.cell? ⟨wr.heap.size,3,none⟩=some (I o.b)∧w'.cell? ⟨wr.heap.size,4,none⟩=some (I o.c)):=fun S w' h=>zso (o:=o) ((HR.out.apz s).kz _ _ _ h (wr.heap.size,spO o) (List.mem_cons_self ..))
   have HO:Hid (∀S w',P s [(wr.heap.size,spO o),(g,laO a b c d)] S w'->P s [(g,laO a b c d)] S w'):=fun S w' h=>(HR.out.apz s).off h
   have HA:Hid (Api O (P s [(wr.heap.size,spO o),(g,laO a b c d)]) s):=(HR.out.apz s).api _
   have HA1:Hid (Api O (P s [(g,laO a b c d)]) s):=(HR.out.apz s).api _
   obtain⟨ok,or,oa,ob,oc⟩:=o
   obtain⟨hok,hor,hoa,hob,hoc⟩:=HSO.out
   have HKR:Hid (Rg ok):=hok
   have HRR:Hid (Rg or):=hor
   have HAR:Hid (Rg oa):=hoa
   have HBR:Hid (Rg ob):=hob
   obtain⟨n4,n2⟩:=HN4.out
   have HNR:Hid (0<(n:Int)∧(n:Int)<=1048576):=⟨by omega,by omega⟩
   obtain⟨k0,k1⟩:=Wv.pk_lt ok 16 (by decide)
   obtain⟨r0,r1⟩:=Wv.pk_lt or n (by omega)
   obtain⟨x0,x1⟩:=Wv.pk_lt oa 100 (by decide)
   obtain⟨y0,y1⟩:=Wv.pk_lt oa 300 (by decide)
   obtain⟨z0,z1⟩:=Wv.pk_lt ob 300 (by decide)
   have HDO:Hid (8<=Wv.pk ok 16->Wv.pk ok 16 ≠ 14->W [a,b,c,d] (doesX O n S ⟨ok,or,oa,ob,oc⟩).1):=fun h1 h2=>HR.out.fds _ _ ⟨ok,or,oa,ob,oc⟩ h1 h2 HW.out
   have HTX:Hid (∀r:Nat,Wv.pk or n=r->((O.com (tx2 O S (Wv.pk or n) (Wv.pk oa 100)) (Wv.pk or n)).2.2=0∧ [a,b,c,d].getD r 0<(O.com (tx2 O S (Wv.pk or n) (Wv.pk oa 100)) (Wv.pk or n)).2.1∧W ([a,b,c,d].set r (O.com (tx2 O S (Wv.pk or n) (Wv.pk oa 100)) (Wv.pk or n)).2.1) (O.com (tx2 O S (Wv.pk or n) (Wv.pk oa 100)) (Wv.pk or n)).1)∨((O.com (tx2 O S (Wv.pk or n) (Wv.pk oa 100)) (Wv.pk or n)).2.2 ≠ 0∧W [a,b,c,d] (O.com (tx2 O S (Wv.pk or n) (Wv.pk oa 100)) (Wv.pk or n)).1)):=fun r hr=>by
    rw [hr];exact HR.out.ftx _ S r _ (by omega) x0 x1 HW.out
   have HFL:Hid (∀i j,W [a,b,c,d] (O.crs (O.fal (tx2 O S (Wv.pk or n) 7) (Wv.pk or n) i).1 (Wv.pk or n) j).1):=fun i j=>by
    obtain⟨r,hr⟩:=Int.eq_ofNat_of_zero_le r0
    rw [hr];exact HR.out.ffl _ S r i j (by omega) HW.out
   have HKD:Hid (∀w,Calls Tryz.prog 7 #[I ok,I 16] w fun e w'=>e= .returned (I (Wv.pk ok 16))∧w'=w):=fun w=>zao ok 16 w hok ⟨by decide,by decide⟩
   have HRD:Hid (∀w,Calls Tryz.prog 7 #[I or,I n] w fun e w'=>e= .returned (I (Wv.pk or n))∧w'=w):=fun w=>zao or n w hor ⟨by omega,by omega⟩
   have HXD:Hid (∀w,Calls Tryz.prog 7 #[I oa,I 100] w fun e w'=>e= .returned (I (Wv.pk oa 100))∧w'=w):=fun w=>zao oa 100 w hoa ⟨by decide,by decide⟩
   have HYD:Hid (∀w,Calls Tryz.prog 7 #[I oa,I 300] w fun e w'=>e= .returned (I (Wv.pk oa 300))∧w'=w):=fun w=>zao oa 300 w hoa ⟨by decide,by decide⟩
   have HZD:Hid (∀w,Calls Tryz.prog 7 #[I ob,I 300] w fun e w'=>e= .returned (I (Wv.pk ob 300))∧w'=w):=fun w=>zao ob 300 w hob ⟨by decide,by decide⟩
   generalize Wv.pk ok 16=pk at *
   generalize Wv.pk or n=pr at *
   generalize Wv.pk oa 100=px at *
   generalize Wv.pk oa 300=py at *
   generalize Wv.pk ob 300=pz at *
   have HR4:Hid (0<=pr∧pr<n):=⟨r0,r1⟩
   have hw1:IntKind.i64.wrap (py - 50)=py - 50:=by rw [IntKind.wrap_i64];omega
   have hw2:IntKind.i64.wrap (pz - 50)=pz - 50:=by rw [IntKind.wrap_i64];omega
   have HC1:=HKZ.out S _ HP1.out
   obtain⟨c0,c1,c2,c3,c4⟩:=HC1
   clear HS hok hor hoa hob hoc n4 n2 r0 r1 x0 x1 y0 y1 z0 z1
   go_wp2_with fail
   refine(HRD.out _).mono ?_
   rintro e w10 ⟨rfl,hw10⟩
   obtain rfl:=hw10
   go_wp2_with fail
   refine(HKD.out _).mono ?_
   rintro e w10 ⟨rfl,hw10⟩
   obtain rfl:=hw10
   clear HRD HKD
   by_cases hk7:pk<=7
   ·go_wp2_with fail
    refine(HA.out.bgn S _ pr HP1.out).mono ?_
    rintro e w2 ⟨rfl,h2⟩
    have HP2:Hid (P s [(wr.heap.size,spO ⟨ok,or,oa,ob,oc⟩),(g,laO a b c d)] (O.bgn S pr).1 w2):=h2
    obtain⟨f0,f1,f2,f3,f4⟩:=HKZ.out _ _ h2
    clear h2 HP1 c0 c1 c2 c3 c4
    go_wp2_with fail
    refine(HXD.out _).mono ?_
    rintro e w10 ⟨rfl,hw10⟩
    obtain rfl:=hw10
    go_wp2_with fail
    refine(HA.out.doo _ _ pr 1 0 px 0 HP2.out).mono ?_
    rintro e w3 ⟨rfl,h2⟩
    have HP3:Hid (P s [(wr.heap.size,spO ⟨ok,or,oa,ob,oc⟩),(g,laO a b c d)] ((O.doo (O.bgn S pr).1 pr 1 0 px 0).1) w3):=h2
    clear f0 f1 f2 f3 f4
    obtain⟨f0,f1,f2,f3,f4⟩:=HKZ.out _ _ h2
    clear h2 HP2
    go_wp2_with fail
    refine(HXD.out _).mono ?_
    rintro e w10 ⟨rfl,hw10⟩
    obtain rfl:=hw10
    go_wp2_with fail
    refine(HA.out.doo _ _ pr 1 4 px 0 HP3.out).mono ?_
    rintro e w4 ⟨rfl,h2⟩
    have HP4:Hid (P s [(wr.heap.size,spO ⟨ok,or,oa,ob,oc⟩),(g,laO a b c d)] (tx2 O S pr px) w4):=h2
    clear f0 f1 f2 f3 f4
    clear h2 HP3
    have HP5:Hid (P s [(g,laO a b c d)] (tx2 O S pr px) w4):=HO.out _ _ HP4.out
    clear HP4
    go_wp2_with fail
    refine(HA1.out.com _ _ pr HP5.out).mono ?_
    rintro e w5 ⟨rfl,h5⟩
    have HP6:Hid (P s [(g,laO a b c d)] (O.com (tx2 O S pr px) pr).1 w5):=h5
    clear h5 HP5 HA HKZ HO HDO HFL HW
    generalize O.com (tx2 O S pr px) pr=cm at *
    obtain⟨S',m,ce⟩:=cm
    simp only at HP6 HTX ⊢
    have HQ4:=HN4.out
    have hrs:pr=0∨pr=1∨pr=2∨pr=3:=by have:=HR4.out;omega
    rcases (by obtain⟨r,hr⟩:=Int.eq_ofNat_of_zero_le HR4.out.1;exact(HTX.out r hr).elim (fun q=>Or.inl q.1) (fun q=>Or.inr q.1):ce=0∨ce ≠ 0) with hce | hce
    ·have HTY:Hid (∀r:Nat,pr=r-> [a,b,c,d].getD r 0<m∧W ([a,b,c,d].set r m) S'):=fun r hr=>(HTX.out r hr).elim (fun q=>q.2) (fun q=>absurd hce q.1)
     have hla:∀r<4,w5.cell? ⟨g,r,none⟩=some (I ([a,b,c,d].getD r 0)):=fun r hr=>zgo ((HR.out.apz s).kz _ _ _ HP6.out (g,laO a b c d) (by simp)) r hr
     have l0:=hla 0 (by omega)
     have l1:=hla 1 (by omega)
     have l2:=hla 2 (by omega)
     have l3:=hla 3 (by omega)
     have hbk:w5.heap[g]?=some (laO a b c d):=(HR.out.apz s).kz _ _ _ HP6.out (g,laO a b c d) (by simp)
     simp only [List.getD_cons_zero,List.getD_cons_succ] at l0 l1 l2 l3
     clear hla HTX
     subst hce
     rcases hrs with rfl | rfl | rfl | rfl
     ·obtain⟨t1,t2⟩:=HTY.out 0 rfl
      have HW':Hid (W [m,b,c,d] S'):=t2
      have t1:a<m:=t1
      have hcm:¬m<=a:=by omega
      have HP7:Hid (P s [(g,laO m b c d)] S' (w5.setCell ⟨g,0,none⟩ (I m))):=HR.out.put s S' g _ _ w5 _ HP6.out ((Tch.refl _ _).setCell ⟨g,0,none⟩ (I m) (Or.inl rfl)) (Blk.set (show Blk w5 g #[I a,I b,I c,I d] 27 from hbk) 0 (I m))
      have HV:Hid (Calls Tryz.prog 21 #[sV s,I n, .agg #[I m,I b,I c,I d]] (w5.setCell ⟨g,0,none⟩ (I m)) fun e w2=>e= .returned (.bool true)∧P s [(g,laO m b c d)] S' w2):=HR.out.halves HQ.out HN4.out.1 HW'.out HP7.out
      have hz:w5.frozen? ⟨g,0,none⟩=false:=Blk.frozen (show Blk w5 g #[I a,I b,I c,I d] 27 from hbk) 0
      obtain⟨q,hq⟩:∃q,IntKind.i64.wrap (a+1)=q:=⟨_,rfl⟩
      clear t1 t2 HTY HP6 HP7 hbk
      by_cases he:m=q
      all_goals
       first | subst he | skip
       go_wp2_with fail
       refine HV.out.mono ?_
       rintro e w8 ⟨rfl,h8⟩
       have H8:Hid _:=h8
       clear h8 HV
       go_wp2_with fail
       go_roundw
       case rel=>exact⟨k+1,S',_,_,_,_,hlt,by go_num,H8,HW'⟩
       case measure=>simp [intOf];omega
     ·obtain⟨t1,t2⟩:=HTY.out 1 rfl
      have HW':Hid (W [a,m,c,d] S'):=t2
      have t1:b<m:=t1
      have hcm:¬m<=b:=by omega
      have HP7:Hid (P s [(g,laO a m c d)] S' (w5.setCell ⟨g,1,none⟩ (I m))):=HR.out.put s S' g _ _ w5 _ HP6.out ((Tch.refl _ _).setCell ⟨g,1,none⟩ (I m) (Or.inl rfl)) (Blk.set (show Blk w5 g #[I a,I b,I c,I d] 27 from hbk) 1 (I m))
      have HV:Hid (Calls Tryz.prog 21 #[sV s,I n, .agg #[I a,I m,I c,I d]] (w5.setCell ⟨g,1,none⟩ (I m)) fun e w2=>e= .returned (.bool true)∧P s [(g,laO a m c d)] S' w2):=HR.out.halves HQ.out HN4.out.1 HW'.out HP7.out
      have hz:w5.frozen? ⟨g,1,none⟩=false:=Blk.frozen (show Blk w5 g #[I a,I b,I c,I d] 27 from hbk) 1
      obtain⟨q,hq⟩:∃q,IntKind.i64.wrap (b+1)=q:=⟨_,rfl⟩
      clear t1 t2 HTY HP6 HP7 hbk
      by_cases he:m=q
      all_goals
       first | subst he | skip
       go_wp2_with fail
       refine HV.out.mono ?_
       rintro e w8 ⟨rfl,h8⟩
       have H8:Hid _:=h8
       clear h8 HV
       go_wp2_with fail
       go_roundw
       case rel=>exact⟨k+1,S',_,_,_,_,hlt,by go_num,H8,HW'⟩
       case measure=>simp [intOf];omega
     ·obtain⟨t1,t2⟩:=HTY.out 2 rfl
      have HW':Hid (W [a,b,m,d] S'):=t2
      have t1:c<m:=t1
      have hcm:¬m<=c:=by omega
      have HP7:Hid (P s [(g,laO a b m d)] S' (w5.setCell ⟨g,2,none⟩ (I m))):=HR.out.put s S' g _ _ w5 _ HP6.out ((Tch.refl _ _).setCell ⟨g,2,none⟩ (I m) (Or.inl rfl)) (Blk.set (show Blk w5 g #[I a,I b,I c,I d] 27 from hbk) 2 (I m))
      have HV:Hid (Calls Tryz.prog 21 #[sV s,I n, .agg #[I a,I b,I m,I d]] (w5.setCell ⟨g,2,none⟩ (I m)) fun e w2=>e= .returned (.bool true)∧P s [(g,laO a b m d)] S' w2):=HR.out.halves HQ.out HN4.out.1 HW'.out HP7.out
      have hz:w5.frozen? ⟨g,2,none⟩=false:=Blk.frozen (show Blk w5 g #[I a,I b,I c,I d] 27 from hbk) 2
      obtain⟨q,hq⟩:∃q,IntKind.i64.wrap (c+1)=q:=⟨_,rfl⟩
      clear t1 t2 HTY HP6 HP7 hbk
      by_cases he:m=q
      all_goals
       first | subst he | skip
       go_wp2_with fail
       refine HV.out.mono ?_
       rintro e w8 ⟨rfl,h8⟩
       have H8:Hid _:=h8
       clear h8 HV
       go_wp2_with fail
       go_roundw
       case rel=>exact⟨k+1,S',_,_,_,_,hlt,by go_num,H8,HW'⟩
       case measure=>simp [intOf];omega
     ·obtain⟨t1,t2⟩:=HTY.out 3 rfl
      have HW':Hid (W [a,b,c,m] S'):=t2
      have t1:d<m:=t1
      have hcm:¬m<=d:=by omega
      have HP7:Hid (P s [(g,laO a b c m)] S' (w5.setCell ⟨g,3,none⟩ (I m))):=HR.out.put s S' g _ _ w5 _ HP6.out ((Tch.refl _ _).setCell ⟨g,3,none⟩ (I m) (Or.inl rfl)) (Blk.set (show Blk w5 g #[I a,I b,I c,I d] 27 from hbk) 3 (I m))
      have HV:Hid (Calls Tryz.prog 21 #[sV s,I n, .agg #[I a,I b,I c,I m]] (w5.setCell ⟨g,3,none⟩ (I m)) fun e w2=>e= .returned (.bool true)∧P s [(g,laO a b c m)] S' w2):=HR.out.halves HQ.out HN4.out.1 HW'.out HP7.out
      have hz:w5.frozen? ⟨g,3,none⟩=false:=Blk.frozen (show Blk w5 g #[I a,I b,I c,I d] 27 from hbk) 3
      obtain⟨q,hq⟩:∃q,IntKind.i64.wrap (d+1)=q:=⟨_,rfl⟩
      clear t1 t2 HTY HP6 HP7 hbk
      by_cases he:m=q
      all_goals
       first | subst he | skip
       go_wp2_with fail
       refine HV.out.mono ?_
       rintro e w8 ⟨rfl,h8⟩
       have H8:Hid _:=h8
       clear h8 HV
       go_wp2_with fail
       go_roundw
       case rel=>exact⟨k+1,S',_,_,_,_,hlt,by go_num,H8,HW'⟩
       case measure=>simp [intOf];omega
    ·have HW':Hid (W [a,b,c,d] S'):=by
      obtain⟨r,hr⟩:=Int.eq_ofNat_of_zero_le HR4.out.1
      exact(HTX.out r hr).elim (fun q=>absurd q.1 hce) (fun q=>q.2)
     have HV:Hid (Calls Tryz.prog 21 #[sV s,I n, .agg #[I a,I b,I c,I d]] w5 fun e w2=>e= .returned (.bool true)∧P s [(g,laO a b c d)] S' w2):=HR.out.halves HQ.out HN4.out.1 HW'.out HP6.out
     have hla:∀r<4,w5.cell? ⟨g,r,none⟩=some (I ([a,b,c,d].getD r 0)):=fun r hr=>zgo ((HR.out.apz s).kz _ _ _ HP6.out (g,laO a b c d) (by simp)) r hr
     have l0:=hla 0 (by omega)
     have l1:=hla 1 (by omega)
     have l2:=hla 2 (by omega)
     have l3:=hla 3 (by omega)
     simp only [List.getD_cons_zero,List.getD_cons_succ] at l0 l1 l2 l3
     clear hla HTX HP6
     go_wp2_with fail
     refine HV.out.mono ?_
     rintro e w8 ⟨rfl,h8⟩
     have H8:Hid (P s [(g,laO a b c d)] S' w8):=h8
     clear h8 HV
     go_wp2_with fail
     go_roundw
     case rel=>exact⟨k+1,S',a,b,c,d,hlt,by go_num,H8,HW'⟩
     case measure=>simp [intOf];omega
   ·have hk7':¬pk<=7:=hk7
    by_cases hk14:pk=14
    ·subst hk14
     go_wp2_with fail
     refine(HA.out.bgn S _ pr HP1.out).mono ?_
     rintro e w2 ⟨rfl,h2⟩
     have HP2:Hid (P s [(wr.heap.size,spO ⟨ok,or,oa,ob,oc⟩),(g,laO a b c d)] (O.bgn S pr).1 w2):=h2
     clear h2 HP1 c0 c1 c2 c3 c4
     go_wp2_with fail
     refine(HA.out.doo _ _ pr 1 0 7 0 HP2.out).mono ?_
     rintro e w3 ⟨rfl,h2⟩
     have HP3:Hid (P s [(wr.heap.size,spO ⟨ok,or,oa,ob,oc⟩),(g,laO a b c d)] ((O.doo (O.bgn S pr).1 pr 1 0 7 0).1) w3):=h2
     clear h2 HP2
     go_wp2_with fail
     refine(HA.out.doo _ _ pr 1 4 7 0 HP3.out).mono ?_
     rintro e w4 ⟨rfl,h2⟩
     have HP4:Hid (P s [(wr.heap.size,spO ⟨ok,or,oa,ob,oc⟩),(g,laO a b c d)] (tx2 O S pr 7) w4):=h2
     obtain⟨f0,f1,f2,f3,f4⟩:=HKZ.out _ _ h2
     clear h2 HP3
     go_wp2_with fail
     refine(HYD.out _).mono ?_
     rintro e w10 ⟨rfl,hw10⟩
     obtain rfl:=hw10
     go_wp2_with fail
     refine(HA.out.fal _ _ pr (py - 50) HP4.out).mono ?_
     rintro e w5 ⟨rfl,h2⟩
     have HP5:Hid (P s [(wr.heap.size,spO ⟨ok,or,oa,ob,oc⟩),(g,laO a b c d)] (O.fal (tx2 O S pr 7) pr (py - 50)).1 w5):=h2
     clear f0 f1 f2 f3 f4
     obtain⟨f0,f1,f2,f3,f4⟩:=HKZ.out _ _ h2
     clear h2 HP4
     go_wp2_with fail
     refine(HZD.out _).mono ?_
     rintro e w10 ⟨rfl,hw10⟩
     obtain rfl:=hw10
     go_wp2_with fail
     refine(HA.out.crs _ _ pr (pz - 50) HP5.out).mono ?_
     rintro e w7 ⟨rfl,h2⟩
     have HP6:Hid (P s [(g,laO a b c d)] (O.crs (O.fal (tx2 O S pr 7) pr (py - 50)).1 pr (pz - 50)).1 w7):=HO.out _ _ h2
     have HWX:Hid (W [a,b,c,d] (O.crs (O.fal (tx2 O S pr 7) pr (py - 50)).1 pr (pz - 50)).1):=HFL.out _ _
     clear h2 HP5 f0 f1 f2 f3 f4 HA HKZ HO HDO HFL HTX HW
     generalize (O.crs (O.fal (tx2 O S pr 7) pr (py - 50)).1 pr (pz - 50))=CR at *
     obtain⟨S',ce⟩:=CR
     simp only at HP6 HWX ⊢
     have HW':Hid (W [a,b,c,d] S'):=HWX
     have HV:Hid (Calls Tryz.prog 21 #[sV s,I n, .agg #[I a,I b,I c,I d]] w7 fun e w2=>e= .returned (.bool true)∧P s [(g,laO a b c d)] S' w2):=HR.out.halves HQ.out HN4.out.1 HW'.out HP6.out
     have hla:∀r<4,w7.cell? ⟨g,r,none⟩=some (I ([a,b,c,d].getD r 0)):=fun r hr=>zgo ((HR.out.apz s).kz _ _ _ HP6.out (g,laO a b c d) (by simp)) r hr
     have l0:=hla 0 (by omega)
     have l1:=hla 1 (by omega)
     have l2:=hla 2 (by omega)
     have l3:=hla 3 (by omega)
     simp only [List.getD_cons_zero,List.getD_cons_succ] at l0 l1 l2 l3
     clear hla HP6 HWX
     go_wp2_with fail
     refine HV.out.mono ?_
     rintro e w8 ⟨rfl,h8⟩
     have H8:Hid (P s [(g,laO a b c d)] S' w8):=h8
     clear h8 HV
     go_wp2_with fail
     go_roundw
     case rel=>exact⟨k+1,S',a,b,c,d,hlt,by go_num,H8,HW'⟩
     case measure=>simp [intOf];omega
    ·have hk8:8<=pk:=by omega
     have HWX0:Hid (W [a,b,c,d] (doesX O n S ⟨ok,or,oa,ob,oc⟩).1):=HDO.out hk8 hk14
     have HDS:Hid (Calls Tryz.prog 9 #[sV s,I n, .agg #[I ok,I or,I oa,I ob,I oc]] (wr.alloc (spO ⟨ok,or,oa,ob,oc⟩)) fun e w'=>e= .returned (I (doesX O n S ⟨ok,or,oa,ob,oc⟩).2)∧P s [(wr.heap.size,spO ⟨ok,or,oa,ob,oc⟩),(g,laO a b c d)] (doesX O n S ⟨ok,or,oa,ob,oc⟩).1 w'):=zyk (HR.out.apz s) ⟨ok,or,oa,ob,oc⟩ HSO.out ⟨by have:=HN4.out;omega,HN4.out.1⟩ _ HP1.out
     clear hk8 HDO HFL HTX HW HP1 HA HKZ
     generalize doesX O n S ⟨ok,or,oa,ob,oc⟩=CR at *
     obtain⟨S',ce⟩:=CR
     simp only at HWX0 HDS
     go_wp2_with fail
     refine HDS.out.mono ?_
     rintro e w7 ⟨rfl,h2⟩
     have HP6:Hid (P s [(g,laO a b c d)] S' w7):=HO.out _ _ h2
     have HWX:Hid (W [a,b,c,d] S'):=HWX0
     clear h2 HDS HWX0 HO c0 c1 c2 c3 c4
     have HW':Hid (W [a,b,c,d] S'):=HWX
     have HV:Hid (Calls Tryz.prog 21 #[sV s,I n, .agg #[I a,I b,I c,I d]] w7 fun e w2=>e= .returned (.bool true)∧P s [(g,laO a b c d)] S' w2):=HR.out.halves HQ.out HN4.out.1 HW'.out HP6.out
     have hla:∀r<4,w7.cell? ⟨g,r,none⟩=some (I ([a,b,c,d].getD r 0)):=fun r hr=>zgo ((HR.out.apz s).kz _ _ _ HP6.out (g,laO a b c d) (by simp)) r hr
     have l0:=hla 0 (by omega)
     have l1:=hla 1 (by omega)
     have l2:=hla 2 (by omega)
     have l3:=hla 3 (by omega)
     simp only [List.getD_cons_zero,List.getD_cons_succ] at l0 l1 l2 l3
     clear hla HP6 HWX
     go_wp2_with fail
     refine HV.out.mono ?_
     rintro e w8 ⟨rfl,h8⟩
     have H8:Hid (P s [(g,laO a b c d)] S' w8):=h8
     clear h8 HV
     go_wp2_with fail
     go_roundw
     case rel=>exact⟨k+1,S',a,b,c,d,hlt,by go_num,H8,HW'⟩
     case measure=>simp [intOf];omega
  ·have hki:¬(k:Int)<raws.length:=by omega
   go_wp2
   go_ret
   exact⟨rfl,HR.out.bel _ _ _ _ HS.out⟩
end
end Go.Proofs.YtfmcngncaffloabGreatDoor
