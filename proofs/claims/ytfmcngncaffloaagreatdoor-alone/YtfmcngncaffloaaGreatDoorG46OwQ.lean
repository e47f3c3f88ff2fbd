import Derived.Test.YtfmcngncaffloaaGreatDoorG45QsE
import Derived.Test.YtfmcngncaffloaaGreatDoorG41GaD
import Derived.Test.YtfmcngncaffloaaGreatDoorG42GaC
set_option maxHeartbeats 1600000
namespace Go.Proofs.YtfmcngncaffloaaGreatDoor
open Go.RowKit
set_option maxRecDepth 100000
abbrev opn (R:Rp) (es:List Wv.Ef):Rp:={R with st:=1,effs:=es}
structure Rest(R:Rp):Prop where
 ok:Rok R
 n0:0<=R.n
 n1:R.n<R.clock.length
structure Md where
 sums:List Int
 sets:List (List Bool)
 regs:List Int
 lists:List (List Int)
def ObRel(r s i:Int)(m:Md)(k:Nat):Ob->Prop
 | .counter n=>k % 4=0∧n=m.sums.getD (k / 4) 0
 | .set l=>k % 4=1∧LvO r s i l∧SetRel l (m.sets.getD (k / 4) [])
 | .reg l=>k % 4=2∧LvO r s i l∧((0<=m.regs.getD (k / 4) 0∧∃d,l= [(d,m.regs.getD (k / 4) 0)])∨(m.regs.getD (k / 4) 0<0∧l= []))
 | .list l=>k % 4=3∧LsO r s i l∧(stands l).map El.v=m.lists.getD (k / 4) []
def kOf(op:Int):Nat:=(Wv.rKind op).toNat
structure MdOk(m:Md):Prop where
 sums:m.sums.length=2
 sets:m.sets.length=2
 sets0:∀l∈m.sets,l.length=256
 regs:m.regs.length=2
 lists:m.lists.length=2
structure Can(m:Md)(op:Int)(ix:Nat)(a b:Int):Prop where
 op1:1<=op
 op6:op<=6
 lt2:ix<2
 add:op=1-> -1000<=a∧a<=1000
 val:op=2∨op=3∨op=4->0<=a∧a<=255
 put:op=5->0<=a∧a<=(m.lists.getD ix []).length∧0<=b∧b<=255
 era:op=6->0<=a∧a<(m.lists.getD ix []).length
 b0:op ≠ 5->b=0
theorem zns{α:Type}(l:List α)(i j:Nat)(x d:α)(h:i ≠ j):(l.set i x).getD j d=l.getD j d:=by
 rw [List.getD_eq_getElem?_getD,List.getD_eq_getElem?_getD,List.getElem?_set_ne h]
theorem znt{α:Type}(l:List α)(i:Nat)(x d:α)(h:i<l.length):(l.set i x).getD i d=x:=by
 rw [List.getD_eq_getElem?_getD,List.getElem?_set_self h]
 rfl
structure Bq(b:Wv.Bt)(r s:Int):Prop where
 o:b.o=r
 sq:b.s=s
 r0:0<=r
 r1:r<b.clock.length
 c:b.clock.getD r.toNat 0=s - 1
theorem Bq.cov{b:Wv.Bt}{r s i:Int}{d:Wv.Dt}(h:Bq b r s)(hd:Old r s i d):Wv.cov b d i=true:=by
 have h1:=hd.o;have h2:=hd.s1;have h3:=hd.i0;have h4:=hd.i5;have h5:=hd.lt
 have k1:=h.o;have k2:=h.sq;have k3:=h.r0;have k4:=h.r1;have k5:=h.c
 unfold Wv.cov Wv.inD
 rw [h1]
 simp only [Bool.and_eq_true,Bool.or_eq_true,decide_eq_true_eq,beq_iff_eq]
 rw [k5]
 omega
theorem zy7{b:Wv.Bt}{r s i:Int}{ds:List Wv.Dt}(h:Bq b r s)(hr:Rise ds)(ho:∀d∈ds,Old r s i d):Wv.dotsOk b i ds=true:=by
 have:∀n,n<=ds.length->Wv.dotsTo b i ds n=true:=by
  intro n
  induction n with
  | zero=>intro _;rfl
  | succ k ih=>
   intro hk
   rw [Wv.dotsTo,ih (by omega),Bool.true_and]
   unfold Wv.dOk
   have hk':k<ds.length:=by omega
   have e:ds.getD k ⟨0,0,0⟩=ds[k]:=by simp [hk']
   rw [e,h.cov (ho _ (List.getElem_mem hk')),Bool.and_true]
   rcases k with _ | k
   ·rfl
   ·have e2:ds.getD (k+1 - 1) ⟨0,0,0⟩=ds[k]:=by simp [show k<ds.length by omega]
    rw [e2,List.pairwise_iff_getElem.1 hr k (k+1) (by omega) hk' (by omega)]
    simp
 exact this _ (Nat.le_refl _)
theorem eff_ok{b:Wv.Bt}{r s i:Int}(h:Bq b r s)(op:Int)(ix:Nat)(va:Int)(ref:Wv.Dt)(ds:List Wv.Dt)(h1:1<=op)(h6:op<=6)(hix:ix<2)(hva:Wv.rLeast op<=va∧va<=Wv.rGreat op)(hrf:(ref=⟨0,0,0⟩∧Wv.rRef op ≠ 2)∨(Old r s i ref∧Wv.rRef op ≠ 0))(hd1:Wv.rLeastD op<=ds.length)(hd2:(ds.length:Int)<=Wv.rMostD op)(hr:Rise ds)(ho:∀d∈ds,Old r s i d):Wv.effOk b i ⟨op,((4*ix+kOf op:Nat):Int),va,ref,ds⟩=true:=by
 have hop:op=1∨op=2∨op=3∨op=4∨op=5∨op=6:=by omega
 have hk:(kOf op:Int)=Wv.rKind op∧kOf op<4:=by rcases hop with rfl | rfl | rfl | rfl | rfl | rfl<;>exact⟨rfl,of_decide_eq_true rfl⟩
 unfold Wv.effOk Wv.isOp
 simp only [Bool.and_eq_true,decide_eq_true_eq,beq_iff_eq]
 refine⟨⟨⟨⟨⟨⟨h1,h6⟩,⟨by omega,by omega⟩,by omega⟩,hva⟩, ?_⟩,hd1,hd2⟩,zy7 h hr ho⟩
 unfold Wv.refOk
 rcases hrf with⟨rfl,hu⟩ | ⟨hold,hu⟩
 ·rw [if_pos (show Wv.noneD ⟨0,0,0⟩=true from rfl)]
  simp [hu]
 ·have hn:Wv.noneD ref=false:=by
   unfold Wv.noneD
   have:=hold.s1
   simp only [Bool.and_eq_false_iff,beq_eq_false_iff_ne]
   omega
  rw [hn,h.cov hold]
  simp [hu]
structure MkO(r s i:Int)(k:Mk):Prop where
 d:Old r s i k.d
 t:k.t=k.d.s
 dots:∀d∈k.m.e.dots,Old r s i d
 ref:k.m.e.ref=⟨0,0,0⟩∨Old r s i k.m.e.ref
theorem MkO.mono{r s i s' i':Int}{k:Mk}(h:MkO r s i k)(hs:s<s'∨s=s'∧i<=i'):MkO r s' i' k:=⟨h.d.mono hs,h.t,fun d hd=>(h.dots d hd).mono hs,h.ref.imp id (fun q=>q.mono hs)⟩
theorem MkO.later{r s i:Int}{k:Mk}(h:MkO r s i k)(m:Em):zam ⟨m,⟨r,s,i⟩,s⟩ k=true:=by
 have h1:=h.d.o;have h2:=h.d.lt;have h3:=h.t
 unfold zam
 split
 ·rename_i e
  have e:s=k.t:=e
  split
  ·rename_i e2
   show decide (k.d.i<i)=true
   exact decide_eq_true (by omega)
  ·rename_i e2
   exact absurd (show r=k.d.o by omega) e2
 ·rename_i e
  have e:¬s=k.t:=e
  show decide (k.t<s)=true
  exact decide_eq_true (by omega)
structure AnsO(r s i:Int)(ks:List Mk)(op:Int)(a:Sya):Prop where
 dots:∀d∈a.ds,Old r s i d
 rise:Rise a.ds
 ref:(a.ref=⟨0,0,0⟩∧Wv.rRef op ≠ 2)∨(Old r s i a.ref∧Wv.rRef op ≠ 0∧∃p∈ks,p.m.e.op=5∧p.d=a.ref)
 val:Wv.rLeast op<=a.va∧a.va<=Wv.rGreat op
 none:op=6->a.ds= []
theorem zec:Rise []:=List.Pairwise.nil
theorem zzl{r s i:Int}{ks:List Mk}{o:Ob}{op:Int}(h:OV ks o)(hk:Mks ks)(ho:∀k∈ks,MkO r s i k)(h1:1<=op)(h6:op<=6)(hkd:(o.kind:Int)=Wv.rKind op)(x y:Int)(he:(o.answer op x y).err=0):AnsO r s i ks op (o.answer op x y):=by
 have hop:op=1∨op=2∨op=3∨op=4∨op=5∨op=6:=by omega
 have hval:∀z:Int,valE z=0->0<=z∧z<=255:=by
  intro z hz
  unfold valE at hz
  split at hz
  ·cases hz
  ·omega
 cases o with
 | counter n=>
  have hq:op=1:=by
   rcases hop with rfl | rfl | rfl | rfl | rfl | rfl<;>first | rfl | exact absurd hkd (of_decide_eq_true rfl)
  subst hq
  have he:(addE x).2=0:=he
  have hv:(addE x).1=x∧ -1000<=x∧x<=1000:=by
   unfold addE at he ⊢
   split at he
   ·cases he
   ·rename_i hn
    rw [if_neg hn]
    exact⟨rfl,by omega,by omega⟩
  refine⟨fun d hd=>(by cases hd),zec, .inl ⟨rfl,of_decide_eq_true rfl⟩, ?_,fun e=>by omega⟩
  show Wv.rLeast 1<=(addE x).1∧(addE x).1<=Wv.rGreat 1
  rw [hv.1]
  exact hv.2
 | set m=>
  have hq:op=2∨op=3:=by
   rcases hop with rfl | rfl | rfl | rfl | rfl | rfl<;>first | exact .inl rfl | exact .inr rfl | exact absurd hkd (of_decide_eq_true rfl)
  have h:LvV ks 2 3 m:=h
  have he:(setE m op x).2.2=0:=he
  have hv:valE x=0:=by
   unfold setE at he
   by_cases hz:valE x=0
   ·exact hz
   ·rw [if_pos hz] at he
    exact he
  have e1:setE m op x=if op=3 then(0,remD m x,0) else(x, [],0):=by unfold setE;rw [if_neg (by rw [hv];exact fun q=>q rfl)]
  have hx:=hval x hv
  rcases hq with rfl | rfl
  ·rw [if_neg (by omega)] at e1
   have e2:Ob.answer (.set m) 2 x y=⟨x,⟨0,0,0⟩, [],0⟩:=by show(⟨(setE m 2 x).1,_,(setE m 2 x).2.1,(setE m 2 x).2.2⟩:Sya)=_;rw [e1]
   rw [e2]
   exact⟨fun d hd=>(by cases hd),zec, .inl ⟨rfl,of_decide_eq_true rfl⟩,hx,fun e=>by omega⟩
  ·rw [if_pos rfl] at e1
   have e2:Ob.answer (.set m) 3 x y=⟨0,⟨0,0,0⟩,remD m x,0⟩:=by show(⟨(setE m 3 x).1,_,(setE m 3 x).2.1,(setE m 3 x).2.2⟩:Sya)=_;rw [e1]
   rw [e2]
   refine⟨fun d hd=> ?_,zkk h.1 x, .inl ⟨rfl,of_decide_eq_true rfl⟩,⟨of_decide_eq_true rfl,of_decide_eq_true rfl⟩,fun e=>by omega⟩
   obtain⟨k,hk1,_,_,rfl,_⟩:=(h.2 _ _).1 ((zmy h.1 x d).1 hd)
   exact(ho k hk1).d
 | reg m=>
  have hq:op=4:=by
   rcases hop with rfl | rfl | rfl | rfl | rfl | rfl<;>first | rfl | exact absurd hkd (of_decide_eq_true rfl)
  subst hq
  have h:LvV ks 4 4 m:=h
  have he:(regE m x).2.2=0:=he
  have hv:valE x=0:=by
   unfold regE at he
   by_cases hz:valE x=0
   ·exact hz
   ·rw [if_pos hz] at he
    exact he
  have e1:regE m x=(x,sortD (m.map (·.1)),0):=by unfold regE;rw [if_neg (by rw [hv];exact fun q=>q rfl)]
  have e2:Ob.answer (.reg m) 4 x y=⟨x,⟨0,0,0⟩,sortD (m.map (·.1)),0⟩:=by show(⟨(regE m x).1,_,(regE m x).2.1,(regE m x).2.2⟩:Sya)=_;rw [e1]
  rw [e2]
  refine⟨fun d hd=> ?_,zf4 h.1, .inl ⟨rfl,of_decide_eq_true rfl⟩,hval x hv,fun e=>by omega⟩
  have hd:d∈sortD (m.map (·.1)):=hd
  rw [h.keys hk] at hd
  obtain⟨k,hk1,rfl⟩:=List.mem_map.1 hd
  exact(ho k ((zee ks 4 4 k).1 hk1).1).d
 | list ls=>
  have hel:∀(j:Nat) (hj:j<(stands ls).length),∃p∈ks,p.m.e.op=5∧p.d=(stands ls)[j].s.d:=by
   intro j hj
   have hm:(stands ls)[j]∈(zau ks).map (elK ks):=by rw [←h.stands];exact List.getElem_mem hj
   obtain⟨p,hp,e⟩:=List.mem_map.1 hm
   have hpt:p∈treeT ks ⟨0,0,0⟩:=(List.mem_filter.1 hp).1
   obtain⟨q1,q2⟩:=zcb hk _ p hpt
   exact⟨p,q1,q2,by rw [←e];rfl⟩
  have hq:op=5∨op=6:=by
   rcases hop with rfl | rfl | rfl | rfl | rfl | rfl<;>first | exact .inl rfl | exact .inr rfl | exact absurd hkd (of_decide_eq_true rfl)
  have he:(listE ls op x y).2.2=0:=he
  rcases hq with rfl | rfl
  ·unfold listE at he
   rw [if_neg (by omega)] at he
   have hv:valE y=0:=by
    by_cases hz:valE y=0
    ·exact hz
    ·rw [if_pos hz] at he
     exact he
   rw [if_neg (by rw [hv];exact fun q=>q rfl)] at he
   have e1:listE ls 5 x y=putA ls x y:=by unfold listE;rw [if_neg (by omega),if_neg (by rw [hv];exact fun q=>q rfl)]
   have e2:Ob.answer (.list ls) 5 x y=⟨(putA ls x y).1,(putA ls x y).2.1, [],(putA ls x y).2.2⟩:=by show(⟨(listE ls 5 x y).1,(listE ls 5 x y).2.1, [],(listE ls 5 x y).2.2⟩:Sya)=_;rw [e1]
   rw [e2]
   unfold putA at he ⊢
   by_cases h0:x=0
   ·rw [if_pos h0]
    exact⟨fun d hd=>(by cases hd),zec, .inl ⟨rfl,of_decide_eq_true rfl⟩,hval y hv,fun e=>by omega⟩
   ·rw [if_neg h0] at he ⊢
    by_cases hj:0<x∧(x - 1).toNat<(stands ls).length
    ·rw [dif_pos hj]
     obtain⟨p,hp,q1,q2⟩:=hel _ hj.2
     exact⟨fun d hd=>(by cases hd),zec, .inr ⟨by show Old r s i (stands ls)[(x - 1).toNat].s.d;rw [←q2];exact(ho p hp).d,of_decide_eq_true rfl,p,hp,q1,q2⟩,hval y hv,fun e=>by omega⟩
    ·rw [dif_neg hj] at he
     cases he
  ·have e1:listE ls 6 x y=(0,(zbc ls x).1,(zbc ls x).2):=by unfold listE;rw [if_pos rfl]
   have e2:Ob.answer (.list ls) 6 x y=⟨0,(zbc ls x).1, [],(zbc ls x).2⟩:=by show(⟨(listE ls 6 x y).1,(listE ls 6 x y).2.1, [],(listE ls 6 x y).2.2⟩:Sya)=_;rw [e1]
   rw [e2]
   rw [e1] at he
   have he:(zbc ls x).2=0:=he
   unfold zbc at he ⊢
   by_cases hj:0<=x∧x.toNat<(stands ls).length
   ·rw [dif_pos hj]
    obtain⟨p,hp,q1,q2⟩:=hel _ hj.2
    exact⟨fun d hd=>(by cases hd),zec, .inr ⟨by show Old r s i (stands ls)[x.toNat].s.d;rw [←q2];exact(ho p hp).d,of_decide_eq_true rfl,p,hp,q1,q2⟩,⟨of_decide_eq_true rfl,of_decide_eq_true rfl⟩,fun _=>rfl⟩
   ·rw [dif_neg hj] at he
    cases he
theorem ans_fr{r s i:Int}{ks:List Mk}{op:Int}{a:Sya}(h:AnsO r s i ks op a)(ho:∀k∈ks,MkO r s i k)(hs1:1<=s)(m:Em)(k:Int)(hm:m.e=syE op k a):Fr ks ⟨m,⟨r,s,i⟩,s⟩:=by
 have e1:m.e.op=op:=by rw [hm];rfl
 have e2:m.e.ref=a.ref:=by rw [hm];rfl
 have e3:m.e.dots=a.ds:=by rw [hm];rfl
 have e4:m.e.va=a.va:=by rw [hm];rfl
 have hz:(⟨0,0,0⟩:Wv.Dt)≠⟨r,s,i⟩:=by
  intro e
  have:=congrArg Wv.Dt.s e
  have:(0:Int)=s:=this
  omega
 refine⟨fun e=>hz e.symm,fun k hk=>(ho k hk).d.ne,fun k hk=>⟨fun q=>((ho k hk).dots _ q).ne rfl, ?_⟩,⟨?_, ?_⟩, ?_,fun k hk=> .inl ((ho k hk).later m), ?_, ?_⟩
 ·rcases (ho k hk).ref with q | q
  ·rw [q];exact hz
  ·exact q.ne
 ·show(⟨r,s,i⟩:Wv.Dt)∉m.e.dots
  rw [e3]
  exact fun q=>(h.dots _ q).ne rfl
 ·show m.e.ref ≠⟨r,s,i⟩
  rw [e2]
  rcases h.ref with⟨q,_⟩ | ⟨q,_⟩
  ·rw [q];exact hz
  ·exact q.ne
 ·intro _
  show m.e.ref=_∨∃p∈ks,p.m.e.op=5∧p.d=m.e.ref∧_
  rw [e2]
  rcases h.ref with⟨q,_⟩ | ⟨_,_,p,hp,q1,q2⟩
  ·exact .inl q
  ·exact .inr ⟨p,hp,q1,q2,(ho p hp).later m⟩
 ·intro q
  show m.e.dots= []
  rw [e3]
  exact h.none (e1.symm.trans q)
 ·intro q
  have q:m.e.op=2:=q
  show 0<=m.e.va∧m.e.va<=255
  rw [e4]
  have hv:=h.val
  rw [e1] at q
  rw [q] at hv
  exact hv
theorem ans_mk{r s i:Int}{ks:List Mk}{op:Int}{a:Sya}(h:AnsO r s i ks op a)(hs1:1<=s)(h0:0<=i)(h5:i<5)(m:Em)(k:Int)(hm:m.e=syE op k a):MkO r s (i+1) ⟨m,⟨r,s,i⟩,s⟩:=by
 have e2:m.e.ref=a.ref:=by rw [hm];rfl
 have e3:m.e.dots=a.ds:=by rw [hm];rfl
 refine⟨Old.self hs1 h0 h5,rfl,fun d hd=> ?_, ?_⟩
 ·have hd:d∈m.e.dots:=hd
  rw [e3] at hd
  exact(h.dots d hd).next
 ·show m.e.ref=_∨Old r s (i+1) m.e.ref
  rw [e2]
  rcases h.ref with⟨q,_⟩ | ⟨q,_⟩
  ·exact .inl q
  ·exact .inr q.next
theorem zzm{b:Wv.Bt}{r s i:Int}{ks:List Mk}{op:Int}{a:Sya}(h:AnsO r s i ks op a)(hb:Bq b r s)(h1:1<=op)(h6:op<=6)(k:Nat)(hk8:k<8)(hkd:(k:Int) % 4=Wv.rKind op)(hd1:¬(a.ds.length:Int)<Wv.rLeastD op)(hd2:¬(a.ds.length:Int)>Wv.rMostD op):Wv.effOk b i (syE op k a)=true:=by
 have hop:op=1∨op=2∨op=3∨op=4∨op=5∨op=6:=by omega
 have hko:(kOf op:Int)=Wv.rKind op∧kOf op<4:=by rcases hop with rfl | rfl | rfl | rfl | rfl | rfl<;>exact⟨rfl,of_decide_eq_true rfl⟩
 have e:k=4*(k / 4)+kOf op:=by omega
 have hx:=eff_ok hb op (k / 4) a.va a.ref a.ds h1 h6 (by omega) h.val (h.ref.imp (fun q=>q) (fun q=>⟨q.1,q.2.1⟩)) (by omega) (by omega) h.rise h.dots
 rw [←e] at hx
 exact hx
theorem zrm{b b':Wv.Bt}(ho:b'.o=b.o)(hs:b'.s=b.s)(ht:b'.t=b.t){k:Int}{o:Ob}:∀n,(∀j,j<n->b'.effs[j]?=b.effs[j]?)->seeTo b' k o n=seeTo b k o n
 | 0,_=>rfl
 | n+1,h=>by
  have ih:=zrm ho hs ht (k:=k) (o:=o) n (fun j hj=>h j (by omega))
  rw [seeTo,seeTo,h n (by omega),ih]
  have e:zbg b' n=zbg b n:=by unfold zbg;rw [ho,hs,ht]
  rw [e]
theorem zvo{R R':Rp}{e:Wv.Ef}(hn:R'.n=R.n)(hc:R'.clock=R.clock)(ht:R'.time=R.time)(he:R'.effs=R.effs++ [e])(k:Int)(o:Ob):
  seeTo (pendB R') k o R'.effs.length=if e.ob=k then(seeTo (pendB R) k o R.effs.length).take (zbg (pendB R) R.effs.length) e else seeTo (pendB R) k o R.effs.length:=by
 have hl:R'.effs.length=R.effs.length+1:=by rw [he];simp
 have h1:(pendB R').o=(pendB R).o:=hn
 have h2:(pendB R').s=(pendB R).s:=by show R'.clock.getD R'.n.toNat 0+1=_;rw [hn,hc];rfl
 have h3:(pendB R').t=(pendB R).t:=by show R'.time+1=_;rw [ht];rfl
 have h4:(pendB R').effs[R.effs.length]?=some e:=by show R'.effs[R.effs.length]?=_;rw [he];simp
 have h5:=zrm h1 h2 h3 (k:=k) (o:=o) R.effs.length (fun j hj=>by show R'.effs[j]?=R.effs[j]?;rw [he,List.getElem?_append_left hj])
 have h6:zbg (pendB R') R.effs.length=zbg (pendB R) R.effs.length:=by unfold zbg;rw [h1,h2,h3]
 rw [hl,seeTo,h4]
 simp only [h5,h6]
theorem zrv{b:Wv.Bt}{obs:List Ob}(hob:∀e∈b.effs,0<=e.ob)(k:Nat)(o:Ob)(hk:obs[k]?=some o):∀n,(obsTo b obs n)[k]?=some (seeTo b k o n)
 | 0=>hk
 | n+1=>by
  have ih:=zrv hob k o hk n
  rw [obsTo,seeTo]
  cases he:b.effs[n]? with
  | none=>exact ih
  | some e=>
   have h0:=hob e (List.mem_of_getElem? he)
   simp only
   unfold zek
   by_cases hq:e.ob=k
   ·have hq':e.ob.toNat=k:=by omega
    rw [if_pos hq,hq',ih]
    simp only
    rw [List.getElem?_set_self (List.getElem?_eq_some_iff.1 ih).1]
   ·rw [if_neg hq]
    split
    ·exact ih
    ·rw [List.getElem?_set_ne (by omega)];exact ih
theorem zr5{b b':Wv.Bt}(ho:b'.o=b.o)(hs:b'.s=b.s)(hc:b'.clock=b.clock)(d:Wv.Dt)(i:Int):Wv.cov b' d i=Wv.cov b d i:=by
 unfold Wv.cov Wv.inD
 rw [ho,hs,hc]
theorem zjb{b b':Wv.Bt}(ho:b'.o=b.o)(hs:b'.s=b.s)(hc:b'.clock=b.clock)(i:Int)(ds:List Wv.Dt):∀n,Wv.dotsTo b' i ds n=Wv.dotsTo b i ds n
 | 0=>rfl
 | n+1=>by
  rw [Wv.dotsTo,Wv.dotsTo,zjb ho hs hc i ds n]
  unfold Wv.dOk
  rw [zr5 ho hs hc]
theorem zk7{b b':Wv.Bt}(ho:b'.o=b.o)(hs:b'.s=b.s)(hc:b'.clock=b.clock)(i:Int)(e:Wv.Ef):Wv.effOk b' i e=Wv.effOk b i e:=by
 unfold Wv.effOk Wv.refOk Wv.dotsOk
 rw [zr5 ho hs hc,zjb ho hs hc]
def owClk(n r seq:Nat):List Int:=(List.replicate n 0).set r (seq:Int)
theorem zfp(n r seq:Nat):(owClk n r seq).length=n:=by simp [owClk]
theorem zdk(n r seq:Nat)(h:r<n):(owClk n r seq).getD r 0=seq:=znt _ _ _ _ (by simpa using h)
theorem zm5(n r seq k:Nat)(h:r ≠ k):(owClk n r seq).getD k 0=0:=by
 unfold owClk
 rw [zns _ _ _ _ _ h,List.getD_eq_getElem?_getD,List.getElem?_replicate]
 split<;>rfl
theorem zko(n r seq seq':Nat):(owClk n r seq).set r (seq':Int)=owClk n r seq':=by unfold owClk;rw [List.set_set]
theorem zkn:∀(n r seq:Nat),r<n->sumN (owClk n r seq)=seq
 | n+1,0,seq,_=>by
  show sumN ((seq:Int)::List.replicate n 0)=seq
  have:∀n,sumN (List.replicate n 0)=0:=fun n=>by induction n with | zero=>rfl | succ n ih=>rw [List.replicate_succ];show(0:Int).toNat+_=0;rw [ih];rfl
  show(seq:Int).toNat+sumN (List.replicate n 0)=seq
  rw [this]
  omega
 | n+1,r+1,seq,h=>by
  have ih:=zkn n r seq (by omega)
  show sumN (0::(List.replicate n 0).set r (seq:Int))=seq
  show(0:Int).toNat+sumN (owClk n r seq)=seq
  rw [ih]
  simp
structure OwR(n r seq:Nat)(R:Rp)(now done:Md):Prop where
 n2:2<=n
 n4:n<=4
 rlt:r<n
 num:R.n=r
 clk:R.clock=owClk n r seq
 time:R.time=seq
 ok:Rok R
 el:R.effs.length<=4
 eff:∀j (h:j<R.effs.length),Wv.effOk (pendB R) j R.effs[j]=true
 obs:∀k,k<8->∃o,R.obs[k]?=some o∧ObRel r (seq+1) 0 done k o∧ObRel r (seq+1) R.effs.length now k (seeTo (pendB R) k o R.effs.length)
 now:MdOk now
 done:MdOk done
section
variable {n r seq : Nat} {R : Rp} {now done : Md}
theorem zi9{b:Wv.Bt}{i:Int}{e:Wv.Ef}(h:Wv.effOk b i e=true):1<=e.op∧e.op<=6∧0<=e.ob∧e.ob<=7∧ -1000<=e.va∧e.va<=1000∧(e.dots.length:Int)<=150:=by
 unfold Wv.effOk Wv.isOp at h
 simp only [Bool.and_eq_true,decide_eq_true_eq] at h
 obtain⟨⟨⟨⟨⟨⟨h1,h2⟩,⟨⟨h3,h4⟩,_⟩⟩,h5,h6⟩,_⟩,h7,h8⟩,_⟩:=h
 have hop:e.op=1∨e.op=2∨e.op=3∨e.op=4∨e.op=5∨e.op=6:=by omega
 refine⟨h1,h2,h3,h4, ?_, ?_, ?_⟩
 ·rcases hop with q | q | q | q | q | q<;>(rw [q] at h5;exact Int.le_trans (of_decide_eq_true rfl) h5)
 ·rcases hop with q | q | q | q | q | q<;>(rw [q] at h6;exact Int.le_trans h6 (of_decide_eq_true rfl))
 ·rcases hop with q | q | q | q | q | q<;>(rw [q] at h8;exact Int.le_trans h8 (of_decide_eq_true rfl))
end
def esU(r s k:Int)(p:Em×Nat):Option Mk:=if p.1.e.ob=k then some ⟨p.1,⟨r,s,p.2⟩,s⟩ else none
def esK(r s k:Int)(es:List Em):List Mk:=es.zipIdx.filterMap (esU r s k)
theorem zxo(r s k:Int)(es:List Em)(m:Em):esK r s k (es++ [m])=esK r s k es++(if m.e.ob=k then [⟨m,⟨r,s,es.length⟩,s⟩] else []):=by
 unfold esK
 rw [List.zipIdx_append,List.filterMap_append]
 congr 1
 simp only [List.zipIdx_cons,List.zipIdx_nil,List.filterMap_cons,List.filterMap_nil]
 unfold esU
 by_cases h:m.e.ob=k<;>simp [h]
def dmK(x:Rr)(r:Nat)(k:Int):List Mk:=za3 x.bs k++esK r (x.bs.length+1) k x.es
theorem zhm(bs:List Bm)(b:Bm)(k:Int):za3 (bs++ [b]) k=za3 bs k++zcx k b:=by
 unfold za3
 rw [List.flatMap_append]
 simp
structure BsO(r:Nat)(bs:List Bm):Prop where
 o:∀j (h:j<bs.length),bs[j].b.o=r
 s:∀j (h:j<bs.length),bs[j].b.s=j+1
 t:∀j (h:j<bs.length),bs[j].b.t=j+1
 m:∀j (h:j<bs.length),bs[j].ms.length<=5
 v:∀b∈bs,∀m∈b.ms,m.e.dots.length<=1000∧ -1000<=m.e.va∧m.e.va<=1000
theorem BsO.nil(r:Nat):BsO r []:=⟨fun j h=>(by cases h),fun j h=>(by cases h),fun j h=>(by cases h),fun j h=>(by cases h),fun b h=>(by cases h)⟩
theorem BsO.snoc{r:Nat}{bs:List Bm}{b:Bm}(h:BsO r bs)(h1:b.b.o=r)(h2:b.b.s=bs.length+1)(h3:b.b.t=bs.length+1)(h4:b.ms.length<=5)(h5:∀m∈b.ms,m.e.dots.length<=1000∧ -1000<=m.e.va∧m.e.va<=1000):BsO r (bs++ [b]):=by
 have key:∀{P:Bm->Nat->Prop},(∀j (h:j<bs.length),P bs[j] j)->P b bs.length->∀j (h:j<(bs++ [b]).length),P (bs++ [b])[j] j:=by
  intro P q1 q2 j hj
  by_cases hq:j<bs.length
  ·rw [List.getElem_append_left hq];exact q1 j hq
  ·have hj':j=bs.length:=by simp at hj;omega
   subst hj'
   rw [List.getElem_append_right (Nat.le_refl _)]
   simp only [Nat.sub_self,List.getElem_cons_zero]
   exact q2
 refine⟨key (P:=fun b _=>b.b.o=r) h.o h1,key (P:=fun b j=>b.b.s=j+1) h.s h2,key (P:=fun b j=>b.b.t=j+1) h.t h3,key (P:=fun b _=>b.ms.length<=5) h.m h4,fun y hy=> ?_⟩
 rcases List.mem_append.1 hy with hy | hy
 ·exact h.v y hy
 ·rw [List.mem_singleton.1 hy];exact h5
theorem BsO.cnt{r:Nat}{bs:List Bm}(h:BsO r bs)(n:Nat)(hr:r<n):cntK bs n=owClk n r bs.length:=by
 have hs:∀i,i<=bs.length->cntK (bs.take i) n=owClk n r i:=by
  intro i
  induction i with
  | zero=>
   intro _
   show List.replicate n 0=(List.replicate n 0).set r ((0:Nat):Int)
   refine List.ext_getElem? (fun j=> ?_)
   by_cases hq:r=j
   ·subst hq
    rw [List.getElem?_set_self (by simpa using hr),List.getElem?_replicate,if_pos hr]
    rfl
   ·rw [List.getElem?_set_ne hq]
  | succ i ih=>
   intro hi
   rw [zlb bs n i (by omega),ih (by omega)]
   unfold zc6
   rw [h.o i (by omega),Int.toNat_natCast,zdk n r i hr]
   exact zko n r i (i+1)
 have:=hs bs.length (Nat.le_refl _)
 rw [List.take_length] at this
 exact this
theorem BsO.tim{r:Nat}{bs:List Bm}(h:BsO r bs):timK bs=bs.length+1:=by
 have hs:∀i,i<=bs.length->timK (bs.take i)=(i:Int)+1:=by
  intro i
  induction i with
  | zero=>intro _;rfl
  | succ i ih=>
   intro hi
   rw [zj9 bs i (by omega),ih (by omega)]
   unfold zda
   rw [h.t i (by omega),if_pos (Int.le_refl _)]
   omega
 have:=hs bs.length (Nat.le_refl _)
 rw [List.take_length] at this
 exact this
theorem BsO.ok{r n:Nat}{bs:List Bm}(h:BsO r bs)(hr:r<n)(hl:bs.length<=30):BsOk bs n:=by
 have key:∀b∈bs,b.b.o=r∧0<=b.b.t∧b.b.t<=31∧b.ms.length<=5:=by
  intro b hb
  obtain⟨j,hj,rfl⟩:=List.mem_iff_getElem.1 hb
  have h1:=h.o j hj
  have h2:=h.t j hj
  have h3:=h.m j hj
  exact⟨h1,by omega,by omega,h3⟩
 exact⟨by omega,fun b hb=>by have:=key b hb;omega,fun b hb=>by have:=key b hb;omega,fun b hb=>(key b hb).2.2.2,h.v⟩
theorem zht{x:Rr}{r n:Nat}(h:BsO r x.bs)(hr:r<n)(g:Nat)(ea:Option Addr)(ec:Nat)(k:Int):zcx k (zbi x n r g ea ec)=esK r (x.bs.length+1) k x.es:=by
 have e1:(zao x n r).s=x.bs.length+1:=by show(cntK x.bs n).getD r 0+1=_;rw [h.cnt n hr,zdk n r _ hr]
 have e2:(zao x n r).t=x.bs.length+1:=h.tim
 have hu:mkU (zbi x n r g ea ec) k=esU r (x.bs.length+1) k:=by
  funext p
  unfold mkU esU
  show(if p.1.e.ob=k then some (⟨p.1,⟨(r:Int),(zao x n r).s,p.2⟩,(zao x n r).t⟩:Mk) else none)=_
  rw [e1,e2]
 show x.es.zipIdx.filterMap (mkU (zbi x n r g ea ec) k)=x.es.zipIdx.filterMap (esU r (x.bs.length+1) k)
 rw [hu]
structure AlR(n r:Nat)(R:Rp)(x:Rr):Prop where
 n2:2<=n
 n4:n<=4
 rlt:r<n
 num:R.n=r
 st:R.st=if x.op=true then 1 else 0
 shut:x.op=false->x.es= []
 seq:x.bs.length<=30
 opn:x.op=true->x.bs.length<30
 bs:BsO r x.bs
 clk:R.clock=owClk n r x.bs.length
 time:R.time=x.bs.length
 effs:R.effs=x.es.map (·.e)
 log:R.log=x.log
 held:R.held= []
 ok:Rok R
 el:x.es.length<=5
 eff:∀j (h:j<R.effs.length),Wv.effOk (pendB R) j R.effs[j]=true
 mk0:∀k:Nat,k<8->Mks (za3 x.bs k)∧∀m∈za3 x.bs k,MkO r (x.bs.length+1) 0 m
 mk1:∀k:Nat,k<8->Mks (dmK x r k)∧∀m∈dmK x r k,MkO r (x.bs.length+1) x.es.length m
 obs:∀k:Nat,k<8->∃o,R.obs[k]?=some o∧o.kind=k % 4∧OV (za3 x.bs k) o∧OV (dmK x r k) (seeTo (pendB R) k o R.effs.length)
theorem zcu(b:Wv.Bt)(k:Int)(o:Ob):∀n,(seeTo b k o n).kind=o.kind
 | 0=>rfl
 | n+1=>by
  rw [seeTo]
  split
  ·split
   ·rw [Ob.take_kind,zcu b k o n]
   ·exact zcu b k o n
  ·exact zcu b k o n
section
variable {n r : Nat} {R : Rp} {x : Rr}
theorem AlR.len(h:AlR n r R x):R.effs.length=x.es.length:=by rw [h.effs,List.length_map]
theorem AlR.bq(h:AlR n r R x):Bq (pendB R) r (x.bs.length+1):=by
 have h1:=h.num;have h2:=h.clk;have h3:=h.rlt
 refine⟨h1, ?_,by omega, ?_, ?_⟩
 ·show R.clock.getD R.n.toNat 0+1=x.bs.length+1
  rw [h1,h2,Int.toNat_natCast,zdk n r _ h3]
 ·show(r:Int)<R.clock.length
  rw [h2,zfp];omega
 ·show R.clock.getD (r:Int).toNat 0=_
  rw [h2,Int.toNat_natCast,zdk n r _ h3];omega
theorem AlR.t(h:AlR n r R x):(pendB R).t=x.bs.length+1:=by show R.time+1=_;rw [h.time]
theorem AlR.ev(h:AlR n r R x):∀e∈R.effs,0<=e.ob∧e.ob<8∧ -1000<=e.va∧e.va<=1000∧e.dots.length<=1048576:=fun e he=>by
 obtain⟨j,hj,rfl⟩:=List.mem_iff_getElem.1 he
 have:=zi9 (h.eff j hj)
 omega
theorem AlR.up(h:AlR n r R x):Rup R:=by
 have h1:=h.num;have h2:=h.rlt;have h3:=h.el;have h4:=h.len;have h5:=h.st
 refine⟨h.ok,by omega, ?_, ?_,by omega,h.ev⟩
 ·rw [h.clk,zfp,h1];omega
 ·rw [h5];split<;>omega
theorem AlR.head(h:AlR n r R x)(hs:x.bs.length<30)(he:R.effs ≠ []):Wv.isB (pendB R)=true:=by
 have h1:=h.num;have h2:=h.rlt;have h3:=h.el;have h4:=h.n2;have h5:=h.n4;have h6:=h.len
 have hb:=h.bq
 have ho:(pendB R).o=r:=hb.o
 have hsq:(pendB R).s=x.bs.length+1:=hb.sq
 have ht:=h.t
 have hc:(pendB R).clock=owClk n r x.bs.length:=h.clk
 have hl:(pendB R).clock.length=n:=by rw [hc,zfp]
 have hpos:0<R.effs.length:=List.length_pos_iff.2 he
 have hel:(pendB R).effs.length=R.effs.length:=rfl
 unfold Wv.isB Wv.headOk
 rw [Bool.and_eq_true]
 constructor
 ·simp only [Bool.and_eq_true,decide_eq_true_eq]
  refine⟨⟨⟨⟨⟨⟨by omega,by omega⟩,by omega,by omega⟩,by omega,by omega⟩,by omega,by omega⟩,by omega,by omega⟩, ?_⟩
  have hall:∀m,m<=n->Wv.clkTo (pendB R) m=true:=by
   intro m
   induction m with
   | zero=>intro _;rfl
   | succ m ih=>
    intro hm
    rw [Wv.clkTo,ih (by omega),Bool.true_and]
    unfold Wv.cOk
    rw [hc,ho,hsq]
    by_cases hq:r=m
    ·subst hq
     rw [zdk n r _ h2]
     simp
     omega
    ·rw [zm5 n r _ m hq]
     simp
     omega
  unfold Wv.clkOk
  rw [hl]
  exact hall n (Nat.le_refl _)
 ·have hall:∀m,m<=R.effs.length->Wv.effsTo (pendB R) m=true:=by
   intro m
   induction m with
   | zero=>intro _;rfl
   | succ m ih=>
    intro hm
    rw [Wv.effsTo,ih (by omega),Bool.true_and]
    have e:(pendB R).effs.getD m ⟨0,0,0,⟨0,0,0⟩, []⟩=R.effs[m]:=by show R.effs.getD m _=_;simp [show m<R.effs.length by omega]
    rw [e]
    exact h.eff m (by omega)
  exact hall _ (Nat.le_refl _)
theorem AlR.draft(h:AlR n r R x):zao x n r=pendB R:=by
 have h1:=h.num;have h2:=h.clk;have h3:=h.rlt
 have hc:=h.bs.cnt n h3
 unfold zao pendB
 rw [h.bs.tim,hc,h1,h2,h.time,Int.toNat_natCast,h.effs]
theorem AlR.same{R':Rp}{x':Rr}(h:AlR n r R x)(e0:R'.n=R.n)(e1:R'.obs=R.obs)(e2:R'.clock=R.clock)(e3:R'.log=R.log)(e4:R'.held=R.held)(e5:R'.time=R.time)(e6:R'.effs=R.effs)(f1:x'.bs=x.bs)(f2:x'.es=x.es)(f3:x'.log=x.log)(hst:R'.st=if x'.op=true then 1 else 0)(hsh:x'.op=false->x.es= [])(hop:x'.op=true->x.bs.length<30):AlR n r R' x':=by
 have eb:pendB R'=pendB R:=by unfold pendB;rw [e0,e2,e5,e6]
 have ed:∀k,dmK x' r k=dmK x r k:=fun k=>by unfold dmK;rw [f1,f2]
 refine⟨h.n2,h.n4,h.rlt,by rw [e0];exact h.num,hst,by rw [f2];exact hsh,by rw [f1];exact h.seq,by rw [f1];exact hop,by rw [f1];exact h.bs,by rw [e2,f1];exact h.clk,by rw [e5,f1];exact h.time,by rw [e6,f2];exact h.effs,by rw [e3,f3];exact h.log,by rw [e4];exact h.held,h.ok.same e1 e2 e3 e4 e5,by rw [f2];exact h.el, ?_, ?_, ?_, ?_⟩
 ·rw [eb];simp only [e6];exact h.eff
 ·rw [f1];exact h.mk0
 ·rw [f1,f2];simp only [ed];exact h.mk1
 ·rw [eb,e1,e6,f1];simp only [ed];exact h.obs
theorem AlR.see(h:AlR n r R x)(k:Nat)(hk:k<8):∃o,R.obs[k]?=some o∧(seeTo (pendB R) k o R.effs.length).kind=k % 4∧OV (dmK x r k) (seeTo (pendB R) k o R.effs.length)∧(seeTo (pendB R) k o R.effs.length).tells=zd5 (dmK x r k) (k % 4):=by
 obtain⟨o,h1,h2,_,h4⟩:=h.obs k hk
 have hkd:(seeTo (pendB R) k o R.effs.length).kind=k % 4:=by rw [zcu];exact h2
 refine⟨o,h1,hkd,h4, ?_⟩
 have:=h4.tells (h.mk1 k hk).1
 rw [hkd] at this
 exact this
theorem zh6(x:Rr)(r:Nat)(k:Int)(h:x.es= []):dmK x r k=za3 x.bs k:=by
 unfold dmK
 rw [h]
 exact List.append_nil _
theorem AlR.abort(h:AlR n r R x):AlR n r (endR R) {x with op:=false,es:= []}:=by
 refine⟨h.n2,h.n4,h.rlt,h.num,rfl,fun _=>rfl,h.seq,fun e=>(by cases e),h.bs,h.clk,h.time,rfl,h.log,h.held,h.ok.same rfl rfl rfl rfl rfl,by show 0<=5;omega,fun j hj=>(by simp [endR] at hj),h.mk0,fun k hk=> ?_,fun k hk=> ?_⟩
 ·have e:dmK {x with op:=false,es:= []} r k=za3 x.bs k:=zh6 _ r k rfl
  rw [e]
  exact h.mk0 k hk
 ·have e:dmK {x with op:=false,es:= []} r k=za3 x.bs k:=zh6 _ r k rfl
  obtain⟨o,h1,h2,h3,_⟩:=h.obs k hk
  rw [e]
  exact⟨o,h1,h2,h3,h3⟩
theorem AlR.begin(h:AlR n r R x)(hop:x.op=false)(hs:x.bs.length<30):AlR n r {R with st:=1} {x with op:=true,es:= []}:=
 h.same rfl rfl rfl rfl rfl rfl rfl rfl (h.shut hop).symm rfl rfl (fun e=>(by cases e)) (fun _=>hs)
theorem AlR.put(h:AlR n r R x)(hop:x.op=true)(hl:x.es.length<5)(op:Int)(k:Nat)(a b:Int)(o:Ob)(hk8:k<8)(h1:1<=op)(h6:op<=6)(hkd:(k:Int) % 4=Wv.rKind op)(ho:R.obs[k]?=some o)(he:((seeTo (pendB R) k o R.effs.length).answer op a b).err=0)
  (hd1:¬(((seeTo (pendB R) k o R.effs.length).answer op a b).ds.length:Int)<Wv.rLeastD op) (hd2:¬(((seeTo (pendB R) k o R.effs.length).answer op a b).ds.length:Int)>Wv.rMostD op) (m:Em) (hm:m.e=syE op k ((seeTo (pendB R) k o R.effs.length).answer op a b)):
  AlR n r (putR R op k a b o) {x with es:=x.es++ [m]}:=by
 obtain⟨o',g1,g2,g3,g4⟩:=h.obs k hk8
 obtain rfl:o'=o:=by rw [ho] at g1;exact(Option.some.inj g1).symm
 obtain⟨m1,m2⟩:=h.mk1 k hk8
 have hkind:((seeTo (pendB R) k o' R.effs.length).kind:Int)=Wv.rKind op:=by rw [zcu,g2];omega
 have hA:=zzl g4 m1 m2 h1 h6 hkind a b he
 have hlen:=h.len
 have hp:(putR R op k a b o').effs=R.effs++ [syE op k ((seeTo (pendB R) k o' R.effs.length).answer op a b)]:=rfl
 have hes:(x.es++ [m]).length=x.es.length+1:=by simp
 have hfr:Fr (dmK x r k) ⟨m,⟨r,x.bs.length+1,x.es.length⟩,x.bs.length+1⟩:=ans_fr hA m2 (by omega) m k hm
 have hmk:MkO r (x.bs.length+1) (x.es.length+1) ⟨m,⟨r,x.bs.length+1,x.es.length⟩,x.bs.length+1⟩:=ans_mk hA (by omega) (by omega) (by omega) m k hm
 have hob:m.e.ob=k:=by rw [hm];rfl
 have hdm:∀j:Nat,dmK {x with es:=x.es++ [m]} r j=dmK x r j++(if (k:Int)=j then [⟨m,⟨r,x.bs.length+1,x.es.length⟩,x.bs.length+1⟩] else []):=by
  intro j
  show za3 x.bs j++esK r (x.bs.length+1) j (x.es++ [m])=(za3 x.bs j++esK r (x.bs.length+1) j x.es)++_
  rw [zxo,hob,List.append_assoc]
 refine⟨h.n2,h.n4,h.rlt,h.num,h.st,fun e=>absurd (hop.symm.trans e) (by simp),h.seq,h.opn,h.bs,h.clk,h.time, ?_,h.log,h.held,h.ok.same rfl rfl rfl rfl rfl,by show(x.es++ [m]).length<=5;omega, ?_,h.mk0,fun j hj=> ?_,fun j hj=> ?_⟩
 ·show(putR R op k a b o').effs=(x.es++ [m]).map (·.e)
  rw [hp,h.effs,List.map_append]
  simp [hm,h.effs]
 ·intro j hj
  simp only [hp] at hj ⊢
  by_cases hq:j<R.effs.length
  ·rw [List.getElem_append_left hq,zk7 (b:=pendB R) (b':=pendB (putR R op k a b o')) rfl rfl rfl];exact h.eff j hq
  ·have hj':j=R.effs.length:=by simp at hj;omega
   subst hj'
   rw [List.getElem_append_right (Nat.le_refl _)]
   simp only [Nat.sub_self,List.getElem_cons_zero]
   rw [zk7 (b:=pendB R) (b':=pendB (putR R op k a b o')) rfl rfl rfl,show((R.effs.length:Nat):Int)=(x.es.length:Int) by rw [hlen]]
   exact zzm hA h.bq h1 h6 k hk8 hkd hd1 hd2
 ·rw [hdm j]
  show Mks _∧∀y∈_,MkO r (x.bs.length+1) ((x.es++ [m]).length:Nat) y
  rw [hes]
  by_cases hq:(k:Int)=j
  ·obtain rfl:k=j:=by omega
   rw [if_pos rfl]
   refine⟨m1.snoc hfr,fun y hy=> ?_⟩
   rcases List.mem_append.1 hy with hy | hy
   ·exact(m2 y hy).mono (.inr ⟨rfl,by omega⟩)
   ·rw [List.mem_singleton.1 hy];exact hmk
  ·rw [if_neg hq,List.append_nil]
   obtain⟨q1,q2⟩:=h.mk1 j hj
   exact⟨q1,fun y hy=>(q2 y hy).mono (.inr ⟨rfl,by omega⟩)⟩
 ·obtain⟨o2,e1,e2,e3,e4⟩:=h.obs j hj
  refine⟨o2,e1,e2,e3, ?_⟩
  rw [hdm j,zvo (R:=R) (R':=putR R op k a b o') rfl rfl rfl hp j o2]
  by_cases hq:(k:Int)=j
  ·obtain rfl:k=j:=by omega
   obtain rfl:o2=o':=by rw [ho] at e1;exact(Option.some.inj e1).symm
   rw [if_pos rfl,if_pos (show(syE op k ((seeTo (pendB R) k o2 R.effs.length).answer op a b)).ob=(k:Int) from rfl)]
   have hst:zbg (pendB R) R.effs.length=⟨⟨r,x.bs.length+1,x.es.length⟩,x.bs.length+1⟩:=by
    unfold zbg;rw [h.bq.o,h.bq.sq,h.t,hlen]
   rw [hst,←hm]
   refine OV.take (x:=⟨m,⟨r,x.bs.length+1,x.es.length⟩,x.bs.length+1⟩) e4 m1 hfr (fun q=> ?_)
   have q2:Wv.rKind op=2:=by rw [←hkind,q];rfl
   have hop6:op=1∨op=2∨op=3∨op=4∨op=5∨op=6:=by omega
   have h4:op=4:=by
    rcases hop6 with rfl | rfl | rfl | rfl | rfl | rfl<;>first | rfl | exact absurd q2 (of_decide_eq_true rfl)
   show m.e.op=4
   rw [hm]
   exact h4
  ·rw [if_neg hq,if_neg (show¬(syE op k ((seeTo (pendB R) k o' R.effs.length).answer op a b)).ob=(j:Int) from hq),List.append_nil]
   exact e4
theorem AlR.commit(h:AlR n r R x)(hop:x.op=true)(he:R.effs ≠ [])(g:Nat)(ea:Option Addr)(ec:Nat)(sy:Int):AlR n r (zc5 R) ⟨x.bs++ [zbi x n r g ea ec],false, [],x.log++Wv.frameB (zao x n r),sy⟩:=by
 have hs:=h.opn hop
 have hb:=h.head hs he
 have h2:=h.rlt
 have hd:=h.draft
 have hob:∀e∈(pendB R).effs,0<=e.ob:=fun e hq=>(h.ev e hq).1
 have hlen:(x.bs++ [zbi x n r g ea ec]).length=x.bs.length+1:=by simp
 have hM:∀k:Nat,za3 (x.bs++ [zbi x n r g ea ec]) k=dmK x r k:=fun k=>by rw [zhm,zht h.bs h2];rfl
 have hD:∀k:Nat,dmK ⟨x.bs++ [zbi x n r g ea ec],false, [],x.log++Wv.frameB (zao x n r),sy⟩ r k=dmK x r k:=fun k=>by rw [zh6 _ r k rfl];exact hM k
 have hBs:BsO r (x.bs++ [zbi x n r g ea ec]):=by
  refine h.bs.snoc rfl ?_ ?_ h.el (fun m hm=> ?_)
  ·show(zao x n r).s=_
   rw [hd];exact h.bq.sq
  ·show(zao x n r).t=_
   rw [hd];exact h.t
  ·have hm:m∈x.es:=hm
   have hme:m.e∈R.effs:=by rw [h.effs];exact List.mem_map.2 ⟨m,hm,rfl⟩
   obtain⟨j,hj,hje⟩:=List.mem_iff_getElem.1 hme
   have:=zi9 (h.eff j hj)
   rw [hje] at this
   omega
 have hmk:∀k:Nat,k<8->Mks (dmK x r k)∧∀m∈dmK x r k,MkO r (((x.bs++ [zbi x n r g ea ec]).length:Nat)+1) 0 m:=fun k hk=>by
  obtain⟨q1,q2⟩:=h.mk1 k hk
  exact⟨q1,fun m hm=>(q2 m hm).mono (.inl (by rw [hlen];omega))⟩
 refine⟨h.n2,h.n4,h2,h.num,rfl,fun _=>rfl,by show(x.bs++ [_]).length<=30;omega,fun e=>(by cases e),hBs, ?_, ?_,rfl, ?_, ?_,h.ok.commit hb,by show 0<=5;omega,fun j hj=>(by simp [zc5,zgn,zch,endR,syncR] at hj),fun k hk=> ?_,fun k hk=> ?_,fun k hk=> ?_⟩
 ·show R.clock.set (pendB R).o.toNat (pendB R).s=owClk n r (x.bs++ [_]).length
  rw [h.bq.o,h.bq.sq,h.clk,Int.toNat_natCast,hlen]
  exact zko n r _ (x.bs.length+1)
 ·show max R.time (pendB R).t=(((x.bs++ [_]).length:Nat):Int)
  rw [h.t,h.time,hlen];omega
 ·show R.log++Wv.frameB (pendB R)=x.log++Wv.frameB (zao x n r)
  rw [h.log,hd]
 ·show(takeP zbd (likeB (pendB R)) R.held).2= []
  rw [h.held]
  rfl
 ·show Mks (za3 (x.bs++ [_]) k)∧_
  rw [hM k]
  exact hmk k hk
 ·rw [hD k]
  exact hmk k hk
 ·obtain⟨o,h1,hkd,_,h3⟩:=h.obs k hk
  have h4:=zrv (b:=pendB R) hob k o h1 (pendB R).effs.length
  rw [hD k]
  show∃o',(obsTo (pendB R) R.obs (pendB R).effs.length)[k]?=some o'∧o'.kind=k % 4∧OV (za3 (x.bs++ [_]) k) o'∧OV (dmK x r k) o'
  rw [hM k]
  exact⟨_,h4,by rw [zcu];exact hkd,h3,h3⟩
theorem AlR.new(h2:2<=n)(h4:n<=4)(hr:r<n):AlR n r (newR r n) ⟨[],false, [], [],0⟩:=by
 have hd:∀k:Nat,dmK ⟨[],false, [], [],0⟩ r k= []:=fun k=>rfl
 refine⟨h2,h4,hr,rfl,rfl,fun _=>rfl,by show 0<=30;omega,fun e=>(by cases e),BsO.nil r, ?_,rfl,rfl,rfl,rfl,Rok.new r n h4,by show 0<=5;omega,fun j hj=>(by simp [newR] at hj),fun k _=>⟨Mks.nil,fun m hm=>(by cases hm)⟩,fun k _=>⟨Mks.nil,fun m hm=>(by cases hm)⟩,fun k hk=> ?_⟩
 ·show List.replicate n 0=(List.replicate n 0).set r ((0:Nat):Int)
  refine List.ext_getElem? (fun j=> ?_)
  by_cases hq:r=j
  ·subst hq
   rw [List.getElem?_set_self (by simpa using hr),List.getElem?_replicate,if_pos hr]
   rfl
  ·rw [List.getElem?_set_ne hq]
 ·have hk':k=0∨k=1∨k=2∨k=3∨k=4∨k=5∨k=6∨k=7:=by omega
  rcases hk' with rfl | rfl | rfl | rfl | rfl | rfl | rfl | rfl
  ·exact⟨.counter 0,rfl,rfl,rfl,rfl⟩
  ·exact⟨.set [],rfl,rfl,LvV.nil _ _,LvV.nil _ _⟩
  ·exact⟨.reg [],rfl,rfl,LvV.nil _ _,LvV.nil _ _⟩
  ·exact⟨.list [],rfl,rfl,rfl,rfl⟩
  ·exact⟨.counter 0,rfl,rfl,rfl,rfl⟩
  ·exact⟨.set [],rfl,rfl,LvV.nil _ _,LvV.nil _ _⟩
  ·exact⟨.reg [],rfl,rfl,LvV.nil _ _,LvV.nil _ _⟩
  ·exact⟨.list [],rfl,rfl,rfl,rfl⟩
end
abbrev xpV (e:Option Ent):Value:= .pointer (e.map (fun e=>⟨e.s,0,none⟩))
abbrev wpV (e:Option Ent):Value:= .pointer (e.map (fun e=>⟨e.q,0,none⟩))
def prC(e:Option Ent):List Value:= [xpV e,wpV e]
theorem zys(e:Option Ent):(prC e).length=2:=rfl
theorem zh4{w:World}{b:Nat}{o:Obj}(h:w.heap[b]?=some o):b<w.heap.size:=by
 obtain⟨h1,_⟩:=Array.getElem?_eq_some_iff.1 h
 exact h1
structure RelS(e:Ent):Prop where
 len:e.S.reps.length=e.Q.reps.length
 two:2<=e.S.reps.length
 four:e.S.reps.length<=4
 rep:∀r R x,e.S.reps[r]?=some R->e.Q.reps[r]?=some x->AlR e.S.reps.length r R x
structure GmI(Z:List (Nat×Obj))(w0 w:World)(eb ef:Addr)(G:Nat)(ents:List (Option Ent))(os:List Ow)(many:Int)(owns:Nat->Clr)(lw:Clr)(av:Value)(oa:Option Addr)(oc:Nat):Prop where
 ga:GaW w0 w eb ef owns lw ents
 blk:Blk w G #[av, .slice oa os.length oc,I many] 68
 oG:lw G=1
 all:w.ownsRow 0 75 2 av ents.length (flat prC ents)
 oA:∀g,av.ownBlock=some g->lw g=1
 lst:w.ownsRow 0 115 3 (.slice oa os.length oc) os.length (flat Ow.cells os)
 oL:∀g,(Value.slice oa os.length oc).ownBlock=some g->lw g=1
 fil:∀o∈os,At0 w lw o.a o.full∧0<=o.k∧o.k<=many∧o.n<=1000004
 m0:0<=many
 zz:∀p∈Z,lw p.1=0∧w.heap[p.1]?=some p.2
def Kz(Z:List (Nat×Obj))(w:World):Prop:=∀p∈Z,w.heap[p.1]?=some p.2
def Gm(Z:List (Nat×Obj))(av:Value)(w0 w:World)(eb ef:Addr)(G:Nat)(ents:List (Option Ent))(os:List Ow)(many:Int):Prop:=∃owns lw oa oc,GmI Z w0 w eb ef G ents os many owns lw av oa oc
section
variable {Z : List (Nat × Obj)} {w0 w w' : World} {eb ef : Addr} {G : Nat} {ents ents' : List (Option Ent)} {os : List Ow} {many : Int} {owns owns' : Nat -> Clr} {lw lw' : Clr} {av : Value} {oa : Option Addr} {oc : Nat}
theorem GmI.kp(h:GmI Z w0 w eb ef G ents os many owns lw av oa oc)(hg:GaW w0 w' eb ef owns' lw' ents')(hk:∀b,b<w.heap.size->(lw b=0∨lw b=1)->lw' b=lw b∧w'.heap[b]?=w.heap[b]?)(hp:flat prC ents'=flat prC ents)(hl:ents'.length=ents.length):GmI Z w0 w' eb ef G ents' os many owns' lw' av oa oc:=by
 have hK:Kp (fun d=>d=0∨d=1) lw lw' w w':=fun b hb hd=>⟨(hk b hb hd).2,(hk b hb hd).1⟩
 have hG:=hk G h.blk.lt (.inr h.oG)
 refine⟨hg,hG.2.trans h.blk,hG.1.trans h.oG, ?_,(zcn h.all h.oA hK (.inr rfl)).2,(zcn h.lst h.oL hK (.inr rfl)).1,(zcn h.lst h.oL hK (.inr rfl)).2,fun o ho=>⟨(h.fil o ho).1.kp hK (.inl rfl),(h.fil o ho).2⟩,h.m0,fun p hp=>by
  obtain⟨z1,z2⟩:=h.zz p hp
  obtain⟨z3,z4⟩:=hk p.1 (zh4 z2) (.inl z1)
  exact⟨z3.trans z1,z4.trans z2⟩⟩
 rw [hl,hp]
 exact(zcn h.all h.oA hK (.inr rfl)).1
theorem zcj{i:Nat}{e e':Ent}(he:ents[i]?=some (some e))(h1:e'.s=e.s)(h2:e'.q=e.q):flat prC (ents.set i (some e'))=flat prC ents:=by
 induction ents generalizing i with
 | nil=>rfl
 | cons a l ih=>
  cases i with
  | zero=>
   cases he
   show prC (some e')++flat prC l=prC (some e)++flat prC l
   congr 1
   unfold prC
   show [Value.pointer (some ⟨e'.s,0,none⟩),Value.pointer (some ⟨e'.q,0,none⟩)]=_
   rw [h1,h2]
   rfl
  | succ i=>
   show prC a++flat prC (l.set i (some e'))=prC a++flat prC l
   rw [ih (by simpa using he)]
theorem Gm.prog(h:GmI Z w0 w eb ef G ents os many owns lw av oa oc)(i:Nat)(e:Ent)(he:ents[i]?=some (some e))(S':Sto)(ho:StOk w0 w (owns i) e.s S' eb ef w'):Gm Z av w0 w' eb ef G (ents.set i (some {e with S:=S'})) os many:=by
 obtain⟨owns',lw',hg,hk,_⟩:=h.ga.prog i e he S' ho
 exact⟨owns',lw',oa,oc,h.kp hg (fun b hb hc=>⟨(hk b hb).1,(hk b hb).2 (by omega)⟩) (zcj he rfl rfl) (List.length_set ..)⟩
theorem Gm.refc(h:GmI Z w0 w eb ef G ents os many owns lw av oa oc)(i:Nat)(e:Ent)(he:ents[i]?=some (some e))(Q':Rs)(ho:RsOk w lw (10+10*i) e.q Q' w'):Gm Z av w0 w' eb ef G (ents.set i (some {e with Q:=Q'})) os many:=by
 obtain⟨owns',lw',hg,hk,_⟩:=h.ga.refc i e he Q' ho
 exact⟨owns',lw',oa,oc,h.kp hg (fun b hb hc=>hk b hb (by omega)) (zcj he rfl rfl) (List.length_set ..)⟩
theorem GmI.news(h:GmI Z w0 w eb ef G ents os many owns lw av oa oc)(hb:Below w.heap.size w w')(c:Nat):∃owns',GmI Z w0 w' eb ef G ents os many owns' (newTo lw w.heap.size c) av oa oc:=by
 obtain⟨owns',hg⟩:=h.ga.news hb c
 exact⟨owns',h.kp hg (fun b hl _=>⟨zac _ _ _ _ hl,hb.block b hl⟩) rfl rfl⟩
theorem Gm.news(h:Gm Z av w0 w eb ef G ents os many)(hb:Below w.heap.size w w'):Gm Z av w0 w' eb ef G ents os many:=by
 obtain⟨owns,lw,oa,oc,h⟩:=h
 obtain⟨owns',h'⟩:=h.news hb 0
 exact⟨owns',_,oa,oc,h'⟩
theorem Gm.kz(h:Gm Z av w0 w eb ef G ents os many):Kz Z w:=by
 obtain⟨owns,lw,oa,oc,h⟩:=h
 exact fun p hp=>(h.zz p hp).2
theorem Gm.more(h:Gm Z av w0 w eb ef G ents os many)(hb:Below w.heap.size w w')(Y:List (Nat×Obj))(hY:∀p∈Y,w.heap.size<=p.1∧w'.heap[p.1]?=some p.2):Gm (Y++Z) av w0 w' eb ef G ents os many:=by
 obtain⟨owns,lw,oa,oc,h⟩:=h
 obtain⟨owns',h'⟩:=h.news hb 0
 refine⟨owns',_,oa,oc,{h' with zz:=fun p hp=> ?_}⟩
 rcases List.mem_append.1 hp with hp | hp
 ·exact⟨zae _ _ _ _ (hY p hp).1,(hY p hp).2⟩
 ·exact h'.zz p hp
theorem Gm.less{Y:List (Nat×Obj)}(h:Gm (Y++Z) av w0 w eb ef G ents os many):Gm Z av w0 w eb ef G ents os many:=by
 obtain⟨owns,lw,oa,oc,h⟩:=h
 exact⟨owns,lw,oa,oc,{h with zz:=fun p hp=>h.zz p (List.mem_append.2 (.inr hp))}⟩
theorem Gm.num{n:Nat}{lb:Option Nat}(h:GmI Z w0 w eb ef G ents os many owns lw av oa oc)(hn:n<=1000000)(hlb:∀g,lb=some g->lw g=1∧g ≠ G∧av.ownBlock ≠ some g∧(Value.slice oa os.length oc).ownBlock ≠ some g∧g<w.heap.size)(ho:NumOk w G av (many+1) os n lb (Value.slice oa os.length oc).ownBlock w'):∃os',os'.length=os.length+4∧Gm Z av w0 w' eb ef G ents os' (many+1):=by
 obtain⟨l4,oa2,oc2,la2,lc2,hl4,hN⟩:=ho
 have hm0:=h.m0
 have hGty:w.heap[G]?=some (.cells #[av, .slice oa os.length oc,I many] 68):=h.blk
 have hAG:∀g,av.ownBlock=some g->g ≠ G∧(Value.slice oa os.length oc).ownBlock ≠ some g:=fun g e=>by
  obtain⟨cs,h1⟩:=zcq h.all e
  refine⟨fun q=> ?_,fun q=> ?_⟩
  ·rw [q,hGty] at h1;cases h1
  ·obtain⟨cs',h2⟩:=zcq h.lst q
   rw [h2] at h1;cases h1
 let lw2:Clr:=fun b=>if b<w.heap.size then(if lb=some b then 0 else lw b) else(if (Value.slice oa2 (os++l4).length oc2).ownBlock=some b then 1 else 0)
 have o1:∀b,b<w.heap.size->lb ≠ some b->lw2 b=lw b:=fun b hl hq=>by show(if b<w.heap.size then(if lb=some b then 0 else lw b) else _)=_;rw [if_pos hl,if_neg hq]
 have o2:∀b,lb=some b->lw2 b=0:=fun b e=>by show(if b<w.heap.size then(if lb=some b then 0 else lw b) else _)=_;rw [if_pos (hlb b e).2.2.2.2,if_pos e]
 have o3:∀b,w.heap.size<=b->lw2 b=if (Value.slice oa2 (os++l4).length oc2).ownBlock=some b then 1 else 0:=fun b hl=>by show(if b<w.heap.size then _ else _)=_;rw [if_neg (by omega)]
 have hT:Tch (fun k=>lw k=1) w w':=hN.T.mono (fun k _ e=>by
  rcases e with e | e | e
  ·rw [e];exact h.oG
  ·exact h.oL k e
  ·exact(hlb k e).1)
 have hK:Kp (fun d=>d=0) lw lw2 w w':=fun b hb hd=>⟨hT.block b hb (by rw [hd];omega),o1 b hb (fun e=>by have:=(hlb b e).1;omega)⟩
 obtain⟨owns',hg⟩:=h.ga.mine lw2 hT (fun b hl hq=>o1 b hl (fun e=>hq (hlb b e).1))
 refine⟨os++l4,by rw [List.length_append,hl4],owns',lw2,oa2,oc2,hg,hN.bG,(o1 G hN.lG (fun e=>(hlb G e).2.1 rfl)).trans h.oG, ?_,fun g e=> ?_,hN.row,fun g e=> ?_,fun o ho=> ?_,by omega,fun p hp=>by
  obtain⟨z1,z2⟩:=h.zz p hp
  obtain⟨z3,z4⟩:=hK p.1 (zh4 z2) z1
  exact⟨z4.trans z1,z3.trans z2⟩⟩
 ·refine zah h.all (fun g e=>hN.T.block g (h.all.lt g e).2 (fun q=> ?_))
  rcases q with q | q | q
  ·exact(hAG g e).1 q
  ·exact(hAG g e).2 q
  ·exact(hlb g q).2.2.1 e
 ·exact(o1 g (h.all.lt g e).2 (fun q=>(hlb g q).2.2.1 e)).trans (h.oA g e)
 ·rcases hN.rb g e with q | q
  ·exact(o1 g (h.lst.lt g q).2 (fun q2=>(hlb g q2).2.2.2.1 q)).trans (h.oL g q)
  ·rw [o3 g q,if_pos e]
 ·rcases List.mem_append.1 ho with ho | ho
  ·obtain⟨q1,q2,q3,q4⟩:=h.fil o ho
   exact⟨q1.kp hK rfl,q2,by omega,q4⟩
  ·obtain⟨q1,q2,q3⟩:=hN.old o ho
   refine⟨fun j u hj=> ?_,by omega,by omega,by omega⟩
   obtain⟨b,e,hb,_,m2,hc⟩:=q3 j u hj
   refine⟨b,0,e, ?_,by rw [Nat.zero_add];exact hc⟩
   rcases hb with hb | hb
   ·exact o2 b hb
   ·rw [o3 b hb,if_neg m2]
end
theorem zzb(own:Clr)(c p:Nat)(R:Rp)(cg cc hp:Nat)(mv hv ev:Value)(hs:List Bm)(es:List Em)(op x y:Int)(k:Nat)(o:Ob)(w w0:World)(eb ef:Addr)(hen:Env w0 w own eb ef)(h:RpIn w own c p R cg cc hp mv hv ev hs es)(h1:R.st=1)(hop:1<=op∧op<=6)(sy:Sya)(hsy:(seeTo (pendB R) k o R.effs.length).answer op x y=sy)(hkd:(k:Int) % 4=Wv.rKind op)(her:sy.err ≠ 0)
  (hk:R.obs[k]?=some o) (hobs:R.obs.length=8)
  (hl:R.clock.length<=1000) (hn0:0<=R.n) (hn1:R.n<R.clock.length) (hs0:∀z∈R.clock,0<=z∧z<=1000000) (ht0:0<=R.time) (ht1:R.time<=1000000000)
  (N:Nat) (hN:N+R.effs.length<=100000) (hbd:o.bound N) (hval:∀e∈R.effs, -1000<=e.va∧e.va<=1000∧e.dots.length<=1048576):
  Calls Tryz.prog 43 #[.pointer (some ⟨p,0,none⟩),I op,I k,I x,I y] w fun e w'=>e= .returned (I sy.err)∧Below w.heap.size w w':=by
 have c1:w.cell? ⟨p,1,none⟩=some (I R.st):=h.blk.cell 1
 have hb:(R.st==1)=true:=by simp [h1]
 have HC:Hid (Calls Tryz.prog 66 #[.pointer (some ⟨p,0,none⟩),I k] w fun e w'=>SeeOk own (seeTo (pendB R) k o R.effs.length) w e w'):=zep own c p R cg cc hp mv hv ev hs es k o w h hk hobs hl hn0 hn1 hs0 ht0 ht1 N hN hbd hval
 have HEN:Hid (Env w0 w own eb ef):=hen
 have HOP:Hid (1<=op∧op<=6):=hop
 have hA1:(0:Int)<=k:=by omega
 have hA2:(k:Int)<=7:=by
  obtain⟨h,_⟩:=List.getElem?_eq_some_iff.1 hk
  omega
 have hB:(Wv.rKind op !=(k:Int) % 4)=false:=by simpa using hkd.symm
 have HSM:Hid ((seeTo (pendB R) k o R.effs.length).bound 100000):=Ob.bound_mono (zct (b:=pendB R) hbd hval R.effs.length (Nat.le_refl _)) hN
 have HSY:Hid ((seeTo (pendB R) k o R.effs.length).answer op x y=sy):=hsy
 have HER:Hid (sy.err ≠ 0):=her
 clear h h1 hen hk hobs hl hn0 hn1 hs0 ht0 ht1 hN hbd hval hop hkd her hsy
 generalize seeTo (pendB R) k o R.effs.length=o2 at *
 go_enter Tryz.func43,Tryz.ntmps43
 go_wp2_with fail
 refine HC.out.mono ?_
 rintro e w1 ⟨v,d,own',rfl,hE,hO,hB⟩
 have HB:Hid (Below w.heap.size w w1):=hB
 obtain⟨tw,pw,hvf⟩:=ObAt.face hO
 subst hvf
 have HO:Hid (ObAt w1 own' d (.iface tw pw) o2):=hO
 clear hE hO hB HC
 go_wp2_with fail
 refine(zbq op w1 eb ef (HEN.out.below HB.out) HOP.out).mono ?_
 rintro e w2 ⟨rfl,hB2⟩
 unfold ruleV
 have HBX:Hid (Below w1.heap.size w1 w2):=hB2
 have HB2:Hid (Below w.heap.size w w2):=HB.out.trans (hB2.mono HB.out.size)
 clear hB2
 go_wp2_with fail
 go_quiet (first | (go_at_call 64;exact Calls.quiet_of_same (zb5 _ hA1 hA2 _)))
 obtain⟨w3,hw3⟩:∃w3,w3=(w2.alloc (.cells #[I (Wv.rKind op),I (Wv.rLeast op),I (Wv.rGreat op),I (Wv.rRef op),I (Wv.rLeastD op),I (Wv.rMostD op)] 140)).drewN nq:=⟨_,rfl⟩
 have HB13:Hid (Below w1.heap.size w1 w3):=by rw [hw3];exact zal (HBX.out.alloc HBX.out.size _) nq
 change Exit.then _ _ Exit.normal _ ((w2.alloc (.cells #[I (Wv.rKind op),I (Wv.rLeast op),I (Wv.rGreat op),I (Wv.rRef op),I (Wv.rLeastD op),I (Wv.rMostD op)] 140)).drewN nq)
 rw [←hw3]
 clear hw3
 have HO3:Hid (ObAt w3 own' d (.iface tw pw) o2):=HO.out.keep (fun b hl _=>HB13.out.block b hl) (Ext.refl _ _)
 go_wp2_with (first
  | (refine zbm rfl _ _ _ _ _ rfl (.iface tw pw) o2 op x y own' d (by simp [Act.eval]) (by simp [Act.eval]) (by simp [Act.eval]) (by simp [Act.eval]) HO3.out HSM.out ?_;rw [HSY.out];intro a1 c1 w4 hA4 hq4 hB4;have HB4:Hid (Below w3.heap.size w3 w4):=hB4;clear hB4 hA4 hq4;have hne:=HER.out)
  | fail)
 have hB3:Below w.heap.size w w3:=HB.out.trans (HB13.out.mono HB.out.size)
 have hB4:Below w.heap.size w w4:=hB3.trans (HB4.out.mono hB3.size)
 go_ret
 exact⟨rfl,hB4.alloc hB4.size _⟩
theorem zzc(own:Clr)(c p:Nat)(R:Rp)(cg cc hp:Nat)(mv hv ev:Value)(hs:List Bm)(es:List Em)(op x y:Int)(k:Nat)(o:Ob)(w w0:World)(eb ef:Addr)(hen:Env w0 w own eb ef)(h:RpIn w own c p R cg cc hp mv hv ev hs es)(h1:R.st=1)(hop:1<=op∧op<=6)(sy:Sya)(hsy:(seeTo (pendB R) k o R.effs.length).answer op x y=sy)(hls:¬(sy.ds.length:Int)<Wv.rLeastD op)(hbg:(sy.ds.length:Int)>Wv.rMostD op∨es.length=5)(hkd:(k:Int) % 4=Wv.rKind op)(her:sy.err=0)
  (hk:R.obs[k]?=some o) (hobs:R.obs.length=8)
  (hl:R.clock.length<=1000) (hn0:0<=R.n) (hn1:R.n<R.clock.length) (hs0:∀z∈R.clock,0<=z∧z<=1000000) (ht0:0<=R.time) (ht1:R.time<=1000000000)
  (N:Nat) (hN:N+R.effs.length<=100000) (hbd:o.bound N) (hval:∀e∈R.effs, -1000<=e.va∧e.va<=1000∧e.dots.length<=1048576):
  Calls Tryz.prog 43 #[.pointer (some ⟨p,0,none⟩),I op,I k,I x,I y] w fun e w'=>e= .returned (I 12)∧Below w.heap.size w w':=by
 have HLS:Hid (¬(sy.ds.length:Int)<Wv.rLeastD op):=hls
 have HBG:Hid ((sy.ds.length:Int)>Wv.rMostD op∨es.length=5):=hbg
 clear hls hbg
 have HRW:Hid (RpIn w own c p R cg cc hp mv hv ev hs es):=h
 have c1:w.cell? ⟨p,1,none⟩=some (I R.st):=h.blk.cell 1
 have hb:(R.st==1)=true:=by simp [h1]
 have HC:Hid (Calls Tryz.prog 66 #[.pointer (some ⟨p,0,none⟩),I k] w fun e w'=>SeeOk own (seeTo (pendB R) k o R.effs.length) w e w'):=zep own c p R cg cc hp mv hv ev hs es k o w h hk hobs hl hn0 hn1 hs0 ht0 ht1 N hN hbd hval
 have HEN:Hid (Env w0 w own eb ef):=hen
 have HOP:Hid (1<=op∧op<=6):=hop
 have hA1:(0:Int)<=k:=by omega
 have hA2:(k:Int)<=7:=by
  obtain⟨h,_⟩:=List.getElem?_eq_some_iff.1 hk
  omega
 have hB:(Wv.rKind op !=(k:Int) % 4)=false:=by simpa using hkd.symm
 have HSM:Hid ((seeTo (pendB R) k o R.effs.length).bound 100000):=Ob.bound_mono (zct (b:=pendB R) hbd hval R.effs.length (Nat.le_refl _)) hN
 have HSY:Hid ((seeTo (pendB R) k o R.effs.length).answer op x y=sy):=hsy
 have HER:Hid (sy.err=0):=her
 clear h h1 hen hk hobs hl hn0 hn1 hs0 ht0 ht1 hN hbd hval hop hkd her hsy
 generalize seeTo (pendB R) k o R.effs.length=o2 at *
 go_enter Tryz.func43,Tryz.ntmps43
 go_wp2_with fail
 refine HC.out.mono ?_
 rintro e w1 ⟨v,d,own',rfl,hE,hO,hB⟩
 have HB:Hid (Below w.heap.size w w1):=hB
 obtain⟨tw,pw,hvf⟩:=ObAt.face hO
 subst hvf
 have HO:Hid (ObAt w1 own' d (.iface tw pw) o2):=hO
 clear hE hO hB HC
 go_wp2_with fail
 refine(zbq op w1 eb ef (HEN.out.below HB.out) HOP.out).mono ?_
 rintro e w2 ⟨rfl,hB2⟩
 unfold ruleV
 have HBX:Hid (Below w1.heap.size w1 w2):=hB2
 have HB2:Hid (Below w.heap.size w w2):=HB.out.trans (hB2.mono HB.out.size)
 clear hB2
 go_wp2_with fail
 go_quiet (first | (go_at_call 64;exact Calls.quiet_of_same (zb5 _ hA1 hA2 _)))
 obtain⟨w3,hw3⟩:∃w3,w3=(w2.alloc (.cells #[I (Wv.rKind op),I (Wv.rLeast op),I (Wv.rGreat op),I (Wv.rRef op),I (Wv.rLeastD op),I (Wv.rMostD op)] 140)).drewN nq:=⟨_,rfl⟩
 have HB13:Hid (Below w1.heap.size w1 w3):=by rw [hw3];exact zal (HBX.out.alloc HBX.out.size _) nq
 have HRU3:Hid (Blk w3 w2.heap.size #[I (Wv.rKind op),I (Wv.rLeast op),I (Wv.rGreat op),I (Wv.rRef op),I (Wv.rLeastD op),I (Wv.rMostD op)] 140):=by rw [hw3];exact heap_alloc_new w2 _
 change Exit.then _ _ Exit.normal _ ((w2.alloc (.cells #[I (Wv.rKind op),I (Wv.rLeast op),I (Wv.rGreat op),I (Wv.rRef op),I (Wv.rLeastD op),I (Wv.rMostD op)] 140)).drewN nq)
 rw [←hw3]
 clear hw3
 have HO3:Hid (ObAt w3 own' d (.iface tw pw) o2):=HO.out.keep (fun b hl _=>HB13.out.block b hl) (Ext.refl _ _)
 go_wp2_with (first
  | (refine zbm rfl _ _ _ _ _ rfl (.iface tw pw) o2 op x y own' d (by simp [Act.eval]) (by simp [Act.eval]) (by simp [Act.eval]) (by simp [Act.eval]) HO3.out HSM.out ?_;rw [HSY.out];intro a1 c1 w4 hA4 hq4 hB4;have HA4:Hid (At w4 a1 (flat zab sy.ds)):=hA4;have HQ4:Hid (∀p,a1=some p->w3.heap.size<=p.block):=hq4;have HB4:Hid (Below w3.heap.size w3 w4):=hB4;clear hB4 hA4 hq4;rw [HER.out];have HRU4:Hid (Blk w4 w2.heap.size #[I (Wv.rKind op),I (Wv.rLeast op),I (Wv.rGreat op),I (Wv.rRef op),I (Wv.rLeastD op),I (Wv.rMostD op)] 140):=HRU3.out.kept HB4.out HRU3.out.lt;have hlt4:w2.heap.size<w4.heap.size:=HRU4.out.lt;have r0:w4.cell? ⟨w2.heap.size,0,none⟩=some (I (Wv.rKind op)):=HRU4.out.cell 0;have r1:w4.cell? ⟨w2.heap.size,1,none⟩=some (I (Wv.rLeast op)):=HRU4.out.cell 1;have r2:w4.cell? ⟨w2.heap.size,2,none⟩=some (I (Wv.rGreat op)):=HRU4.out.cell 2;have r3:w4.cell? ⟨w2.heap.size,3,none⟩=some (I (Wv.rRef op)):=HRU4.out.cell 3;have r4:w4.cell? ⟨w2.heap.size,4,none⟩=some (I (Wv.rLeastD op)):=HRU4.out.cell 4;have r5:w4.cell? ⟨w2.heap.size,5,none⟩=some (I (Wv.rMostD op)):=HRU4.out.cell 5)
  | fail)
 have hB3:Below w.heap.size w w3:=HB.out.trans (HB13.out.mono HB.out.size)
 have hB4:Below w.heap.size w w4:=hB3.trans (HB4.out.mono hB3.size)
 have HB5:Hid (Below w.heap.size w (w4.alloc (.cells (efC ⟨syE op k sy,a1,c1⟩) 149))):=hB4.alloc hB4.size _
 clear hB3 hB4
 refine(zzo (newTo own w.heap.size 0) c p R cg cc hp mv hv ev hs es ⟨syE op k sy,a1,c1⟩ (Wv.rKind op) (Wv.rLeast op) (Wv.rGreat op) (Wv.rRef op) (Wv.rLeastD op) (Wv.rMostD op) (w4.alloc (.cells (efC ⟨syE op k sy,a1,c1⟩) 149)) (HRW.out.keep (fun b hb _=>HB5.out.block b hb) (fun _ _ _ b hb _=>HB5.out.block b hb) (zaf _ _ _)) (by have h:=HLS.out;show¬(sy.ds.length:Int)<Wv.rLeastD op;omega) (by have h:=HBG.out;show(sy.ds.length:Int)>Wv.rMostD op∨es.length=5;omega)).mono ?_
 rintro e w6 ⟨rfl,hA⟩
 have HA:Hid (Below w.heap.size w w6):=HB5.out.trans (hA.mono HB5.out.size)
 clear hA HB5
 go_wp2
 go_ret
 exact⟨rfl,HA.out⟩
theorem zxw(own:Clr)(c p:Nat)(R:Rp)(cg cc hp:Nat)(mv hv ev:Value)(hs:List Bm)(es:List Em)(op x y:Int)(k:Nat)(o:Ob)(w w0:World)(eb ef:Addr)(hen:Env w0 w own eb ef)(h:RpIn w own c p R cg cc hp mv hv ev hs es)(h1:R.st=1)(hop:1<=op∧op<=6)(sy:Sya)(hsy:(seeTo (pendB R) k o R.effs.length).answer op x y=sy)(hls:(sy.ds.length:Int)<Wv.rLeastD op)(hkd:(k:Int) % 4=Wv.rKind op)(her:sy.err=0)
  (hk:R.obs[k]?=some o) (hobs:R.obs.length=8)
  (hl:R.clock.length<=1000) (hn0:0<=R.n) (hn1:R.n<R.clock.length) (hs0:∀z∈R.clock,0<=z∧z<=1000000) (ht0:0<=R.time) (ht1:R.time<=1000000000)
  (N:Nat) (hN:N+R.effs.length<=100000) (hbd:o.bound N) (hval:∀e∈R.effs, -1000<=e.va∧e.va<=1000∧e.dots.length<=1048576):
  Calls Tryz.prog 43 #[.pointer (some ⟨p,0,none⟩),I op,I k,I x,I y] w fun e w'=>e= .returned (I 0)∧Below w.heap.size w w':=by
 have HLS:Hid ((sy.ds.length:Int)<Wv.rLeastD op):=hls
 clear hls
 have HRW:Hid (RpIn w own c p R cg cc hp mv hv ev hs es):=h
 have c1:w.cell? ⟨p,1,none⟩=some (I R.st):=h.blk.cell 1
 have hb:(R.st==1)=true:=by simp [h1]
 have HC:Hid (Calls Tryz.prog 66 #[.pointer (some ⟨p,0,none⟩),I k] w fun e w'=>SeeOk own (seeTo (pendB R) k o R.effs.length) w e w'):=zep own c p R cg cc hp mv hv ev hs es k o w h hk hobs hl hn0 hn1 hs0 ht0 ht1 N hN hbd hval
 have HEN:Hid (Env w0 w own eb ef):=hen
 have HOP:Hid (1<=op∧op<=6):=hop
 have hA1:(0:Int)<=k:=by omega
 have hA2:(k:Int)<=7:=by
  obtain⟨h,_⟩:=List.getElem?_eq_some_iff.1 hk
  omega
 have hB:(Wv.rKind op !=(k:Int) % 4)=false:=by simpa using hkd.symm
 have HSM:Hid ((seeTo (pendB R) k o R.effs.length).bound 100000):=Ob.bound_mono (zct (b:=pendB R) hbd hval R.effs.length (Nat.le_refl _)) hN
 have HSY:Hid ((seeTo (pendB R) k o R.effs.length).answer op x y=sy):=hsy
 have HER:Hid (sy.err=0):=her
 clear h h1 hen hk hobs hl hn0 hn1 hs0 ht0 ht1 hN hbd hval hop hkd her hsy
 generalize seeTo (pendB R) k o R.effs.length=o2 at *
 go_enter Tryz.func43,Tryz.ntmps43
 go_wp2_with fail
 refine HC.out.mono ?_
 rintro e w1 ⟨v,d,own',rfl,hE,hO,hB⟩
 have HB:Hid (Below w.heap.size w w1):=hB
 obtain⟨tw,pw,hvf⟩:=ObAt.face hO
 subst hvf
 have HO:Hid (ObAt w1 own' d (.iface tw pw) o2):=hO
 clear hE hO hB HC
 go_wp2_with fail
 refine(zbq op w1 eb ef (HEN.out.below HB.out) HOP.out).mono ?_
 rintro e w2 ⟨rfl,hB2⟩
 unfold ruleV
 have HBX:Hid (Below w1.heap.size w1 w2):=hB2
 have HB2:Hid (Below w.heap.size w w2):=HB.out.trans (hB2.mono HB.out.size)
 clear hB2
 go_wp2_with fail
 go_quiet (first | (go_at_call 64;exact Calls.quiet_of_same (zb5 _ hA1 hA2 _)))
 obtain⟨w3,hw3⟩:∃w3,w3=(w2.alloc (.cells #[I (Wv.rKind op),I (Wv.rLeast op),I (Wv.rGreat op),I (Wv.rRef op),I (Wv.rLeastD op),I (Wv.rMostD op)] 140)).drewN nq:=⟨_,rfl⟩
 have HB13:Hid (Below w1.heap.size w1 w3):=by rw [hw3];exact zal (HBX.out.alloc HBX.out.size _) nq
 have HRU3:Hid (Blk w3 w2.heap.size #[I (Wv.rKind op),I (Wv.rLeast op),I (Wv.rGreat op),I (Wv.rRef op),I (Wv.rLeastD op),I (Wv.rMostD op)] 140):=by rw [hw3];exact heap_alloc_new w2 _
 change Exit.then _ _ Exit.normal _ ((w2.alloc (.cells #[I (Wv.rKind op),I (Wv.rLeast op),I (Wv.rGreat op),I (Wv.rRef op),I (Wv.rLeastD op),I (Wv.rMostD op)] 140)).drewN nq)
 rw [←hw3]
 clear hw3
 have HO3:Hid (ObAt w3 own' d (.iface tw pw) o2):=HO.out.keep (fun b hl _=>HB13.out.block b hl) (Ext.refl _ _)
 go_wp2_with (first
  | (refine zbm rfl _ _ _ _ _ rfl (.iface tw pw) o2 op x y own' d (by simp [Act.eval]) (by simp [Act.eval]) (by simp [Act.eval]) (by simp [Act.eval]) HO3.out HSM.out ?_;rw [HSY.out];intro a1 c1 w4 hA4 hq4 hB4;have HA4:Hid (At w4 a1 (flat zab sy.ds)):=hA4;have HQ4:Hid (∀p,a1=some p->w3.heap.size<=p.block):=hq4;have HB4:Hid (Below w3.heap.size w3 w4):=hB4;clear hB4 hA4 hq4;rw [HER.out];have HRU4:Hid (Blk w4 w2.heap.size #[I (Wv.rKind op),I (Wv.rLeast op),I (Wv.rGreat op),I (Wv.rRef op),I (Wv.rLeastD op),I (Wv.rMostD op)] 140):=HRU3.out.kept HB4.out HRU3.out.lt;have hlt4:w2.heap.size<w4.heap.size:=HRU4.out.lt;have r0:w4.cell? ⟨w2.heap.size,0,none⟩=some (I (Wv.rKind op)):=HRU4.out.cell 0;have r1:w4.cell? ⟨w2.heap.size,1,none⟩=some (I (Wv.rLeast op)):=HRU4.out.cell 1;have r2:w4.cell? ⟨w2.heap.size,2,none⟩=some (I (Wv.rGreat op)):=HRU4.out.cell 2;have r3:w4.cell? ⟨w2.heap.size,3,none⟩=some (I (Wv.rRef op)):=HRU4.out.cell 3;have r4:w4.cell? ⟨w2.heap.size,4,none⟩=some (I (Wv.rLeastD op)):=HRU4.out.cell 4;have r5:w4.cell? ⟨w2.heap.size,5,none⟩=some (I (Wv.rMostD op)):=HRU4.out.cell 5)
  | fail)
 have hB3:Below w.heap.size w w3:=HB.out.trans (HB13.out.mono HB.out.size)
 have hB4:Below w.heap.size w w4:=hB3.trans (HB4.out.mono hB3.size)
 have HB5:Hid (Below w.heap.size w (w4.alloc (.cells (efC ⟨syE op k sy,a1,c1⟩) 149))):=hB4.alloc hB4.size _
 clear hB3 hB4
 refine(zu7 p ⟨syE op k sy,a1,c1⟩ (Wv.rKind op) (Wv.rLeast op) (Wv.rGreat op) (Wv.rRef op) (Wv.rLeastD op) (Wv.rMostD op) (w4.alloc (.cells (efC ⟨syE op k sy,a1,c1⟩) 149)) HLS.out).mono ?_
 rintro e w6 ⟨rfl,hA⟩
 have HA:Hid (Below w.heap.size w w6):=HB5.out.trans (hA.mono HB5.out.size)
 clear hA HB5
 go_wp2
 go_ret
 exact⟨rfl,HA.out⟩
theorem zsh(own:Clr)(s rg cc pp ch:Nat)(pv:Value)(prs:List Nat)(S:Sto)(r:Nat)(R:Rp)(op x y:Int)(k:Nat)(o:Ob)(w w0:World)(eb ef:Addr)(hen:Env w0 w own eb ef)(h:StIn w own s rg cc pp ch pv prs S)(hR:S.reps[r]?=some R)(hup:Rup R)(h1:R.st=1)(hop:1<=op∧op<=6)(hls:(((seeTo (pendB R) k o R.effs.length).answer op x y).ds.length:Int)<Wv.rLeastD op)(hkd:(k:Int) % 4=Wv.rKind op)(her:((seeTo (pendB R) k o R.effs.length).answer op x y).err=0)(hk:R.obs[k]?=some o):
  Calls Tryz.prog 18 #[.pointer (some ⟨s,0,none⟩),I r,I op,I k,I x,I y] w fun e w'=>e= .returned (I 0)∧StOk w0 w own s S eb ef w':=by
 obtain⟨hr,cg,cc',hp,mv,hv,ev,hs,es,hrp⟩:=h.prl hR
 have HU:Hid (Calls Tryz.prog 39 #[.pointer (some ⟨s,0,none⟩),I r] w fun e w'=>e= .returned (.tuple #[.pointer (some ⟨prs[r],0,none⟩),I 0])∧w'=w):=zc2 own s rg cc pp ch pv prs S r hr R hR hup.up w h
 have HC:Hid (Calls Tryz.prog 43 #[.pointer (some ⟨prs[r],0,none⟩),I op,I k,I x,I y] w fun e w'=>e= .returned (I 0)∧StOk w0 w own s S eb ef w'):=(zxw own (1+11*r) prs[r] R cg cc' hp mv hv ev hs es op x y k o w w0 eb ef hen hrp h1 hop _ rfl hls hkd her hk hup.ok.obs8 hup.hl hup.n0 hup.n1 hup.hs0 hup.ok.time0 hup.ht1 (5*sumN R.clock) hup.hN (hup.ok.bd o (List.mem_of_getElem? hk)) hup.hv).mono (fun e w' hh=>⟨hh.1,StOk.below h hen hh.2⟩)
 clear h hrp hup hen hR her hk hls hkd hop h1
 generalize prs[r]=p at *
 go_enter Tryz.func18,Tryz.ntmps18
 go_wp2_with fail
 refine HU.out.mono ?_
 rintro e w1 ⟨rfl,hw1⟩
 subst hw1
 go_wp2_with fail
 refine HC.out.mono ?_
 rintro e w2 ⟨rfl,h2⟩
 have HE:Hid (StOk w0 w1 own s S eb ef w2):=h2
 clear h2
 go_wp2
 go_ret
 exact⟨rfl,HE.out⟩
theorem zmh(own:Clr)(s rg cc pp ch:Nat)(pv:Value)(prs:List Nat)(S:Sto)(r:Nat)(R:Rp)(w w0:World)(eb ef:Addr)(hI:zay)(hen:Env w0 w own eb ef)(h:StIn w own s rg cc pp ch pv prs S)(hR:S.reps[r]?=some R)(hup:Rup R)(h1:R.st=1)(he:R.effs ≠ [])(hisb:Wv.isB (pendB R)=true):
  Calls Tryz.prog 21 #[.pointer (some ⟨s,0,none⟩),I r] w fun e w'=>e= .returned (.tuple #[I (pendB R).s,I 0])∧StOk w0 w own s ⟨S.reps.set r (zc5 R),sprA S.msgs r (Wv.frameB (pendB R)) S.reps.length⟩ eb ef w':=by
 obtain⟨hr,cg,cc',hp,mv,hv,ev,hs,es,hrp⟩:=h.prl hR
 have HU:Hid (Calls Tryz.prog 39 #[.pointer (some ⟨s,0,none⟩),I r] w fun e w'=>e= .returned (.tuple #[.pointer (some ⟨prs[r],0,none⟩),I 0])∧w'=w):=zc2 own s rg cc pp ch pv prs S r hr R hR hup.up w h
 have hhs:hs.length<=1000:=by have:=hup.ok.most;rw [hrp.heldB,List.length_map] at this;omega
 have hlg:R.log.length+(Wv.frameB (pendB R)).length<=100000000:=by have:=hup.ok.logl;have:=hup.ok.sum;have:=zey hisb;omega
 have hcm:zgn R ((takeP lessM (fun m=>likeB (pendB R) m.b) hs).2.map (·.b))=zc5 R:=by
  unfold zc5
  rw [hrp.heldB,zso (likeB (pendB R)) hs]
 have HC:Hid (Calls Tryz.prog 46 #[.pointer (some ⟨prs[r],0,none⟩)] w fun e w'=>e= .returned (.tuple #[I (pendB R).s, .string ⟨(Wv.frameB (pendB R)).toArray⟩,I 0])∧StOk w0 w own s {S with reps:=S.reps.set r (zc5 R)} eb ef w'):=(zod own (1+11*r) prs[r] R cg cc' hp mv hv ev hs es w w0 eb ef hI hen (by omega) hrp h1 he hup.hl hup.n0 hup.n1 hup.hs0 hup.ok.time0 hup.ht1 hisb hhs hlg hup.ok.obs8 (5*sumN R.clock) hup.hN hup.ok.bd hup.ev).mono (fun e w' hh=>⟨hh.1,StOk.rep h hen r hr (by rw [←hcm];exact ROk.cm hh.2)⟩)
 have hpos:(0:Int)<(pendB R).s:=by have:=(zkw hisb).2.2.2.1;omega
 clear h hrp hup hen hR hcm hhs hlg h1 he hisb
 generalize prs[r]=p at *
 generalize hSQ:(pendB R).s=sq at *
 generalize zc5 R=R' at *
 obtain⟨fr,HF⟩:∃fr,Hid (Wv.frameB (pendB R)=fr):=⟨_,rfl⟩
 rw [HF.out] at HC ⊢
 clear hSQ
 go_enter Tryz.func21,Tryz.ntmps21
 go_wp2_with fail
 refine HU.out.mono ?_
 rintro e w1 ⟨rfl,hw1⟩
 subst hw1
 go_wp2_with fail
 refine HC.out.mono ?_
 rintro e w2 ⟨rfl,h2⟩
 obtain⟨own2,rg2,cc2,pp2,ch2,pv2,prs2,hE2,hS2,hen2,hT2⟩:=h2
 have HS2:Hid (StIn w2 own2 s rg2 cc2 pp2 ch2 pv2 prs2 {S with reps:=S.reps.set r R'}):=hS2
 have HEN2:Hid (Env w0 w2 own2 eb ef):=hen2
 have HE2:Hid (Ext own own2 w1.heap.size):=hE2
 have HT2:Hid (Tch (fun k=>1<=own k∧own k<=100) w1 w2):=hT2
 clear hE2 hS2 hen2 hT2 HC HU
 go_wp2_with fail
 refine(zmc own2 s rg2 cc2 pp2 ch2 pv2 prs2 {S with reps:=S.reps.set r R'} r fr w2 w0 eb ef HEN2.out HS2.out).mono ?_
 rintro e w3 ⟨rfl,h3⟩
 have HE:Hid (StOk w0 w1 own s ⟨S.reps.set r R',sprA S.msgs r fr S.reps.length⟩ eb ef w3):=by
  have h4:=StOk.from HE2.out HT2.out h3
  have e:(S.reps.set r R').length=S.reps.length:=List.length_set
  rw [show sprA S.msgs r fr ({S with reps:=S.reps.set r R'}:Sto).reps.length=sprA S.msgs r fr S.reps.length from by rw [←e]] at h4
  exact h4
 clear h3
 go_wp2
 go_ret2
 exact⟨rfl,HE.out⟩
theorem zic(own:Clr)(s rg cc pp ch:Nat)(pv:Value)(prs:List Nat)(S:Sto)(r:Nat)(R:Rp)(w w0:World)(eb ef:Addr)(hen:Env w0 w own eb ef)(h:StIn w own s rg cc pp ch pv prs S)(hR:S.reps[r]?=some R)(hup:Rup R):
  Calls Tryz.prog 20 #[.pointer (some ⟨s,0,none⟩),I r] w fun e w'=>e= .returned (I (zcf R).2)∧StOk w0 w own s {S with reps:=S.reps.set r (zcf R).1} eb ef w':=by
 obtain⟨hr,cg,cc',hp,mv,hv,ev,hs,es,hrp⟩:=h.prl hR
 have HU:Hid (Calls Tryz.prog 39 #[.pointer (some ⟨s,0,none⟩),I r] w fun e w'=>e= .returned (.tuple #[.pointer (some ⟨prs[r],0,none⟩),I 0])∧w'=w):=zc2 own s rg cc pp ch pv prs S r hr R hR hup.up w h
 have HC:Hid (Calls Tryz.prog 45 #[.pointer (some ⟨prs[r],0,none⟩)] w fun e w'=>e= .returned (I (zcf R).2)∧StOk w0 w own s {S with reps:=S.reps.set r (zcf R).1} eb ef w'):=(zph own (1+11*r) prs[r] R cg cc' hp mv hv ev hs es w (by omega) hrp).mono (fun e w' hh=>by
  obtain⟨he,ev',es',hS⟩:=hh
  exact⟨he,StOk.rep h hen r hr (ROk.self hrp.own1 hS)⟩)
 clear h hrp hup hen hR
 generalize prs[r]=p at *
 generalize (zcf R).2=z at *
 generalize (zcf R).1=R' at *
 go_enter Tryz.func20,Tryz.ntmps20
 go_wp2_with fail
 refine HU.out.mono ?_
 rintro e w1 ⟨rfl,hw1⟩
 subst hw1
 go_wp2_with fail
 refine HC.out.mono ?_
 rintro e w2 ⟨rfl,h2⟩
 have HE:Hid (StOk w0 w1 own s {S with reps:=S.reps.set r R'} eb ef w2):=h2
 clear h2
 go_wp2
 go_ret
 exact⟨rfl,HE.out⟩
theorem zlh(own:Clr)(s rg cc pp ch:Nat)(pv:Value)(prs:List Nat)(S:Sto)(r:Nat)(R:Rp)(w w0:World)(eb ef:Addr)(hen:Env w0 w own eb ef)(h:StIn w own s rg cc pp ch pv prs S)(hR:S.reps[r]?=some R)(hup:Rup R)(h1:R.st=1)(he:R.effs= []):
  Calls Tryz.prog 21 #[.pointer (some ⟨s,0,none⟩),I r] w fun e w'=>e= .returned (.tuple #[I 0,I 0])∧StOk w0 w own s {S with reps:=S.reps.set r (endR R)} eb ef w':=by
 obtain⟨hr,cg,cc',hp,mv,hv,ev,hs,es,hrp⟩:=h.prl hR
 have HU:Hid (Calls Tryz.prog 39 #[.pointer (some ⟨s,0,none⟩),I r] w fun e w'=>e= .returned (.tuple #[.pointer (some ⟨prs[r],0,none⟩),I 0])∧w'=w):=zc2 own s rg cc pp ch pv prs S r hr R hR hup.up w h
 have HC:Hid (Calls Tryz.prog 46 #[.pointer (some ⟨prs[r],0,none⟩)] w fun e w'=>e= .returned (.tuple #[I 0, .string ⟨#[]⟩,I 0])∧StOk w0 w own s {S with reps:=S.reps.set r (endR R)} eb ef w'):=(zoe own (1+11*r) prs[r] R cg cc' hp mv hv ev hs es w (by omega) hrp h1 he hup.hl hup.n0 hup.n1 hup.hs0 hup.ok.time0 hup.ht1).mono (fun e w' hh=>⟨hh.1,StOk.rep h hen r hr (ROk.cm hh.2)⟩)
 clear h hrp hup hen hR h1 he
 generalize prs[r]=p at *
 generalize endR R=R' at *
 go_enter Tryz.func21,Tryz.ntmps21
 go_wp2_with fail
 refine HU.out.mono ?_
 rintro e w1 ⟨rfl,hw1⟩
 subst hw1
 go_wp2_with fail
 refine HC.out.mono ?_
 rintro e w2 ⟨rfl,h2⟩
 have HE:Hid (StOk w0 w1 own s {S with reps:=S.reps.set r R'} eb ef w2):=h2
 clear h2
 go_wp2
 go_ret2
 exact⟨rfl,HE.out⟩
section
variable {w0 w : World} {eb ef : Addr} {s : Nat} {S : Sto} {P : Nat -> Prop}
end
end Go.Proofs.YtfmcngncaffloaaGreatDoor
