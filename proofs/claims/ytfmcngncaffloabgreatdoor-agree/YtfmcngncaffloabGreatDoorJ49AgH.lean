import Derived.Test.YtfmcngncaffloabGreatDoorJ48InB
namespace Go.Proofs.YtfmcngncaffloabGreatDoor
open Go.RowKit Wv
set_option maxRecDepth 100000
structure RU(n r:Nat)(R:Rp):Prop where
 ok:Rok R
 cl:R.clock.length=n
 n2:2<=n
 n4:n<=4
 rlt:r<n
 num:R.n=r
 st:R.st=0∨R.st=1
 idle:R.st=0->R.effs= []
 seq:R.st=1->R.clock.getD r 0<30
 el:R.effs.length<=5
 eff:∀j (h:j<R.effs.length),effOk (pendB R) j R.effs[j]=true
 obs:∀k:Nat,k<8->∃o,R.obs[k]?=some o∧o.kind=k % 4∧o.cv (CkD R.clock)
 time:R.time<=sumN R.clock
 held:∀b∈R.held,Gb n b
section
variable {n r : Nat} {R : Rp}
theorem RU.ev(h:RU n r R):∀e∈R.effs,0<=e.ob∧e.ob<8∧ -1000<=e.va∧e.va<=1000∧e.dots.length<=1048576:=fun e he=>by
 obtain⟨j,hj,rfl⟩:=aI.1 he;have:=effOk_op (h.eff j hj);omega
theorem RU.up(h:RU n r R):Rup R:=by
 have h1:=h.num;have h2:=h.rlt;have h3:=h.el;have h5:=h.st;have h6:=h.cl
 refine⟨h.ok,by omega,by rw [h6,h1];omega, ?_,by omega,h.ev⟩;rcases h5 with e | e<;>rw [e]<;>omega
theorem RU.p1(h:RU n r R):(pendB R).o=r:=h.num
theorem RU.p2(h:RU n r R):(pendB R).s=R.clock.getD r 0+1:=by
 show R.clock.getD R.n.toNat 0+1=_;rw [h.num,aj]
theorem RU.see(h:RU n r R){k:Nat}(hk:k<8){o:Ob}(ho:R.obs[k]?=some o):∀j,j<=R.effs.length->(seeTo (pendB R) k o j).cv (PkD (pendB R) j):=by
 intro j;obtain⟨o',g1,g2,g3⟩:=h.obs k hk;obtain rfl:o'=o:=by rw [ho] at g1;exact(Option.some.inj g1).symm
 induction j with
 | zero=>intro _;exact g3.mono (fun d hd=>CkD.pk (b:=pendB R) hd 0)
 | succ i ih=>
  intro hi;have h0:=ih (by omega);have h9:(seeTo (pendB R) k o' i).cv (PkD (pendB R) (i+1)):=h0.mono (fun d hd=>hd.mono (by omega));have q1:=h.p1;have q2:=h.p2;have q3:=h.rlt;have q4:=h.cl;have q5:=h.el
  have q6:=(h.ok.getD r).1;rw [seeTo];split
  ·split
   ·refine h9.take _ _ (pk_self ?_ ?_ ?_ (by omega) (by omega))
    ·omega
    ·show(pendB R).o<(R.clock.length:Int);omega
    ·omega
   ·exact h9
  ·exact h9
theorem RU.head(h:RU n r R)(h1:R.st=1)(he:R.effs ≠ []):Wv.isB (pendB R)=true:=by
 have h2:=h.rlt;have h3:=h.el;have h4:=h.n2;have h5:=h.n4;have h6:=h.cl
 have ho:=h.p1;have hsq:=h.p2;have hs30:=h.seq h1;have hc:(pendB R).clock=R.clock:=rfl;have hl:(pendB R).clock.length=n:=h6;have hpos:0<R.effs.length:=List.length_pos_iff.2 he;have hel:(pendB R).effs.length=R.effs.length:=rfl;have ht:(pendB R).t=R.time+1:=rfl;have ht1:R.time<=120:=by have:=h.time;have:=h.ok.sum;omega
 have ht0:=h.ok.time0;have hg0:=(h.ok.getD r).1;unfold Wv.isB headOk;rw [ak];constructor
 ·simp only [ak,aq]
  refine⟨⟨⟨⟨⟨⟨by omega,by omega⟩,by omega,by omega⟩,by omega,by omega⟩,by omega,by omega⟩,by omega,by omega⟩, ?_⟩
  have hall:∀m,m<=n->clkTo (pendB R) m=true:=by
   intro m;induction m with
   | zero=>intro _;rfl
   | succ m ih=>
    intro hm;rw [clkTo,ih (by omega),Bool.true_and];unfold cOk;rw [hc,ho,hsq];have hgm:=h.ok.getD m;by_cases hq:r=m
    ·subst hq
     have e1:(R.clock.getD r 0==R.clock.getD r 0+1 - 1)=true:=by rw [beq_iff_eq];omega
     rw [e1,aT hgm.1,aT hgm.2];simp
    ·have e1:((m:Int)==(r:Int))=false:=beq_eq_false_iff_ne.2 (by omega)
     rw [e1,aT hgm.1,aT hgm.2];rfl
  unfold clkOk;rw [hl];exact hall n (ac _)
 ·have hall:∀m,m<=R.effs.length->effsTo (pendB R) m=true:=by
   intro m;induction m with
   | zero=>intro _;rfl
   | succ m ih=>
    intro hm;rw [effsTo,ih (by omega),Bool.true_and]
    have e:(pendB R).effs.getD m ⟨0,0,0,⟨0,0,0⟩, []⟩=R.effs[m]:=by
     show R.effs.getD m _=_;simp [show m<R.effs.length by omega]
    rw [e];exact h.eff m (by omega)
  rw [hel];exact hall _ (ac _)
theorem RU.gb(h:RU n r R)(h1:R.st=1)(he:R.effs ≠ []):Gb n (pendB R):=⟨h.head h1 he,h.cl,by show R.time+1<=(sumN R.clock:Int)+1;have:=h.time;omega⟩
end
theorem zvp{C:Dt->Prop}{obs:List Ob}(h:∀o∈obs,o.cv C)(s:Stp)(e:Ef)(hs:C s.d):∀o∈zcg obs s e,o.cv C:=by
 unfold zcg;split
 ·exact h
 ·rename_i o ho
  intro x hx;rcases List.mem_or_eq_of_mem_set hx with q | q
  ·exact h x q
  ·rw [q];exact(h o (an ho)).take s e hs
theorem zpn{C:Dt->Prop}{obs:List Ob}(b:Bt)(h:∀o∈obs,o.cv C)(hs:∀i,i<b.effs.length->C (zbi b i).d):∀j,j<=b.effs.length->∀o∈obsTo b obs j,o.cv C
 | 0,_=>h
 | j+1,hj=>by
  have ih:=zpn b h hs j (by omega);rw [obsTo];split
  ·exact ih
  ·exact zvp ih _ _ (hs j (by omega))
theorem zoz(obs:List Ob)(s:Stp)(e:Ef)(k:Nat):((zcg obs s e)[k]?).map Ob.kind=(obs[k]?).map Ob.kind:=by
 unfold zcg;split
 ·rfl
 ·rename_i o ho
  rw [List.getElem?_set];split
  ·rename_i e1
   subst e1;rw [ho];split
   ·show some (o.take s e).kind=some o.kind
    rw [Ob.take_kind]
   ·rename_i hl
    rw [aF (by omega)] at ho;cases ho
  ·rfl
theorem zgw(b:Bt)(obs:List Ob)(k:Nat):∀j,((obsTo b obs j)[k]?).map Ob.kind=(obs[k]?).map Ob.kind
 | 0=>rfl
 | j+1=>by
  rw [obsTo];split
  ·exact zgw b obs k j
  ·rw [zoz];exact zgw b obs k j
theorem zbz(l:List Int)(k j:Nat)(z:Int)(hk:k<l.length):(l.set k z).getD j 0=if j=k then z else l.getD j 0:=by
 by_cases h:j=k
 ·subst h;simp [hk]
 ·rw [ap h,ai,ai,aK (fun e=>h e.symm)]
theorem zky{cl:List Int}{b:Bt}(hd:dueB cl b=true)(h0:0<=b.o)(h1:b.o<b.clock.length):ClkLe cl (cl.set b.o.toNat b.s):=by
 obtain⟨e1,_,e3⟩:=zbf hd;refine⟨by simp,fun j=> ?_⟩;rw [zbz _ _ _ _ (by omega)];split
 ·rename_i e;subst e;omega
 ·exact Int.le_refl _
section
variable {n r : Nat} {R : Rp}
theorem RU.allcv(h:RU n r R):∀o∈R.obs,o.cv (CkD R.clock):=fun o ho=>by
 obtain⟨k,hk,rfl⟩:=aI.1 ho;obtain⟨o',g1,_,g3⟩:=h.obs k (by rw [←h.ok.obs8];exact hk);rw [ag hk] at g1;rw [Option.some.inj g1];exact g3
theorem RU.deliver(h:RU n r R){b:Bt}{fr:List UInt8}{hs:List Bt}(hb:Gb n b)(hd:dueB R.clock b=true)(hf:fr.length<=70000)(hh:∀x∈hs,Gb n x)(hl:hs.length<=6)(ho:b.o ≠ r∨R.st=0):RU n r (zam R b fr hs):=by
 obtain⟨p1,p2,p3,p4,p5,p6,p7,p8⟩:=zal hb.isB;obtain⟨d1,d2,d3⟩:=zbf hd;have hle:=zky hd p2 p3;have hc:(zam R b fr hs).clock=R.clock.set b.o.toNat b.s:=rfl;have hol:b.o.toNat<R.clock.length:=by omega
 have hsum:sumN (R.clock.set b.o.toNat b.s)=sumN R.clock+1:=zjw _ _ _ hol (h.ok.getD _).1 d3;have hst:(zam R b fr hs).st=R.st:=rfl;have heq:(zam R b fr hs).effs=R.effs:=rfl;refine⟨h.ok.deliver hb.isB hf hd (fun x hx=>(hh x hx).isB) hl,by rw [hc,aE];exact h.cl,h.n2,h.n4,h.rlt,h.num,h.st,h.idle,fun e=> ?_,h.el,fun j hj=> ?_,fun k hk=> ?_, ?_,hh⟩
 ·rw [hc,zbz _ _ _ _ hol]
  have e:R.st=1:=e;rcases ho with q | q
  ·rw [ap (by omega)];exact h.seq e
  ·omega
 ·rcases ho with q | q
  ·refine zti (b:=pendB R) (b':=pendB (zam R b fr hs)) rfl ?_ hle (h.eff j hj)
   show(R.clock.set b.o.toNat b.s).getD R.n.toNat 0+1=R.clock.getD R.n.toNat 0+1;rw [zbz _ _ _ _ hol,ap (by have:=h.num;omega)]
  ·have:=h.idle q
   have hj:j<R.effs.length:=hj;rw [this] at hj;cases hj
 ·obtain⟨o,g1,g2,g3⟩:=h.obs k hk
  have hkk:=zgw b R.obs k b.effs.length;rw [g1] at hkk;cases hq:(obsTo b R.obs b.effs.length)[k]? with
  | none=>rw [hq] at hkk;cases hkk
  | some o'=>
   rw [hq] at hkk;have hkk:o'.kind=o.kind:=Option.some.inj hkk;refine⟨o',hq,hkk.trans g2, ?_⟩;refine zpn b (fun x hx=>(h.allcv x hx).mono (fun d hd=>hd.mono hle)) (fun i hi=> ?_) _ (ac _) o' (an hq);show CkD (R.clock.set b.o.toNat b.s) ⟨b.o,b.s,i⟩;refine⟨p2,by show b.o<((R.clock.set b.o.toNat b.s).length:Int);rw [aE];omega,p4, ?_,by show(0:Int)<=(i:Int);omega,by show(i:Int)<5;omega⟩;show b.s<=(R.clock.set b.o.toNat b.s).getD b.o.toNat 0;rw [zbz _ _ _ _ hol,aA rfl];exact Int.le_refl _
 ·show max R.time b.t<=(sumN (R.clock.set b.o.toNat b.s):Int)
  rw [hsum];have h1:=h.time;have h2:=hb.t
  have h3:sumN b.clock<=sumN R.clock:=zt8 d1 (fun j=>by
   by_cases hj:j<b.clock.length
   ·exact d2 j hj
   ·have e1:b.clock.getD j 0=0:=by simp [aF (show b.clock.length<=j by omega)]
    rw [e1]
    exact(h.ok.getD j).1)
  omega
end
section
variable {n r : Nat} {R : Rp}
theorem RU.begin(h:RU n r R):RU n r (zbt R).1:=by
 unfold zbt;split
 ·exact h
 ·rename_i h1
  split
  ·exact h
  ·rename_i h2
   have hs0:R.st=0:=by rcases h.st with e | e;exact e;exact absurd e h1
   have he:=h.idle hs0;rw [h.num,aj] at h2;refine⟨h.ok.same rfl rfl rfl rfl rfl,h.cl,h.n2,h.n4,h.rlt,h.num,Or.inr rfl,fun _=>he,fun _=> ?_,h.el,fun j hj=>h.eff j hj,h.obs,h.time,h.held⟩;have:=(h.ok.getD r).2;show R.clock.getD r 0<30;omega
theorem RU.end(h:RU n r R):RU n r (endR R):=
 ⟨h.ok.same rfl rfl rfl rfl rfl,h.cl,h.n2,h.n4,h.rlt,h.num,Or.inl rfl,fun _=>rfl,fun e=>(by cases e),az _,fun j hj=>(by cases hj),h.obs,h.time,h.held⟩
theorem RU.sync(h:RU n r R):RU n r (syncR R):=
 ⟨h.ok.same rfl rfl rfl rfl rfl,h.cl,h.n2,h.n4,h.rlt,h.num,h.st,h.idle,h.seq,h.el,fun j hj=>h.eff j hj,h.obs,h.time,h.held⟩
theorem RU.put(h:RU n r R)(h1:R.st=1)(hl:R.effs.length<5)(op:Int)(k:Nat)(a b:Int)(o:Ob)(hk8:k<8)(h1':1<=op)(h6:op<=6)(hkd:(k:Int) % 4=rKind op)(ho:R.obs[k]?=some o)(he:((seeTo (pendB R) k o R.effs.length).answer op a b).err=0)
  (hd1:¬(((seeTo (pendB R) k o R.effs.length).answer op a b).ds.length:Int)<rLeastD op) (hd2:¬(((seeTo (pendB R) k o R.effs.length).answer op a b).ds.length:Int)>rMostD op):RU n r (putR R op k a b o):=by
 obtain⟨o',g1,g2,g3⟩:=h.obs k hk8;obtain rfl:o'=o:=by rw [ho] at g1;exact(Option.some.inj g1).symm
 have hkind:((seeTo (pendB R) k o' R.effs.length).kind:Int)=rKind op:=by
  have:∀j,(seeTo (pendB R) k o' j).kind=o'.kind:=by
   intro j;induction j with
   | zero=>rfl
   | succ j ih=>
    rw [seeTo];split
    ·split
     ·rw [Ob.take_kind,ih]
     ·exact ih
    ·exact ih
  rw [this,g2];omega
 have hA:=ans_cv (h.see hk8 ho _ (ac _)) h1' h6 hkind a b he;have hp:(putR R op k a b o').effs=R.effs++ [syE op k ((seeTo (pendB R) k o' R.effs.length).answer op a b)]:=rfl;refine⟨h.ok.same rfl rfl rfl rfl rfl,h.cl,h.n2,h.n4,h.rlt,h.num,h.st,fun e=> ?_,h.seq, ?_,fun j hj=> ?_,h.obs,h.time,h.held⟩
 ·have e:R.st=0:=e
  omega
 ·rw [hp,ah];simp;omega
 ·simp only [hp] at hj ⊢
  by_cases hq:j<R.effs.length
  ·rw [List.getElem_append_left hq,zmv (b:=pendB R) (b':=pendB (putR R op k a b o')) rfl rfl rfl];exact h.eff j hq
  ·have hj':j=R.effs.length:=by simp at hj;omega
   subst hj';rw [List.getElem_append_right (ac _)];simp only [Nat.sub_self,List.getElem_cons_zero];rw [zmv (b:=pendB R) (b':=pendB (putR R op k a b o')) rfl rfl rfl];exact eff_okC hA h1' h6 k hk8 hkd hd1 hd2
theorem RU.held_take(h:RU n r R)(f:Bt->Bool):(∀x∈(takeP zah f R.held).2,Gb n x)∧(takeP zah f R.held).2.length<=6:=by
 refine⟨fun x hx=>h.held x (za6 _ _ _ x (Or.inr hx)), ?_⟩;have h1:=zdl zah f R.held;have h2:=h.ok.most;omega
theorem RU.commit(h:RU n r R)(h1:R.st=1)(he:R.effs ≠ []):RU n r (zcm R):=by
 have hb:=h.gb h1 he;have hfl:=zbd hb.isB;have ht:=h.held_take (likeB (pendB R));exact(RU.deliver (R:=endR R) h.end hb (zkx (R:=R)) hfl ht.1 ht.2 (Or.inr rfl)).sync
theorem RU.heldTo(h:RU n r R){l:List Bt}(hl:∀x∈l,Gb n x)(h6:l.length<=6):RU n r {R with held:=l}:=
 ⟨h.ok.heldTo (fun x hx=>(hl x hx).isB) h6,h.cl,h.n2,h.n4,h.rlt,h.num,h.st,h.idle,h.seq,h.el,fun j hj=>h.eff j hj,h.obs,h.time,hl⟩
theorem zgr{α:Type}{less:α->α->Bool}{f:α->Bool}{bs:List α}{x:α}(h:(takeP less f bs).1=some x):f x=true∧x∈bs:=⟨zju h,za6 less f bs x (Or.inl (by rw [h];simp))⟩
theorem RU.heldR(m:Nat):∀R:Rp,RU n r R->(∀b∈R.held,b.o ≠ r)->RU n r (heldR m R)∧(∀b∈(heldR m R).held,b.o ≠ r):=by
 induction m with
 | zero=>intro R h ho;exact⟨h,ho⟩
 | succ m ih=>
  intro R h ho;have ht:=h.held_take (dueB R.clock);have hm:∀x∈(takeP zah (dueB R.clock) R.held).2,x∈R.held:=fun x hx=>za6 _ _ _ x (Or.inr hx)
  unfold Go.Proofs.YtfmcngncaffloabGreatDoor.heldR;split
  ·rename_i l e
   have e2:l=(takeP zah (dueB R.clock) R.held).2:=by rw [e]
   subst e2;exact⟨h.heldTo ht.1 ht.2,fun b hb=>ho b (hm b hb)⟩
  ·rename_i x l e
   have e1:(takeP zah (dueB R.clock) R.held).1=some x:=by rw [e]
   have e2:l=(takeP zah (dueB R.clock) R.held).2:=by rw [e]
   subst e2;obtain⟨hd,hx⟩:=zgr e1;have hR2:=h.heldTo ht.1 ht.2;have ht2:=hR2.held_take (likeB x);have hgx:=h.held x hx;have hdel:=RU.deliver h hgx hd (zbd hgx.isB) ht2.1 ht2.2 (Or.inl (ho x hx));exact ih _ hdel (fun b hb=>ho b (hm b (za6 _ _ _ b (Or.inr hb))))
theorem RU.frame(h:RU n r R)(l:List UInt8)(hg:∀b,dec l=some b->Gb n b∧(b.o ≠ r∨b.s<=R.clock.getD r 0))(ho:∀b∈R.held,b.o ≠ r):RU n r (za4 R l)∧(∀b∈(za4 R l).held,b.o ≠ r):=by
 unfold za4;cases hd:dec l with
 | none=>exact⟨h,ho⟩
 | some b=>
  obtain⟨hb,hor⟩:=hg b hd;have hll:=(zht hd).2;obtain⟨p1,p2,p3,_⟩:=zal hb.isB;simp only;split
  ·exact⟨h,ho⟩
  ·rename_i hn
   have hbo:b.o ≠ r:=by
    rcases hor with q | q
    ·exact q
    ·intro e
     apply hn;right;rw [e,aj];exact q
   split
   ·rename_i hdu
    have ht:=h.held_take (likeB b);exact RU.heldR _ _ (RU.deliver h hb hdu (by omega) ht.1 ht.2 (Or.inl hbo)) (fun x hx=>ho x (za6 _ _ _ x (Or.inr hx)))
   ·split
    ·rename_i hq
     refine⟨h.heldTo (fun x hx=> ?_) (by rw [zmb];omega),fun x hx=> ?_⟩
     ·rcases zeo _ _ _ x hx with q | q
      ·exact h.held x q
      ·rw [q];exact hb
     ·rcases zeo _ _ _ x hx with q | q
      ·exact ho x q
      ·rw [q];exact hbo
    ·exact⟨h,ho⟩
end
theorem RU.new(r n:Nat)(hr:r<n)(h2:2<=n)(h4:n<=4):RU n r (newR r n):=by
 refine⟨Rok.new r n h4,by show(List.replicate n (0:Int)).length=n;simp,h2,h4,hr,rfl,Or.inl rfl,fun _=>rfl,fun e=>(by cases e),az _,fun j hj=>(by cases hj),fun k hk=> ?_,by show(0:Int)<=_;omega,fun b hb=>(by cases hb)⟩;have hne:∀C:Dt->Prop,LvC C []:=fun C=>⟨by simp,fun p hp=>by cases hp⟩
 rcases k with _ | _ | _ | _ | _ | _ | _ | _ | k
 ·exact⟨_,rfl,rfl,trivial⟩
 ·exact⟨_,rfl,rfl,hne _⟩
 ·exact⟨_,rfl,rfl,hne _⟩
 ·exact⟨_,rfl,rfl,fun e he=>by cases he⟩
 ·exact⟨_,rfl,rfl,trivial⟩
 ·exact⟨_,rfl,rfl,hne _⟩
 ·exact⟨_,rfl,rfl,hne _⟩
 ·exact⟨_,rfl,rfl,fun e he=>by cases he⟩
 ·omega
def FrB(bs:List Bt):List UInt8:=bs.flatMap frameB
theorem zgg:FrB []= []:=rfl
theorem za3(b:Bt)(bs:List Bt):FrB (b::bs)=frameB b++FrB bs:=rfl
theorem zfa(a b:List Bt):FrB (a++b)=FrB a++FrB b:=List.flatMap_append
theorem zmr{b:Bt}(h:Wv.isB b=true):15<=(frameB b).length∧num2 (frameB b)=(frameB b).length:=by
 obtain⟨h1,h2,h3,h4⟩:=frame_len b h;exact⟨by omega,h2⟩
theorem zpo(a r:List UInt8)(h:2<=a.length):num2 (a++r)=num2 a:=by
 unfold num2;have e0:(a++r).getD 0 0=a.getD 0 0:=by simp [List.getElem?_append_left (show 0<a.length by omega)]
 have e1:(a++r).getD 1 0=a.getD 1 0:=by simp [List.getElem?_append_left (show 1<a.length by omega)]
 rw [e0,e1]
theorem zdm{b:Bt}(h:Wv.isB b=true)(r:List UInt8):fstB (frameB b++r)=frameB b:=by
 obtain⟨h1,h2⟩:=zmr h;unfold fstB;rw [two_first _ (by rw [ah];omega),zpo _ _ (by omega),h2,aj,List.take_left]
def NoFr(l:List UInt8):Prop:=dec (fstB l)=none
theorem zhk:NoFr []:=by
 unfold NoFr dec fstB;simp
theorem zzk{b:Bt}(h:Wv.isB b=true)(m:Nat)(hm:m<(frameB b).length):NoFr ((frameB b).take m):=by
 obtain⟨h1,h2⟩:=zmr h;have hl:((frameB b).take m).length=m:=by rw [al];omega
 unfold NoFr;by_cases hm2:m<4
 ·have hf:=zji ((frameB b).take m)
  unfold dec;rw [ap (by omega)]
 ·have e1:num2 ((frameB b).take m)=(frameB b).length:=by
   have:=zpo ((frameB b).take m) ((frameB b).drop m) (by omega);rw [aH] at this;rw [←this];exact h2
  have e2:fstB ((frameB b).take m)=(frameB b).take m:=by
   unfold fstB;rw [two_first _ (by omega),e1,aj,aM (by omega)]
  rw [e2];unfold dec;rw [ap (by rw [e1,hl];omega)]
theorem ziu:∀(bs:List Bt),(∀b∈bs,Wv.isB b=true)->∀m,∃k tl,k<=bs.length∧(FrB bs).take m=FrB (bs.take k)++tl∧NoFr tl∧∀j,j<=bs.length->(FrB (bs.take j)).length<=m->j<=k
 | [],_,m=>⟨0, [],ac _,by simp [FrB],zhk,fun j hj _=>by simpa using hj⟩
 | b::bs,hb,m=>by
  have hib:=hb b (by simp);by_cases hm:m<(frameB b).length
  ·refine⟨0,(frameB b).take m,az _, ?_,zzk hib m hm,fun j hj hl=> ?_⟩
   ·rw [za3,List.take_append_of_le_length (by omega)]
    rfl
   ·rcases j with _ | j
    ·exact ac _
    ·rw [List.take_succ_cons,za3,ah] at hl
     omega
  ·obtain⟨k,tl,h1,h2,h3,h4⟩:=ziu bs (fun x hx=>hb x (by simp [hx])) (m - (frameB b).length)
   refine⟨k+1,tl,by simpa using h1, ?_,h3,fun j hj hl=> ?_⟩
   ·rw [za3,List.take_append,aM (by omega),h2,List.take_succ_cons,za3,au]
   ·rcases j with _ | j
    ·exact az _
    ·rw [List.take_succ_cons,za3,ah] at hl
     have:=h4 j (by simpa using hj) (by omega);omega
def runC(c:List Int):List Bt->List Int
 | []=>c
 | b::bs=>runC (c.set b.o.toNat b.s) bs
def dueS(c:List Int):List Bt->Prop
 | []=>True
 | b::bs=>dueB c b=true∧dueS (c.set b.o.toNat b.s) bs
theorem zc5(c:List Int):∀(a b:List Bt),runC c (a++b)=runC (runC c a) b
 | [],_=>rfl
 | x::a,b=>by rw [aR,runC,runC];exact zc5 _ a b
theorem zcs:∀(c:List Int) (a b:List Bt),dueS c (a++b)↔dueS c a∧dueS (runC c a) b
 | c, [],b=>by simp [dueS,runC]
 | c,x::a,b=>by
  rw [aR,dueS,dueS,runC,zcs _ a b,and_assoc]
theorem zil{c:List Int}{bs:List Bt}(h:dueS c bs)(k:Nat):dueS c (bs.take k):=by
 rw [←aH k bs,zcs] at h;exact h.1
theorem zh2{n r:Nat}:∀(bs:List Bt) (tl:List UInt8) (R:Rp) (m:Nat),(∀b∈bs,Gb n b)->NoFr tl->dueS R.clock bs->RU n r R->R.st=0->R.held= []->(FrB bs++tl).length<=m->
  RU n r (zau m R (FrB bs++tl))∧(zau m R (FrB bs++tl)).log=R.log++FrB bs∧(zau m R (FrB bs++tl)).clock=runC R.clock bs∧(zau m R (FrB bs++tl)).st=0∧(zau m R (FrB bs++tl)).held= []∧(zau m R (FrB bs++tl)).effs=R.effs
 | [],tl,R,m,_,ht,_,hR,hst,hh,_=>by
  rw [zgg,List.nil_append,zd9 ht];exact⟨hR,by simp,rfl,hst,hh,rfl⟩
 | b::bs,tl,R,m,hb,ht,hd,hR,hst,hh,hm=>by
  have hgb:=hb b (by simp);have e1:fstB (FrB (b::bs)++tl)=frameB b:=by rw [za3,au,zdm hgb.isB]
  have e2:dec (fstB (FrB (b::bs)++tl))=some b:=by rw [e1];exact dec_frame b hgb.isB
  have e3:(FrB (b::bs)++tl).drop (fstB (FrB (b::bs)++tl)).length=FrB bs++tl:=by rw [e1,za3,au,List.drop_left]
  obtain⟨m2,hm2,hr⟩:=ze0 (n:=m) (R:=R) e2 hd.1 hm;rw [e3] at hm2 hr;rw [e1] at hr;rw [←hr];have hR2:=RU.deliver (fr:=frameB b) (hs:= []) hR hgb hd.1 (zbd hgb.isB) (fun x hx=>by cases hx) (by simp) (Or.inr hst);obtain⟨g1,g2,g3,g4,g5,g6⟩:=zh2 bs tl (zam R b (frameB b) []) m2 (fun x hx=>hb x (by simp [hx])) ht hd.2 hR2 hst rfl hm2;refine⟨g1, ?_,g3,g4,g5,g6⟩;rw [g2,za3];show(R.log++frameB b)++FrB bs=R.log++(frameB b++FrB bs)
  rw [au]
theorem ziy{n:Nat}:∀(bs:List Bt) (tl:List UInt8),(∀b∈bs,Gb n b)->NoFr tl->LogN n (FrB bs++tl)
 | [],tl,_,ht=>fun m p hp=>by
  rw [zgg,List.nil_append] at hp;cases m with
  | zero=>cases hp
  | succ m=>
   have ht:dec (fstB tl)=none:=ht;rw [allN,ht] at hp;cases hp
 | b::bs,tl,hb,ht=>fun m p hp=>by
  have hgb:=hb b (by simp);have e1:fstB (FrB (b::bs)++tl)=frameB b:=by rw [za3,au,zdm hgb.isB]
  have e2:dec (fstB (FrB (b::bs)++tl))=some b:=by rw [e1];exact dec_frame b hgb.isB
  have e3:(FrB (b::bs)++tl).drop (fstB (FrB (b::bs)++tl)).length=FrB bs++tl:=by rw [e1,za3,au,List.drop_left]
  cases m with
  | zero=>cases hp
  | succ m=>
   rw [allN,e2] at hp;simp only [e3,ar] at hp;rcases hp with q | q
   ·rw [q];exact hgb.cl
   ·exact ziy bs tl (fun x hx=>hb x (by simp [hx])) ht m p q
def obsL(obs:List Ob):List Bt->List Ob
 | []=>obs
 | b::bs=>obsL (obsTo b obs b.effs.length) bs
def obN:List Ob:= [.counter 0, .set [], .reg [], .list [], .counter 0, .set [], .reg [], .list []]
theorem zhj:∀(bs:List Bt) (obs:List Ob) (ds:List Bt),obsL obs (bs++ds)=obsL (obsL obs bs) ds
 | [],_,_=>rfl
 | b::bs,obs,ds=>zhj bs (obsTo b obs b.effs.length) ds
theorem zyz{n:Nat}:∀(bs:List Bt) (tl:List UInt8) (R:Rp) (m:Nat),(∀b∈bs,Gb n b)->NoFr tl->dueS R.clock bs->(FrB bs++tl).length<=m->(zau m R (FrB bs++tl)).obs=obsL R.obs bs
 | [],tl,R,m,_,ht,_,_=>by
  rw [zgg,List.nil_append,zd9 ht];rfl
 | b::bs,tl,R,m,hb,ht,hd,hm=>by
  have hgb:=hb b (by simp);have e1:fstB (FrB (b::bs)++tl)=frameB b:=by rw [za3,au,zdm hgb.isB]
  have e2:dec (fstB (FrB (b::bs)++tl))=some b:=by rw [e1];exact dec_frame b hgb.isB
  have e3:(FrB (b::bs)++tl).drop (fstB (FrB (b::bs)++tl)).length=FrB bs++tl:=by rw [e1,za3,au,List.drop_left]
  obtain⟨m2,hm2,hr⟩:=ze0 (n:=m) (R:=R) e2 hd.1 hm;rw [e3] at hm2 hr;rw [e1] at hr;rw [←hr,zyz bs tl (zam R b (frameB b) []) m2 (fun x hx=>hb x (by simp [hx])) ht hd.2 hm2];rfl
def mkE(b:Bt)(j:Nat)(e:Ef):Mk:=⟨⟨e,none,0⟩,(zbi b j).d,(zbi b j).t⟩
def mkTo(k:Nat)(b:Bt):Nat->List Mk
 | 0=> []
 | j+1=>match b.effs[j]? with
  | none=>mkTo k b j
  | some e=>if e.ob.toNat=k then mkTo k b j++ [mkE b j e] else mkTo k b j
def zbr(k:Nat)(bs:List Bt):List Mk:=bs.flatMap (fun b=>mkTo k b b.effs.length)
theorem zps(k:Nat)(bs:List Bt)(b:Bt):zbr k (bs++ [b])=zbr k bs++mkTo k b b.effs.length:=by unfold zbr;simp
theorem zda(k:Nat)(b:Bt)(p:Mk):∀j,p∈mkTo k b j↔∃i e,i<j∧b.effs[i]?=some e∧e.ob.toNat=k∧p=mkE b i e
 | 0=>by simp [mkTo]
 | j+1=>by
  have ih:=zda k b p j;have up:(∃i e,i<j∧b.effs[i]?=some e∧e.ob.toNat=k∧p=mkE b i e)->∃i e,i<j+1∧b.effs[i]?=some e∧e.ob.toNat=k∧p=mkE b i e:=fun⟨i,e,h1,h2⟩=>⟨i,e,by omega,h2⟩
  rw [mkTo];split
  ·rename_i hn
   rw [ih];refine⟨up,fun⟨i,e,h1,h2,h3⟩=> ?_⟩;by_cases hi:i=j
   ·subst hi;rw [hn] at h2;cases h2
   ·exact⟨i,e,by omega,h2,h3⟩
  ·rename_i e0 he
   split
   ·rename_i hk
    rw [ao,aB,ih];constructor
    ·rintro(q | rfl)
     ·exact up q
     ·exact⟨j,e0,by omega,he,hk,rfl⟩
    ·rintro⟨i,e,h1,h2,h3,h4⟩
     by_cases hi:i=j
     ·subst hi;rw [he] at h2;cases h2;exact Or.inr h4
     ·exact Or.inl ⟨i,e,by omega,h2,h3,h4⟩
   ·rename_i hk
    rw [ih];refine⟨up,fun⟨i,e,h1,h2,h3,h4⟩=> ?_⟩;by_cases hi:i=j
    ·subst hi;rw [he] at h2;cases h2;exact absurd h3 hk
    ·exact⟨i,e,by omega,h2,h3,h4⟩
theorem zbw(k:Nat)(bs:List Bt)(p:Mk):p∈zbr k bs↔∃b∈bs,∃i e,b.effs[i]?=some e∧e.ob.toNat=k∧p=mkE b i e:=by
 unfold zbr;rw [List.mem_flatMap];constructor
 ·rintro⟨b,hb,hp⟩
  obtain⟨i,e,_,h2⟩:=(zda k b p _).1 hp;exact⟨b,hb,i,e,h2⟩
 ·rintro⟨b,hb,i,e,h1,h2⟩
  exact⟨b,hb,(zda k b p _).2 ⟨i,e,(af.1 h1).1,h1,h2⟩⟩
structure Cb(pre:List Bt)(b:Bt):Prop where
 o0:0<=b.o
 s1:1<=b.s
 ow:b.clock.getD b.o.toNat 0<b.s
 eff:∀(j:Nat) e,b.effs[j]?=some e->effOk b j e=true
 nw:∀c∈pre,c.o=b.o->c.s ≠ b.s
 ce:∀c∈pre,∀(j:Nat) e,c.effs[j]?=some e->effOk c j e=true
 cv:∀c∈pre,c.clock.getD b.o.toNat 0<b.s
 tm:∀c∈pre,c.o=b.o->c.t<b.t
 rf:∀(j:Nat) e,b.effs[j]?=some e->e.op=5->e.ref=⟨0,0,0⟩∨(∃p∈zbr e.ob.toNat pre,p.m.e.op=5∧p.d=e.ref∧p.t<b.t)∨∃(i:Nat) (f:Ef),i<j∧b.effs[i]?=some f∧f.op=5∧f.ob.toNat=e.ob.toNat∧(zbi b i).d=e.ref
theorem ze6{b:Bt}{j:Int}{e:Ef}(h:effOk b j e=true):(∀d∈e.dots,cov b d j=true)∧(e.ref=⟨0,0,0⟩∨cov b e.ref j=true)∧(e.op=6->e.dots= [])∧(e.op=2->0<=e.va∧e.va<=255)∧e.ob % 4=rKind e.op∧0<=e.ob∧e.ob<=7∧1<=e.op∧e.op<=6:=by
 unfold effOk isOp at h;simp only [ak,aq,beq_iff_eq] at h;obtain⟨⟨⟨⟨⟨h1,⟨h2,h2b⟩,h3⟩,h4⟩,h5⟩,h6,h7⟩,h8⟩:=h;refine⟨fun d hd=> ?_, ?_,fun e6=> ?_,fun e2=> ?_,h3,h2,h2b,h1.1,h1.2⟩
 ·obtain⟨k,hk,rfl⟩:=aI.1 hd
  have:=dotsTo_at b j e.dots e.dots.length k hk h8;unfold dOk at this;rw [ak] at this;have h9:=this.2;rw [ai,ag hk] at h9;exact h9
 ·unfold refOk at h5
  split at h5
  ·rename_i hn
   left;unfold noneD at hn;simp only [ak,beq_iff_eq] at hn;cases hr:e.ref with
   | mk o s i=>
    rw [hr] at hn;obtain⟨⟨a,b⟩,c⟩:=hn;simp only at a b c;rw [a,b,c]
  ·rw [ak] at h5
   exact Or.inr h5.2
 ·rw [e6] at h7
  have:rMostD 6=0:=rfl;rw [this] at h7;exact List.length_eq_zero_iff.1 (by omega)
 ·rw [e2] at h4
  have a:rLeast 2=0:=rfl;have b:rGreat 2=255:=rfl;rw [a,b] at h4;exact h4
theorem zxt{b:Bt}{d:Dt}{j:Int}(h:cov b d j=true):1<=d.s∧(d.s<=b.clock.getD d.o.toNat 0∨(d.o=b.o∧d.s=b.s∧d.i<j)):=by
 unfold cov inD at h;simp only [ak,Bool.or_eq_true,aq,beq_iff_eq] at h;obtain⟨⟨⟨⟨_,h2⟩,_⟩,_⟩,h3⟩:=h;exact⟨h2,h3.imp id (fun q=>⟨q.1.1,q.1.2,q.2⟩)⟩
theorem Cb.fr{pre:List Bt}{b:Bt}(h:Cb pre b){j:Nat}{e:Ef}(he:b.effs[j]?=some e):Fr (zbr e.ob.toNat pre++mkTo e.ob.toNat b j) (mkE b j e):=by
 have hx:=ze6 (h.eff j e he);have hs:=h.s1;have how:=h.ow
 have hno:∀(c:Bt) (i:Int) (d:Dt),cov c d i=true->c.clock.getD b.o.toNat 0<b.s->(c.o=b.o->c.s=b.s->i<=j)->d ≠⟨b.o,b.s,j⟩:=fun c i d hc h1 h2 e=>by
  rcases (zxt hc).2 with q | ⟨q1,q2,q3⟩
  ·rw [e] at q
   have q:b.s<=c.clock.getD b.o.toNat 0:=q;omega
  ·rw [e] at q1 q2 q3
   have:=h2 q1.symm q2.symm;have q3:(j:Int)<i:=q3;omega
 have hz:(⟨b.o,b.s,(j:Int)⟩:Dt)≠⟨0,0,0⟩:=fun e=>by
  have:=aD Dt.s e;simp only at this;omega
 have hnn:∀(c:Bt) (i:Nat) (f:Ef),effOk c i f=true->c.clock.getD b.o.toNat 0<b.s->(c.o=b.o->c.s=b.s->i<=j)->(⟨b.o,b.s,(j:Int)⟩:Dt)∉f.dots∧f.ref ≠⟨b.o,b.s,j⟩:=fun c i f hf h1 h2=>by
  have hy:=ze6 hf;refine⟨fun hd=>hno c i _ (hy.1 _ hd) h1 (fun a b=>by have:=h2 a b;omega) rfl,fun hr=> ?_⟩;rcases hy.2.1 with q | q
  ·rw [q] at hr;exact hz hr.symm
  ·exact hno c i _ q h1 (fun a b=>by have:=h2 a b;omega) hr
 refine⟨hz,fun k hk=> ?_,fun k hk=> ?_,hnn b j e (h.eff j e he) how (fun _ _=>ac _),fun h5=> ?_,fun k hk=> ?_,fun e6=>hx.2.2.1 e6,fun e2=>hx.2.2.2.1 e2⟩
 ·rcases ao.1 hk with q | q
  ·obtain⟨c,hc,i,f,h1,h2,rfl⟩:=(zbw _ _ _).1 q
   intro e;have e1:c.o=b.o:=aD Dt.o e;exact h.nw c hc e1 (aD Dt.s e)
  ·obtain⟨i,f,h1,h2,h3,rfl⟩:=(zda _ _ _ _).1 q
   intro e;have:(i:Int)=j:=aD Dt.i e;omega
 ·rcases ao.1 hk with q | q
  ·obtain⟨c,hc,i,f,h1,h2,rfl⟩:=(zbw _ _ _).1 q
   exact hnn c i f (h.ce c hc i f h1) (h.cv c hc) (fun a b=>absurd b (h.nw c hc a))
  ·obtain⟨i,f,h1,h2,h3,rfl⟩:=(zda _ _ _ _).1 q
   exact hnn b i f (h.eff i f h2) how (fun _ _=>by omega)
 ·rcases h.rf j e he h5 with q | ⟨p,q1,q2,q3,q4⟩ | ⟨i,f,q1,q2,q3,q4,q5⟩
  ·exact Or.inl q
  ·refine Or.inr ⟨p,ao.2 (Or.inl q1),q2,q3, ?_⟩
   unfold zar;have:¬(mkE b j e).t=p.t:=by show¬b.t=p.t;omega
   rw [ap this,aq];exact q4
  ·refine Or.inr ⟨mkE b i f,ao.2 (Or.inr ((zda _ _ _ _).2 ⟨i,f,q1,q2,q4,rfl⟩)),q3,q5, ?_⟩
   unfold zar;rw [aA (show(mkE b j e).t=(mkE b i f).t from rfl),aA (show(mkE b j e).d.o=(mkE b i f).d.o from rfl),aq];show(i:Int)<j;omega
 ·rcases ao.1 hk with q | q
  ·obtain⟨c,hc,i,f,h1,h2,rfl⟩:=(zbw _ _ _).1 q
   unfold zar;by_cases ht:b.t=c.t
   ·have ho:¬b.o=c.o:=fun e=>by have:=h.tm c hc e.symm;omega
    have ho':¬c.o=b.o:=fun e=>ho e.symm
    rw [aA (show(mkE b j e).t=(mkE c i f).t from ht),ap (show¬(mkE b j e).d.o=(mkE c i f).d.o from ho),aA (show(mkE c i f).t=(mkE b j e).t from ht.symm),ap (show¬(mkE c i f).d.o=(mkE b j e).d.o from ho')];simp only [aq];show c.o<b.o∨b.o<c.o;omega
   ·rw [ap (show¬(mkE b j e).t=(mkE c i f).t from ht),ap (show¬(mkE c i f).t=(mkE b j e).t from fun q=>ht q.symm)]
    simp only [aq];show c.t<b.t∨b.t<c.t;omega
  ·obtain⟨i,f,h1,h2,h3,rfl⟩:=(zda _ _ _ _).1 q
   left;unfold zar;rw [aA (show(mkE b j e).t=(mkE b i f).t from rfl),aA (show(mkE b j e).d.o=(mkE b i f).d.o from rfl),aq];show(i:Int)<j;omega
theorem Cb.ov{pre:List Bt}{b:Bt}(h:Cb pre b){k:Nat}{obs:List Ob}{o:Ob}(ho:obs[k]?=some o)(hkd:o.kind=k % 4)(hm:Mks (zbr k pre))(hov:OV (zbr k pre) o):∀j,j<=b.effs.length->Mks (zbr k pre++mkTo k b j)∧∃o',(obsTo b obs j)[k]?=some o'∧o'.kind=k % 4∧OV (zbr k pre++mkTo k b j) o'
 | 0,_=>⟨by rw [mkTo,List.append_nil];exact hm,o,ho,hkd,by rw [mkTo,List.append_nil];exact hov⟩
 | j+1,hj=>by
  obtain⟨g1,o',g2,g3,g4⟩:=Cb.ov h ho hkd hm hov j (by omega);have he:b.effs[j]?=some b.effs[j]:=ag (by omega);rw [mkTo,obsTo,he];simp only;by_cases hk:b.effs[j].ob.toNat=k
  ·rw [aA hk,←au]
   have hf:=h.fr he;rw [hk] at hf;have hx:=ze6 (h.eff j _ he);refine⟨.snoc g1 hf,o'.take (zbi b j) b.effs[j], ?_,by rw [Ob.take_kind];exact g3, ?_⟩
   ·unfold zcg
    rw [hk,g2];exact List.getElem?_set_self (af.1 g2).1
   ·refine g4.take g1 hf (fun h2=> ?_)
    show b.effs[j].op=4;have h3:b.effs[j].ob % 4=rKind b.effs[j].op:=hx.2.2.2.2.1;have h4:0<=b.effs[j].ob:=hx.2.2.2.2.2.1;have h5:b.effs[j].ob % 4=2:=by omega
    rw [h5] at h3;have h6:=hx.2.2.2.2.2.2.2;unfold rKind at h3;(repeat' split at h3)<;>omega
  ·rw [ap hk]
   refine⟨g1,o', ?_,g3,g4⟩;unfold zcg;split
   ·exact g2
   ·rw [aK hk];exact g2
inductive Cls:List Bt->Prop
 | nil:Cls []
 | snoc {pre:List Bt} {b:Bt} (h:Cls pre) (hb:Cb pre b):Cls (pre++ [b])
theorem Cls.ov{bs:List Bt}(h:Cls bs){k:Nat}(hk:k<8):Mks (zbr k bs)∧∃o,(obsL obN bs)[k]?=some o∧o.kind=k % 4∧OV (zbr k bs) o:=by
 induction h with
 | nil=>
  refine⟨.nil, ?_⟩;have hm:zbr k []= []:=rfl;rw [hm];obtain rfl | rfl | rfl | rfl | rfl | rfl | rfl | rfl:k=0∨k=1∨k=2∨k=3∨k=4∨k=5∨k=6∨k=7:=by omega
  ·exact⟨_,rfl,rfl,OV.new 0⟩
  ·exact⟨_,rfl,rfl,OV.new 1⟩
  ·exact⟨_,rfl,rfl,OV.new 2⟩
  ·exact⟨_,rfl,rfl,OV.new 3⟩
  ·exact⟨_,rfl,rfl,OV.new 0⟩
  ·exact⟨_,rfl,rfl,OV.new 1⟩
  ·exact⟨_,rfl,rfl,OV.new 2⟩
  ·exact⟨_,rfl,rfl,OV.new 3⟩
 | snoc h hb ih=>
  obtain⟨g1,o,g2,g3,g4⟩:=ih;rw [zps,zhj];exact hb.ov g2 g3 g1 g4 _ (ac _)
theorem znr{α:Type}{R:α->α->Prop}(irr:∀a,¬R a a)(tr:∀a b c,R a b->R b c->R a c):∀{l r:List α},l.Pairwise R->r.Pairwise R->(∀x,x∈l↔x∈r)->l=r
 | [], [],_,_,_=>rfl
 | [],y::r,_,_,h=>absurd ((h y).2 (by simp)) (by simp)
 | x::l, [],_,_,h=>absurd ((h x).1 (by simp)) (by simp)
 | x::l,y::r,hl,hr,h=>by
  rw [List.pairwise_cons] at hl hr
  have e:x=y:=by
   rcases ar.1 ((h x).1 (by simp)) with q | q
   ·exact q
   ·rcases ar.1 ((h y).2 (by simp)) with q2 | q2
    ·exact q2.symm
    ·exact absurd (tr _ _ _ (hl.1 y q2) (hr.1 x q)) (irr x)
  subst e;refine aD (x::·) (znr irr tr hl.2 hr.2 fun z=>⟨fun hz=> ?_,fun hz=> ?_⟩)
  ·rcases ar.1 ((h z).1 (by simp [hz])) with q | q
   ·subst q;exact absurd (hl.1 z hz) (irr z)
   ·exact q
  ·rcases ar.1 ((h z).2 (by simp [hz])) with q | q
   ·subst q;exact absurd (hr.1 z hz) (irr z)
   ·exact q
theorem zzc{l r:List Int}(h:l.Perm r):l.sum=r.sum:=by
 induction h with
 | nil=>rfl
 | cons x _ ih=>rw [List.sum_cons,List.sum_cons,ih]
 | swap x y l=>simp only [List.sum_cons];omega
 | trans _ _ h1 h2=>exact h1.trans h2
theorem zme{ks:List Mk}(h:(ks.map (·.d)).Nodup):ks.Nodup:=by
 unfold List.Nodup at *
 rw [List.pairwise_map] at h;exact h.imp (fun h e=>h (by rw [e]))
section
variable {ks kt : List Mk}
theorem zmq(hs:∀p,p∈ks↔p∈kt)(op:Int)(d:Dt):goneK ks op d=goneK kt op d:=by
 unfold goneK;rw [Bool.eq_iff_iff,List.any_eq_true,List.any_eq_true];exact⟨fun⟨x,h1,h2⟩=>⟨x,(hs x).1 h1,h2⟩,fun⟨x,h1,h2⟩=>⟨x,(hs x).2 h1,h2⟩⟩
theorem zpv(h1:Mks ks)(h2:Mks kt)(hs:∀p,p∈ks↔p∈kt)(mk en:Int):livK ks mk en=livK kt mk en:=by
 refine znr (R:=fun a b=>lessD a.d b.d=true) (fun a q=>by rw [zh8] at q;cases q) (fun a b c=>zfr) ?_ ?_ (fun x=> ?_)
 ·have:=zh7 h1 mk en
  unfold Rise at this;rw [List.pairwise_map] at this;exact this
 ·have:=zh7 h2 mk en
  unfold Rise at this;rw [List.pairwise_map] at this;exact this
 ·rw [zfq,zfq,zmq hs,hs]
theorem ch_same(h1:Mks ks)(h2:Mks kt)(hs:∀p,p∈ks↔p∈kt)(d:Dt):chK ks d=chK kt d:=
 znr (R:=fun a b=>zar a b=true) (fun a q=>by rw [zcn] at q;cases q) (fun a b c=>zbp) (zlc h1 d) (zlc h2 d) (fun x=>by rw [zbq,zbq,hs])
theorem zvd(h1:Mks ks)(h2:Mks kt)(hs:∀p,p∈ks↔p∈kt)(d:Dt):treeT ks d=treeT kt d:=
 zdr h1 (fun d=>treeT ks d=treeT kt d) (fun d ih=>by
  rw [zby h1,zby h2,←ch_same h1 h2 hs]
  exact zbh fun c hc=>by rw [ih c hc]) d
theorem ztu(h1:Mks ks)(h2:Mks kt)(hs:∀p,p∈ks↔p∈kt)(r:Nat):zoc ks r=zoc kt r:=by
 unfold zoc;split
 ·have n1:ks.Nodup:=zme h1.nd
  have n2:kt.Nodup:=zme h2.nd;have hp:ks.Perm kt:=(List.perm_ext_iff_of_nodup n1 n2).2 hs;unfold sumK;rw [zzc (hp.map _)]
 ·unfold setK
  rw [zpv h1 h2 hs]
 ·rw [zpv h1 h2 hs]
 ·have e:zik ks=zik kt:=by
   show(treeT ks ⟨0,0,0⟩).filter _=(treeT kt ⟨0,0,0⟩).filter _;rw [zvd h1 h2 hs];congr 1
   funext k
   rw [zmq hs]
  rw [e]
end
theorem cl_agree{xs bs:List Bt}(ha:Cls xs)(hb:Cls bs)(hs:∀b,b∈xs↔b∈bs){k:Nat}(hk:k<8):∃o o',(obsL obN xs)[k]?=some o∧(obsL obN bs)[k]?=some o'∧o.tells=o'.tells:=by
 obtain⟨m1,o,a1,a2,a3⟩:=ha.ov hk;obtain⟨m2,o',b1,b2,b3⟩:=hb.ov hk;refine⟨o,o',a1,b1, ?_⟩;rw [a3.tells m1,b3.tells m2,a2,b2];refine ztu m1 m2 (fun p=> ?_) _;rw [zbw,zbw];exact⟨fun⟨b,q,r⟩=>⟨b,(hs b).1 q,r⟩,fun⟨b,q,r⟩=>⟨b,(hs b).2 q,r⟩⟩
theorem zj4{n r:Nat}:∀(ds:List Bt) (c:List Int),(∀b∈ds,Gb n b)->dueS c ds->c.getD r 0<=(runC c ds).getD r 0
 | [],c,_,_=>Int.le_refl _
 | b::ds,c,hg,hd=>by
  obtain⟨p1,p2,p3,_⟩:=zal (hg b (by simp)).isB;have h1:=(zky hd.1 p2 p3).2 r;have h2:=zj4 (r:=r) ds (c.set b.o.toNat b.s) (fun x hx=>hg x (by simp [hx])) hd.2;rw [runC];omega
theorem zdj{n:Nat}:∀(ds:List Bt) (c:List Int),(∀b∈ds,Gb n b)->dueS c ds->∀b∈ds,c.getD b.o.toNat 0<b.s∧b.s<=(runC c ds).getD b.o.toNat 0
 | [],_,_,_,b,hb=>by cases hb
 | x::ds,c,hg,hd,b,hb=>by
  obtain⟨p1,p2,p3,_⟩:=zal (hg x (by simp)).isB;obtain⟨e1,_,e3⟩:=zbf hd.1;have hl:x.o.toNat<c.length:=by omega
  rw [runC];rcases ar.1 hb with q | q
  ·subst q
   have h2:=zj4 (r:=b.o.toNat) ds (c.set b.o.toNat b.s) (fun x hx=>hg x (by simp [hx])) hd.2;rw [zbz _ _ _ _ hl,aA rfl] at h2;exact⟨by omega,h2⟩
  ·obtain⟨h1,h2⟩:=zdj ds (c.set x.o.toNat x.s) (fun x hx=>hg x (by simp [hx])) hd.2 b q
   refine⟨?_,h2⟩;have h3:=(zky hd.1 p2 p3).2 b.o.toNat;omega
theorem ze7{n:Nat}:∀(ds:List Bt) (c:List Int),(∀b∈ds,Gb n b)->dueS c ds->∀(w:Nat) (s:Int),c.getD w 0<s->s<=(runC c ds).getD w 0->∃b∈ds,b.o=w∧b.s=s
 | [],c,_,_,w,s,h1,h2=>by
  have h2:s<=c.getD w 0:=h2;omega
 | x::ds,c,hg,hd,w,s,h1,h2=>by
  obtain⟨p1,p2,p3,_⟩:=zal (hg x (by simp)).isB;obtain⟨e1,_,e3⟩:=zbf hd.1;have hl:x.o.toNat<c.length:=by omega
  by_cases hx:x.o.toNat=w∧x.s=s
  ·exact⟨x,by simp,by omega,hx.2⟩
  ·have h3:(c.set x.o.toNat x.s).getD w 0<s:=by
    rw [zbz _ _ _ _ hl];split
    ·rename_i e
     subst e;have:¬x.s=s:=fun q=>hx ⟨rfl,q⟩
     omega
    ·exact h1
   obtain⟨b,g1,g2⟩:=ze7 ds (c.set x.o.toNat x.s) (fun x hx=>hg x (by simp [hx])) hd.2 w s h3 h2;exact⟨b,by simp [g1],g2⟩
theorem zqm{n:Nat}:∀(ds:List Bt) (c:List Int),(∀b∈ds,Gb n b)->dueS c ds->∀a∈ds,∀b∈ds,a.o=b.o->a.s=b.s->a=b
 | [],_,_,_,a,ha,_,_,_,_=>by cases ha
 | x::ds,c,hg,hd,a,ha,b,hb,ho,hs=>by
  obtain⟨p1,p2,p3,_⟩:=zal (hg x (by simp)).isB;obtain⟨e1,_,e3⟩:=zbf hd.1;have hl:x.o.toNat<c.length:=by omega
  have hq:∀y∈ds,x.o=y.o->x.s ≠ y.s:=fun y hy e1 e2=>by
   have h1:=(zdj ds (c.set x.o.toNat x.s) (fun x hx=>hg x (by simp [hx])) hd.2 y hy).1;rw [zbz _ _ _ _ hl,aA (by rw [e1])] at h1;omega
  rcases ar.1 ha with q1 | q1<;>rcases ar.1 hb with q2 | q2
  ·rw [q1,q2]
  ·rw [q1] at ho hs;exact absurd hs (hq b q2 ho)
  ·rw [q2] at ho hs;exact absurd hs.symm (hq a q1 ho.symm)
  ·exact zqm ds (c.set x.o.toNat x.s) (fun x hx=>hg x (by simp [hx])) hd.2 a q1 b q2 ho hs
def RefOk(pre:List Bt)(b:Bt):Prop:=∀(j:Nat) e,b.effs[j]?=some e->e.op=5->e.ref=⟨0,0,0⟩∨(∃p∈zbr e.ob.toNat pre,p.m.e.op=5∧p.d=e.ref)∨∃(i:Nat) (f:Ef),i<j∧b.effs[i]?=some f∧f.op=5∧f.ob.toNat=e.ob.toNat∧(zbi b i).d=e.ref
theorem zke{k:Nat}{xs bs:List Bt}(h:∀b∈xs,b∈bs){p:Mk}(hp:p∈zbr k xs):p∈zbr k bs:=by
 obtain⟨b,h1,h2⟩:=(zbw _ _ _).1 hp;exact(zbw _ _ _).2 ⟨b,h b h1,h2⟩
theorem RefOk.mono{xs bs:List Bt}{b b':Bt}(h:RefOk xs b)(hs:∀x∈xs,x∈bs)(e1:b'.effs=b.effs)(e2:b'.o=b.o)(e3:b'.s=b.s):RefOk bs b':=fun j e he h5=>by
 rw [e1] at he;rcases h j e he h5 with q | ⟨p,q1,q2⟩ | ⟨i,f,q1,q2,q3,q4,q5⟩
 ·exact Or.inl q
 ·exact Or.inr (Or.inl ⟨p,zke hs q1,q2⟩)
 ·refine Or.inr (Or.inr ⟨i,f,q1,by rw [e1];exact q2,q3,q4, ?_⟩)
  rw [←q5];show(⟨b'.o,b'.s,i⟩:Dt)=⟨b.o,b.s,i⟩
  rw [e2,e3]
theorem RefOk.none{pre:List Bt}{b:Bt}(h:b.effs= []):RefOk pre b:=fun j e he=>by rw [h] at he;simp at he
inductive LogOk (n w:Nat):List Bt->Prop
 | nil:LogOk n w []
 | snoc {pre:List Bt} {b:Bt} (h:LogOk n w pre) (hb:b.o=w->runC (List.replicate n 0) pre=b.clock∧(∀c∈pre,c.t<b.t)∧RefOk pre b):LogOk n w (pre++ [b])
theorem LogOk.more{n w:Nat}{bs:List Bt}(h:LogOk n w bs):∀ds:List Bt,(∀b∈ds,b.o ≠ w)->LogOk n w (bs++ds):=by
 intro ds;induction ds generalizing bs with
 | nil=>intro _;rw [List.append_nil];exact h
 | cons x ds ih=>
  intro hd;have:=ih (h.snoc (b:=x) (fun e=>absurd e (hd x (by simp)))) (fun b hb=>hd b (by simp [hb]));rw [au] at this;exact this
theorem LogOk.take{n w:Nat}{bs:List Bt}(h:LogOk n w bs)(i:Nat):LogOk n w (bs.take i):=by
 induction h with
 | nil=>rw [List.take_nil];exact .nil
 | snoc h hb ih=>
  rename_i pre b;by_cases hi:i<=pre.length
  ·rw [List.take_append_of_le_length hi];exact ih
  ·rw [aM (by simp;omega)];exact h.snoc hb
theorem LogOk.at{n w:Nat}{bs:List Bt}(h:LogOk n w bs){b:Bt}(hb:b∈bs)(ho:b.o=w):∃pre post,bs=pre++b::post∧runC (List.replicate n 0) pre=b.clock∧(∀c∈pre,c.t<b.t)∧RefOk pre b:=by
 induction h with
 | nil=>cases hb
 | snoc h hx ih=>
  rename_i pre x;rcases ao.1 hb with q | q
  ·obtain⟨p,t,e,r⟩:=ih q
   exact⟨p,t++ [x],by rw [e];simp,r⟩
  ·have e:=aB.1 q
   subst e;exact⟨pre, [],rfl,hx ho⟩
theorem rs_tm{n:Nat}:∀(bs:List Bt) (tl:List UInt8) (R:Rp) (m:Nat),(∀b∈bs,Gb n b)->NoFr tl->dueS R.clock bs->(FrB bs++tl).length<=m->R.time<=(zau m R (FrB bs++tl)).time∧∀b∈bs,b.t<=(zau m R (FrB bs++tl)).time
 | [],tl,R,m,_,ht,_,_=>by
  rw [zgg,List.nil_append,zd9 ht];exact⟨Int.le_refl _,fun b hb=>by cases hb⟩
 | b::bs,tl,R,m,hb,ht,hd,hm=>by
  have hgb:=hb b (by simp);have e1:fstB (FrB (b::bs)++tl)=frameB b:=by rw [za3,au,zdm hgb.isB]
  have e2:dec (fstB (FrB (b::bs)++tl))=some b:=by rw [e1];exact dec_frame b hgb.isB
  have e3:(FrB (b::bs)++tl).drop (fstB (FrB (b::bs)++tl)).length=FrB bs++tl:=by rw [e1,za3,au,List.drop_left]
  obtain⟨m2,hm2,hr⟩:=ze0 (n:=m) (R:=R) e2 hd.1 hm;rw [e3] at hm2 hr;rw [e1] at hr;obtain⟨g1,g2⟩:=rs_tm bs tl (zam R b (frameB b) []) m2 (fun x hx=>hb x (by simp [hx])) ht hd.2 hm2;rw [hr] at g1 g2;have g1:max R.time b.t<=(zau m R (FrB (b::bs)++tl)).time:=g1;refine⟨by omega,fun x hx=> ?_⟩;rcases ar.1 hx with q | q
  ·rw [q];omega
  ·exact g2 x q
structure Dlv(r:Nat)(R R':Rp)(ds:List Bt):Prop where
 log:R'.log=R.log++FrB ds
 clk:R'.clock=runC R.clock ds
 due:dueS R.clock ds
 syn:R'.synced=R.synced
 st:R'.st=R.st
 no:∀b∈ds,b.o ≠ r
 obs:R'.obs=obsL R.obs ds
 nn:R'.n=R.n
 ef:R'.effs=R.effs
 t1:R.time<=R'.time
 t2:∀b∈ds,b.t<=R'.time
theorem Dlv.refl(r:Nat)(R:Rp):Dlv r R R []:=⟨by simp [FrB],rfl,trivial,rfl,rfl,fun b hb=>(by cases hb),rfl,rfl,rfl,Int.le_refl _,fun b hb=>(by cases hb)⟩
theorem Dlv.held{r:Nat}{R R':Rp}{ds:List Bt}(h:Dlv r R R' ds)(l:List Bt):Dlv r R {R' with held:=l} ds:=⟨h.log,h.clk,h.due,h.syn,h.st,h.no,h.obs,h.nn,h.ef,h.t1,h.t2⟩
theorem Dlv.one{r:Nat}{R R':Rp}{ds:List Bt}{b:Bt}{hs:List Bt}(hd:dueB R.clock b=true)(hb:b.o ≠ r)(h:Dlv r (zam R b (frameB b) hs) R' ds):Dlv r R R' (b::ds):=by
 refine⟨?_,h.clk,⟨hd,h.due⟩,h.syn,h.st,fun x hx=> ?_,h.obs,h.nn,h.ef, ?_,fun x hx=> ?_⟩
 ·rw [h.log,za3]
  show(R.log++frameB b)++FrB ds=R.log++(frameB b++FrB ds)
  rw [au]
 ·rcases ar.1 hx with q | q
  ·rw [q];exact hb
  ·exact h.no x q
 ·have h1:max R.time b.t<=R'.time:=h.t1
  omega
 ·have h1:max R.time b.t<=R'.time:=h.t1
  rcases ar.1 hx with q | q
  ·rw [q];omega
  ·exact h.t2 x q
theorem zw0{r:Nat}(P:Bt->Prop)(m:Nat):∀R:Rp,(∀b∈R.held,b.o ≠ r∧P b)->∃ds,Dlv r R (heldR m R) ds∧(∀x∈ds,P x)∧(∀x∈(heldR m R).held,P x):=by
 induction m with
 | zero=>intro R h;exact⟨[],Dlv.refl r R,fun x hx=>(by cases hx),fun x hx=>(h x hx).2⟩
 | succ m ih=>
  intro R ho;have hm:∀x∈(takeP zah (dueB R.clock) R.held).2,x∈R.held:=fun x hx=>za6 _ _ _ x (Or.inr hx)
  unfold heldR;split
  ·rename_i l e
   have e2:l=(takeP zah (dueB R.clock) R.held).2:=by rw [e]
   subst e2;exact⟨[],(Dlv.refl r R).held _,fun x hx=>(by cases hx),fun x hx=>(ho x (hm x hx)).2⟩
  ·rename_i x l e
   have e1:(takeP zah (dueB R.clock) R.held).1=some x:=by rw [e]
   have e2:l=(takeP zah (dueB R.clock) R.held).2:=by rw [e]
   subst e2;obtain⟨hd,hx⟩:=zgr e1;obtain⟨ds,h1,h2,h3⟩:=ih (zam R x (frameB x) (takeP zah (likeB x) (takeP zah (dueB R.clock) R.held).2).2) (fun b hb=>ho b (hm b (za6 _ _ _ b (Or.inr hb))));refine⟨x::ds,Dlv.one hd (ho x hx).1 h1,fun y hy=> ?_,h3⟩;rcases ar.1 hy with q | q
   ·rw [q];exact(ho x hx).2
   ·exact h2 y q
theorem zku{n r:Nat}{R:Rp}(P:Bt->Prop)(b:Bt)(hb:Gb n b)(hbo:b.o ≠ r∨b.s<=R.clock.getD r 0)(hP:P b)(ho:∀x∈R.held,x.o ≠ r∧P x):∃ds,Dlv r R (za4 R (frameB b)) ds∧(∀x∈ds,P x)∧(∀x∈(za4 R (frameB b)).held,P x):=by
 have e:=dec_frame b hb.isB;unfold za4;rw [e];simp only;split
 ·exact⟨[],Dlv.refl r R,fun x hx=>(by cases hx),fun x hx=>(ho x hx).2⟩
 ·rename_i hn
  have hbr:b.o ≠ r:=by
   rcases hbo with q | q
   ·exact q
   ·intro e
    apply hn;right;rw [e,aj];exact q
  split
  ·rename_i hd
   obtain⟨ds,h1,h2,h3⟩:=zw0 P ((takeP zah (likeB b) R.held).2.length+1) (zam R b (frameB b) (takeP zah (likeB b) R.held).2) (fun x hx=>ho x (za6 _ _ _ x (Or.inr hx)));refine⟨b::ds,Dlv.one hd hbr h1,fun y hy=> ?_,h3⟩;rcases ar.1 hy with q | q
   ·rw [q];exact hP
   ·exact h2 y q
  ·split
   ·refine⟨[],(Dlv.refl r R).held _,fun x hx=>(by cases hx),fun x hx=> ?_⟩
    rcases zeo _ _ _ x hx with q | q
    ·exact(ho x q).2
    ·rw [q];exact hP
   ·exact⟨[],Dlv.refl r R,fun x hx=>(by cases hx),fun x hx=>(ho x hx).2⟩
theorem zj5{n r:Nat}:∀(ds:List Bt) (c:List Int),(∀b∈ds,Gb n b)->(∀b∈ds,b.o ≠ r)->(runC c ds).getD r 0=c.getD r 0
 | [],c,_,_=>rfl
 | b::ds,c,hg,hn=>by
  obtain⟨p1,p2,p3,_⟩:=zal (hg b (by simp)).isB;have h1:=hn b (by simp);rw [runC,zj5 ds _ (fun x hx=>hg x (by simp [hx])) (fun x hx=>hn x (by simp [hx])),ai,aK (by omega),←ai]
def zer(n:Nat):List Int:=List.replicate n 0
structure RS(n r:Nat)(R:Rp)(bs:List Bt):Prop where
 gb:∀b∈bs,Gb n b
 due:dueS (zer n) bs
 n2:2<=n
 n4:n<=4
 rlt:r<n
 num:R.n=r
 cl:R.clock.length=n
 up:R.st ≠ 2->RU n r R∧R.log=FrB bs∧runC (zer n) bs=R.clock∧(∃j,j<=bs.length∧R.synced=((FrB (bs.take j)).length:Nat)∧∀b∈bs.drop j,b.o ≠ r)∧∀b∈R.held,b.o ≠ r
 down:R.st=2->(∃tl,R.log=FrB bs++tl∧NoFr tl)∧R.log.length<=9000000∧R.held= []∧R.synced=R.log.length
 ob:R.st ≠ 2->R.obs=obsL obN bs
 lo:LogOk n r bs
 tx:R.st ≠ 2->RefOk bs (pendB R)
 tm:R.st ≠ 2->∀b∈bs,b.t<=R.time
def topB(n r:Nat)(bs:List Bt):Int:=(runC (zer n) bs).getD r 0
section
variable {n r : Nat} {R : Rp} {bs : List Bt}
theorem RS.top(h:RS n r R bs)(hu:R.st ≠ 2):topB n r bs=R.clock.getD r 0:=by unfold topB;rw [(h.up hu).2.2.1]
theorem RS.rlg(h:RS n r R bs)(hu:R.st ≠ 2):Rlg n R:=by
 obtain⟨h1,h2,_⟩:=h.up hu;have h3:=h.n2;refine⟨h1.ok,h1.cl,h1.n4,by omega, ?_⟩;have:=ziy bs [] h.gb zhk;rw [List.append_nil] at this;rw [h2];exact this
theorem RS.same(h:RS n r R bs)(hu:R.st ≠ 2){R':Rp}(hR:RU n r R')(e1:R'.log=R.log)(e2:R'.clock=R.clock)(e3:R'.held=R.held)(e4:R'.synced=R.synced∨R'.synced=R.log.length)(e5:R'.obs=R.obs)(e6:R'.time=R.time)(e7:RefOk bs (pendB R')):RS n r R' bs:=by
 obtain⟨h1,h2,h3,⟨j,j1,j2,j3⟩,h5⟩:=h.up hu;refine⟨h.gb,h.due,h.n2,h.n4,h.rlt,hR.num,hR.cl,fun _=>⟨hR,e1.trans h2,by rw [e2];exact h3, ?_,by rw [e3];exact h5⟩,fun e=> ?_,fun _=>e5.trans (h.ob hu),h.lo,fun _=>e7,fun _=>by rw [e6];exact h.tm hu⟩
 ·rcases e4 with e4 | e4
  ·exact⟨j,j1,e4.trans j2,j3⟩
  ·exact⟨bs.length,ac _,by rw [e4,h2,List.take_length],fun b hb=>by simp at hb⟩
 ·rcases hR.st with q | q<;>omega
theorem RS.dlv(h:RS n r R bs)(hu:R.st ≠ 2){R':Rp}{ds:List Bt}(hR:RU n r R')(hd:Dlv r R R' ds)(hg:∀b∈ds,Gb n b)(hh:∀b∈R'.held,b.o ≠ r):RS n r R' (bs++ds):=by
 obtain⟨h1,h2,h3,⟨j,j1,j2,j3⟩,h5⟩:=h.up hu;refine⟨fun b hb=> ?_,(zcs _ _ _).2 ⟨h.due,by rw [h3];exact hd.due⟩,h.n2,h.n4,h.rlt,hR.num,hR.cl,fun _=>⟨hR,by rw [hd.log,h2,zfa],by rw [zc5,h3,hd.clk],⟨j,by rw [ah];omega, ?_,fun b hb=> ?_⟩,hh⟩,fun e=> ?_,fun _=>by rw [hd.obs,h.ob hu,zhj],h.lo.more ds hd.no,fun _=> ?_,fun _ b hb=> ?_⟩
 ·rcases ao.1 hb with q | q
  ·exact h.gb b q
  ·exact hg b q
 ·rw [hd.syn,j2,List.take_append_of_le_length j1]
 ·rw [List.drop_append_of_le_length j1] at hb
  rcases ao.1 hb with q | q
  ·exact j3 b q
  ·exact hd.no b q
 ·rw [hd.st] at e
  exact absurd e hu
 ·have hc:R'.clock.getD r 0=R.clock.getD r 0:=by rw [hd.clk];exact zj5 ds _ hg hd.no
  have hn:R.n.toNat=r:=by rw [h.num,aj]
  refine(h.tx hu).mono (fun x hx=>ao.2 (Or.inl hx)) hd.ef hd.nn ?_;show R'.clock.getD R'.n.toNat 0+1=R.clock.getD R.n.toNat 0+1;rw [hd.nn,hn,hc]
 ·rcases ao.1 hb with q | q
  ·exact Int.le_trans (h.tm hu b q) hd.t1
  ·exact hd.t2 b q
theorem RS.logc(h:RS n r R bs)(h1:R.st=1):LogOk n r (bs++ [pendB R]):=by
 have hu:R.st ≠ 2:=by omega
 refine h.lo.snoc (fun _=>⟨(h.up hu).2.2.1,fun c hc=> ?_,h.tx hu⟩);have:=h.tm hu c hc;show c.t<R.time+1;omega
theorem RS.commit(h:RS n r R bs)(h1:R.st=1)(he:R.effs ≠ []):RS n r (zcm R) (bs++ [pendB R]):=by
 have hu:R.st ≠ 2:=by omega
 obtain⟨g1,g2,g3,_,g5⟩:=h.up hu;have hR:=g1.commit h1 he;have hb:=g1.gb h1 he
 have hl:(zcm R).log=FrB (bs++ [pendB R]):=by
  show R.log++frameB (pendB R)=_;rw [g2,zfa];simp [FrB]
 refine⟨fun b hb'=> ?_,(zcs _ _ _).2 ⟨h.due,by rw [g3];exact⟨zkx (R:=R),trivial⟩⟩,h.n2,h.n4,h.rlt,hR.num,hR.cl,fun _=>⟨hR,hl,by rw [zc5,g3];rfl,⟨(bs++ [pendB R]).length,ac _, ?_,fun b hb=>by simp at hb⟩,fun b hb=>g5 b (za6 _ _ _ b (Or.inr hb))⟩,fun e=> ?_,fun _=>(by show obsTo (pendB R) R.obs (pendB R).effs.length=_;rw [h.ob hu,zhj];rfl),h.logc h1,fun _=>RefOk.none rfl,fun _ b hb=> ?_⟩
 ·rcases ao.1 hb' with q | q
  ·exact h.gb b q
  ·rw [aB.1 q];exact hb
 ·rw [List.take_length,←hl]
  rfl
 ·rcases hR.st with q | q<;>omega
 ·show b.t<=max R.time (R.time+1)
  rcases ao.1 hb with q | q
  ·have:=h.tm hu b q
   omega
  ·rw [aB.1 q]
   show R.time+1<=_;omega
theorem zno{n r:Nat}:∀(ds:List Bt) (c:List Int),(∀b∈ds,Gb n b)->dueS c ds->c.getD r 0<=(runC c ds).getD r 0
 | [],c,_,_=>Int.le_refl _
 | b::ds,c,hg,hd=>by
  obtain⟨p1,p2,p3,_⟩:=zal (hg b (by simp)).isB;have h1:=(zky hd.1 p2 p3).2 r;have h2:=zno (r:=r) ds (c.set b.o.toNat b.s) (fun x hx=>hg x (by simp [hx])) hd.2;rw [runC];omega
theorem zub{n r:Nat}:∀(ds:List Bt) (c:List Int),(∀b∈ds,Gb n b)->(∀b∈ds,b.o ≠ r)->(runC c ds).getD r 0=c.getD r 0
 | [],c,_,_=>rfl
 | b::ds,c,hg,hn=>by
  obtain⟨p1,p2,p3,_⟩:=zal (hg b (by simp)).isB;have h1:=hn b (by simp);rw [runC,zub ds _ (fun x hx=>hg x (by simp [hx])) (fun x hx=>hn x (by simp [hx])),ai,aK (by omega),←ai]
theorem zvg{n r:Nat}{bs:List Bt}(hg:∀b∈bs,Gb n b)(hd:dueS (zer n) bs){j i:Nat}(hij:j<=i):topB n r (bs.take j)<=topB n r (bs.take i):=by
 have e:bs.take i=bs.take j++(bs.take i).drop j:=by
  have:=aH j (bs.take i);rw [List.take_take,Nat.min_eq_left hij] at this;exact this.symm
 have hd2:=zil hd i;rw [e] at hd2 ⊢;unfold topB;rw [zc5];exact zno _ _ (fun x hx=>hg x (List.mem_of_mem_take (List.mem_of_mem_drop hx))) ((zcs _ _ _).1 hd2).2
theorem RS.cut(h:RS n r R bs)(hu:R.st ≠ 2){bs2:List Bt}{lg:List UInt8}(hb2:∀b∈bs2,Gb n b)(hd2:dueS (zer n) (bs++bs2))(hlg:lg=FrB (bs++bs2))(hll:lg.length<=9000000)(hlo:LogOk n r (bs++bs2))(k:Int):∃i,RS n r (zch {R with log:=lg} k) ((bs++bs2).take i)∧topB n r bs<=topB n r ((bs++bs2).take i)∧∀b∈bs,b.o=r->b∈(bs++bs2).take i:=by
 obtain⟨h1,h2,h3,⟨j,j1,j2,j3⟩,h5⟩:=h.up hu
 have hg:∀b∈bs++bs2,Gb n b:=fun b hb=>by
  rcases ao.1 hb with q | q
  ·exact h.gb b q
  ·exact hb2 b q
 have hjl:(FrB (bs.take j)).length<=lg.length:=by
  rw [hlg]
  have:FrB (bs++bs2)=FrB (bs.take j)++(FrB (bs.drop j)++FrB bs2):=by
   rw [←au,←zfa,aH,←zfa]
  rw [this,ah];omega
 obtain⟨m,hm⟩:∃m,cutN {R with log:=lg} k=m:=⟨_,rfl⟩
 have hm1:(FrB (bs.take j)).length<=m∧m<=lg.length:=by
  have:cutN {R with log:=lg} k=(R.synced+min (max k 0) ((lg.length:Int) - R.synced)).toNat:=rfl;rw [this] at hm;rw [j2] at hm;omega
 obtain⟨i,tl,k1,k2,k3,k4⟩:=ziu (bs++bs2) (fun b hb=>(hg b hb).isB) m;have hji:j<=i:=k4 j (by rw [ah];omega) (by rw [List.take_append_of_le_length j1];exact hm1.1)
 have hlog:(zch {R with log:=lg} k).log=FrB ((bs++bs2).take i)++tl:=by
  show lg.take (cutN {R with log:=lg} k)=_;rw [hm,hlg,k2]
 have hlen:(lg.take m).length=m:=by rw [al];omega
 refine⟨i,⟨fun b hb=>hg b (List.mem_of_mem_take hb),zil hd2 i,h.n2,h.n4,h.rlt,h.num,h.cl,fun e=>absurd rfl e,fun _=>⟨⟨tl,hlog,k3⟩, ?_,rfl, ?_⟩,fun e=>absurd rfl e,hlo.take i,fun e=>absurd rfl e,fun e=>absurd rfl e⟩, ?_,fun b hb hbo=> ?_⟩
 ·show(lg.take (cutN {R with log:=lg} k)).length<=9000000
  rw [hm,hlen];omega
 ·show((cutN {R with log:=lg} k:Nat):Int)=((lg.take (cutN {R with log:=lg} k)).length:Nat)
  rw [hm,hlen]
 ·have e1:topB n r bs=topB n r (bs.take j):=by
   unfold topB;conv=>lhs;rw [←aH j bs,zc5]
   exact zub _ _ (fun x hx=>h.gb x (List.mem_of_mem_drop hx)) j3
  rw [e1];have:=zvg (r:=r) hg hd2 hji;rw [List.take_append_of_le_length j1] at this;exact this
 ·have hb1:b∈bs.take j:=by
   rw [←aH j bs] at hb;rcases ao.1 hb with q | q
   ·exact q
   ·exact absurd hbo (j3 b q)
  have e3:(bs++bs2).take j=bs.take j:=List.take_append_of_le_length j1;rw [←e3] at hb1;have e4:(bs++bs2).take j=((bs++bs2).take i).take j:=by rw [List.take_take,Nat.min_eq_left hji]
  rw [e4] at hb1;exact List.mem_of_mem_take hb1
theorem RS.restart(h:RS n r R bs)(hd:R.st=2):RS n r (zb6 R) bs:=by
 obtain⟨⟨tl,t1,t2⟩,t3,t4,t5⟩:=h.down hd;have hn:R.n.toNat=r:=by rw [h.num,aj]
 have hz:(newR r n).clock=zer n:=rfl;obtain⟨g1,g2,g3,g4,g5,g6⟩:=zh2 (r:=r) bs tl (newR r n) R.log.length h.gb t2 (by rw [hz];exact h.due) (RU.new r n h.rlt h.n2 h.n4) rfl rfl (by rw [t1];exact ac _);rw [←t1] at g1 g2 g3 g4 g5 g6;have e:zb6 R=syncR (zau R.log.length (newR r n) R.log):=by unfold zb6;rw [hn,h.cl]
 rw [e]
 have ho:(syncR (zau R.log.length (newR r n) R.log)).obs=obsL obN bs:=by
  have h0:=zyz bs tl (newR r n) R.log.length h.gb t2 (by rw [hz];exact h.due) (by rw [t1];exact ac _);rw [←t1] at h0;exact h0
 have ht:∀b∈bs,b.t<=(syncR (zau R.log.length (newR r n) R.log)).time:=by
  have h0:=(rs_tm bs tl (newR r n) R.log.length h.gb t2 (by rw [hz];exact h.due) (by rw [t1];exact ac _)).2;rw [←t1] at h0;exact h0
 have hl:(syncR (zau R.log.length (newR r n) R.log)).log=FrB bs:=by show(zau R.log.length (newR r n) R.log).log=_;rw [g2];show []++FrB bs=_;simp
 refine⟨h.gb,h.due,h.n2,h.n4,h.rlt,g1.sync.num,g1.sync.cl,fun _=>⟨g1.sync,hl,g3.symm,⟨bs.length,ac _, ?_,fun b hb=>by simp at hb⟩,fun b hb=> ?_⟩,fun e2=> ?_,fun _=>ho,h.lo,fun _=>RefOk.none g6,fun _=>ht⟩
 ·rw [List.take_length,←hl]
  rfl
 ·have hb:b∈(zau R.log.length (newR r n) R.log).held:=hb
  rw [g5] at hb;cases hb
 ·have e2:(zau R.log.length (newR r n) R.log).st=2:=e2
  omega
end
def Tp(_:Nat)(L:List (List Bt))(b:Bt):Prop:=0<=b.o∧b∈L.getD b.o.toNat []
structure MG(n:Nat)(L:List (List Bt))(m:Ms):Prop where
 t0:0<=m.t
 t1:m.t<n
 f0:0<=m.f
 f1:m.f<n
 kind:m.k=1∨m.k=2
 len:m.bs.length<=70000
 fr:m.k=1->m.sp=false->∃b,Gb n b∧Tp n L b∧m.bs=frameB b
 sp:m.k=1->m.sp=true->dec m.bs=none
structure GI(ls:List Int)(n:Nat)(S:Sto)(L:List (List Bt)):Prop where
 rl:S.reps.length=n
 ll:L.length=n
 n2:2<=n
 n4:n<=4
 rep:∀(r:Nat) R,S.reps[r]?=some R->∃bs,L[r]?=some bs∧RS n r R bs
 top:∀bs∈L,∀b∈bs,Tp n L b
 held:∀R∈S.reps,∀b∈R.held,Tp n L b
 msg:∀m∈S.msgs,MG n L m
 lst:∀r,ls.getD r 0<=topB n r (L.getD r [])
section
variable {ls : List Int} {n : Nat} {S : Sto} {L : List (List Bt)}
theorem Tp.up{r:Nat}{bs bs':List Bt}{b:Bt}(h:Tp n L b)(hL:L[r]?=some bs)(hsub:∀b∈bs,b.o=r->b∈bs'):Tp n (L.set r bs') b:=by
 obtain⟨hr,hrb⟩:=af.1 hL;obtain⟨h0,h⟩:=h;refine⟨h0, ?_⟩;by_cases e:b.o.toNat=r
 ·have e1:L.getD b.o.toNat []=bs:=by rw [e,ai,hL];rfl
  have e2:(L.set r bs').getD b.o.toNat []=bs':=by rw [e,ai,List.getElem?_set_self hr];rfl
  rw [e1] at h;rw [e2];exact hsub b h (by omega)
 ·have e2:(L.set r bs').getD b.o.toNat []=L.getD b.o.toNat []:=by rw [ai,aK (fun q=>e q.symm),←ai]
  rw [e2];exact h
theorem MG.up{r:Nat}{bs bs':List Bt}{m:Ms}(h:MG n L m)(hL:L[r]?=some bs)(hle:∀b∈bs,b.o=r->b∈bs'):MG n (L.set r bs') m:=
 ⟨h.t0,h.t1,h.f0,h.f1,h.kind,h.len,fun a b=>(h.fr a b).imp fun _ q=>⟨q.1,q.2.1.up hL hle,q.2.2⟩,h.sp⟩
theorem GI.set(h:GI ls n S L){r:Nat}{R R':Rp}{bs bs':List Bt}(hR:S.reps[r]?=some R)(hL:L[r]?=some bs)(hle:topB n r bs<=topB n r bs')(hsub:∀b∈bs,b.o=r->b∈bs')(hS:RS n r R' bs')(hb:∀b∈bs',Tp n (L.set r bs') b)(hh:∀b∈R'.held,Tp n (L.set r bs') b):GI ls n {S with reps:=S.reps.set r R'} (L.set r bs'):=by
 obtain⟨hr,_⟩:=af.1 hR;obtain⟨hr2,_⟩:=af.1 hL;refine⟨by rw [aE];exact h.rl,by rw [aE];exact h.ll,h.n2,h.n4,fun q Q hQ=> ?_,fun c hc b hb'=> ?_,fun Q hQ b hb'=> ?_,fun m hm=>(h.msg m hm).up hL hsub,fun q=> ?_⟩
 ·have hQ:(S.reps.set r R')[q]?=some Q:=hQ
  by_cases e:r=q
  ·subst e
   rw [List.getElem?_set_self hr] at hQ;cases hQ
   exact⟨bs',List.getElem?_set_self hr2,hS⟩
  ·rw [aK e] at hQ
   obtain⟨c,h1,h2⟩:=h.rep q Q hQ;exact⟨c,by rw [aK e];exact h1,h2⟩
 ·rcases List.mem_or_eq_of_mem_set hc with q | q
  ·exact(h.top c q b hb').up hL hsub
  ·rw [q] at hb';exact hb b hb'
 ·have hQ:Q∈S.reps.set r R':=hQ
  rcases List.mem_or_eq_of_mem_set hQ with q | q
  ·exact(h.held Q q b hb').up hL hsub
  ·rw [q] at hb';exact hh b hb'
 ·have h0:=h.lst q
  by_cases e:q=r
  ·subst e
   rw [ai (l:=L),hL] at h0;rw [ai (l:=L.set q bs'),List.getElem?_set_self hr2];exact Int.le_trans h0 hle
  ·rw [ai (l:=L.set r bs'),aK (fun q=>e q.symm),←ai]
   exact h0
theorem GI.bump(h:GI ls n S L){r:Nat}{bs:List Bt}{m:Int}(hL:L[r]?=some bs)(hm:m<=topB n r bs)(hr:r<ls.length):GI (ls.set r m) n S L:=
 ⟨h.rl,h.ll,h.n2,h.n4,h.rep,h.top,h.held,h.msg,fun q=>by
  rw [zbz _ _ _ _ hr];split
  ·rename_i e
   rw [e,ai,hL];exact hm
  ·exact h.lst q⟩
theorem zjz{L:List (List Bt)}{r:Nat}{bs:List Bt}(hL:L[r]?=some bs):L.set r bs=L:=by
 obtain⟨hr,hrb⟩:=af.1 hL;rw [←hrb];exact List.set_getElem_self hr
theorem GI.same(h:GI ls n S L){r:Nat}{R R':Rp}{bs:List Bt}(hR:S.reps[r]?=some R)(hL:L[r]?=some bs)(hS:RS n r R' bs)(hh:∀b∈R'.held,b∈R.held):GI ls n {S with reps:=S.reps.set r R'} L:=by
 have h1:=h.set hR hL (Int.le_refl _) (fun b hb _=>hb) hS (fun b hb=>by rw [zjz hL];exact h.top bs (an hL) b hb) (fun b hb=>by rw [zjz hL];exact h.held R (an hR) b (hh b hb));rw [zjz hL] at h1;exact h1
theorem GI.msgs(h:GI ls n S L){ms:List Ms}(hm:∀m∈ms,MG n L m):GI ls n {S with msgs:=ms} L:=⟨h.rl,h.ll,h.n2,h.n4,h.rep,h.top,h.held,hm,h.lst⟩
theorem zhx{ms:List Ms}{x m:Ms}(h:m∈addM ms x):m∈ms∨m=x:=by
 unfold addM at h;split at h
 ·rcases ao.1 h with q | q
  ·exact Or.inl q
  ·exact Or.inr (aB.1 q)
 ·exact Or.inl h
theorem GI.commit(h:GI ls n S L){r:Nat}{R:Rp}{bs:List Bt}(hR:S.reps[r]?=some R)(hL:L[r]?=some bs)(hS:RS n r R bs)(h1:R.st=1)(he:R.effs ≠ []):GI ls n ⟨S.reps.set r (zcm R),sprA S.msgs r (frameB (pendB R)) S.reps.length⟩ (L.set r (bs++ [pendB R])):=by
 have hu:R.st ≠ 2:=by omega
 obtain⟨g1,g2,g3,_,g5⟩:=hS.up hu;obtain⟨hr2,_⟩:=af.1 hL;have hc:=hS.commit h1 he;have hgb:=g1.gb h1 he;have hrl:=hS.rlt
 have htop:topB n r (bs++ [pendB R])=(pendB R).s:=by
  unfold topB;rw [zc5,g3];show(R.clock.set (pendB R).o.toNat (pendB R).s).getD r 0=_;rw [g1.p1,aj,zbz _ _ _ _ (by rw [hS.cl];exact hrl),aA rfl]
 have hle:topB n r bs<=topB n r (bs++ [pendB R]):=by
  rw [htop,hS.top hu,g1.p2];omega
 have hTp:Tp n (L.set r (bs++ [pendB R])) (pendB R):=by
  refine⟨by rw [g1.p1];omega, ?_⟩;rw [g1.p1,aj,ai,List.getElem?_set_self hr2];show pendB R∈bs++ [pendB R]
  simp
 have hsub:∀b∈bs,b.o=r->b∈bs++ [pendB R]:=fun b hb _=>ao.2 (Or.inl hb)
 have hset:=h.set hR hL hle hsub hc (fun b hb=> ?_) (fun b hb=> ?_)
 ·refine GI.msgs (S:={S with reps:=S.reps.set r (zcm R)}) hset (fun m hm=> ?_)
  have key:∀k,k<=n->∀m∈sprA S.msgs r (frameB (pendB R)) k,MG n (L.set r (bs++ [pendB R])) m:=by
   intro k;induction k with
   | zero=>intro _ m hm;exact(h.msg m hm).up hL hsub
   | succ k ih=>
    intro hk m hm;rw [sprA] at hm;split at hm
    ·exact ih (by omega) m hm
    ·rcases zhx hm with q | q
     ·exact ih (by omega) m q
     ·rw [q]
      exact⟨by show(0:Int)<=(k:Int);omega,by show(k:Int)<n;omega,by show(0:Int)<=(r:Int);omega,by show(r:Int)<n;omega,Or.inl rfl,zbd hgb.isB,fun _ _=>⟨pendB R,hgb,hTp,rfl⟩,fun _ e=>(by cases e)⟩
  rw [h.rl] at hm;exact key n (ac _) m hm
 ·rcases ao.1 hb with q | q
  ·exact(h.top bs (an hL) b q).up hL hsub
  ·rw [aB.1 q];exact hTp
 ·exact(h.held R (an hR) b (za6 _ _ _ b (Or.inr hb))).up hL hsub
theorem GI.frame(h:GI ls n S L){r:Nat}{R:Rp}{bs:List Bt}(hR:S.reps[r]?=some R)(hL:L[r]?=some bs)(hS:RS n r R bs)(hu:R.st ≠ 2){l:List UInt8}(hl:dec l=none∨∃b,Gb n b∧Tp n L b∧l=frameB b):∃L',GI ls n {S with reps:=S.reps.set r (za4 R l)} L':=by
 obtain⟨g1,g2,g3,_,g5⟩:=hS.up hu;rcases hl with hn | ⟨b,hgb,htp,rfl⟩
 ·rw [zfv hn]
  exact⟨L,h.same hR hL hS (fun b hb=>hb)⟩
 ·have hbo:b.o ≠ r∨b.s<=R.clock.getD r 0:=by
   by_cases e:b.o=r
   ·right
    replace htp:=htp.2;rw [e,aj,ai,hL] at htp;have htp:b∈bs:=htp;have h7:=(zdj bs (zer n) hS.gb hS.due b htp).2;rw [g3,e,aj] at h7;exact h7
   ·exact Or.inl e
  obtain⟨ds,d1,d2,d3⟩:=zku (n:=n) (r:=r) (R:=R) (fun x=>Gb n x∧Tp n L x) b hgb hbo ⟨hgb,htp⟩ (fun x hx=>⟨g5 x hx,g1.held x hx,h.held R (an hR) x hx⟩)
  obtain⟨f1,f2⟩:=g1.frame (frameB b) (fun b' hb'=>by
   rw [dec_frame b hgb.isB] at hb';cases hb'
   exact⟨hgb,hbo⟩) g5
  have hS':=hS.dlv hu f1 d1 (fun x hx=>(d2 x hx).1) f2
  have hle:topB n r bs<=topB n r (bs++ds):=by
   unfold topB;rw [zc5];exact zno ds _ (fun x hx=>(d2 x hx).1) (by rw [g3];exact d1.due)
  have hsub:∀b∈bs,b.o=r->b∈bs++ds:=fun b hb _=>ao.2 (Or.inl hb)
  refine⟨_,h.set hR hL hle hsub hS' (fun x hx=> ?_) (fun x hx=>(d3 x hx).2.up hL hsub)⟩;rcases ao.1 hx with q | q
  ·exact(h.top bs (an hL) x q).up hL hsub
  ·exact(d2 x q).2.up hL hsub
end
