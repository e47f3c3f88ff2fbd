import Derived.Test.YtfmcngncaffloabGreatDoorH49InD
import Derived.Test.YtfmcngncaffloabGreatDoorH22KwB
namespace Go.Proofs.YtfmcngncaffloabGreatDoor
open Go.RowKit
set_option maxRecDepth 100000
section
variable {n r : Nat} {R : Rp}
theorem RU.begin(h:RU n r R):RU n r (za4 R).1:=by
 unfold za4
 split
 ·exact h
 ·rename_i h1
  split
  ·exact h
  ·rename_i h2
   have hs0:R.st=0:=by rcases h.st with e | e;exact e;exact absurd e h1
   have he:=h.idle hs0
   rw [h.num,Int.toNat_natCast] at h2
   refine⟨h.ok.same rfl rfl rfl rfl rfl,h.cl,h.n2,h.n4,h.rlt,h.num,Or.inr rfl,fun _=>he,fun _=> ?_,h.el,fun j hj=>h.eff j hj,h.obs,h.time,h.held⟩
   have:=(h.ok.getD r).2
   show R.clock.getD r 0<30
   omega
theorem RU.end(h:RU n r R):RU n r (endR R):=
 ⟨h.ok.same rfl rfl rfl rfl rfl,h.cl,h.n2,h.n4,h.rlt,h.num,Or.inl rfl,fun _=>rfl,fun e=>(by cases e),Nat.zero_le _,fun j hj=>(by cases hj),h.obs,h.time,h.held⟩
theorem RU.sync(h:RU n r R):RU n r (syncR R):=
 ⟨h.ok.same rfl rfl rfl rfl rfl,h.cl,h.n2,h.n4,h.rlt,h.num,h.st,h.idle,h.seq,h.el,fun j hj=>h.eff j hj,h.obs,h.time,h.held⟩
theorem RU.put(h:RU n r R)(h1:R.st=1)(hl:R.effs.length<5)(op:Int)(k:Nat)(a b:Int)(o:Ob)(hk8:k<8)(h1':1<=op)(h6:op<=6)(hkd:(k:Int) % 4=Wv.rKind op)(ho:R.obs[k]?=some o)(he:((seeTo (pendB R) k o R.effs.length).answer op a b).err=0)
  (hd1:¬(((seeTo (pendB R) k o R.effs.length).answer op a b).ds.length:Int)<Wv.rLeastD op) (hd2:¬(((seeTo (pendB R) k o R.effs.length).answer op a b).ds.length:Int)>Wv.rMostD op):RU n r (putR R op k a b o):=by
 obtain⟨o',g1,g2,g3⟩:=h.obs k hk8
 obtain rfl:o'=o:=by rw [ho] at g1;exact(Option.some.inj g1).symm
 have hkind:((seeTo (pendB R) k o' R.effs.length).kind:Int)=Wv.rKind op:=by
  have:∀j,(seeTo (pendB R) k o' j).kind=o'.kind:=by
   intro j
   induction j with
   | zero=>rfl
   | succ j ih=>
    rw [seeTo]
    split
    ·split
     ·rw [Ob.take_kind,ih]
     ·exact ih
    ·exact ih
  rw [this,g2];omega
 have hA:=ans_cv (h.see hk8 ho _ (Nat.le_refl _)) h1' h6 hkind a b he
 have hp:(putR R op k a b o').effs=R.effs++ [syE op k ((seeTo (pendB R) k o' R.effs.length).answer op a b)]:=rfl
 refine⟨h.ok.same rfl rfl rfl rfl rfl,h.cl,h.n2,h.n4,h.rlt,h.num,h.st,fun e=> ?_,h.seq, ?_,fun j hj=> ?_,h.obs,h.time,h.held⟩
 ·have e:R.st=0:=e
  omega
 ·rw [hp,List.length_append];simp;omega
 ·simp only [hp] at hj ⊢
  by_cases hq:j<R.effs.length
  ·rw [List.getElem_append_left hq,zll (b:=pendB R) (b':=pendB (putR R op k a b o')) rfl rfl rfl];exact h.eff j hq
  ·have hj':j=R.effs.length:=by simp at hj;omega
   subst hj'
   rw [List.getElem_append_right (Nat.le_refl _)]
   simp only [Nat.sub_self,List.getElem_cons_zero]
   rw [zll (b:=pendB R) (b':=pendB (putR R op k a b o')) rfl rfl rfl]
   exact zz5 hA h1' h6 k hk8 hkd hd1 hd2
theorem RU.held_take(h:RU n r R)(f:Wv.Bt->Bool):(∀x∈(takeP zal f R.held).2,Gb n x)∧(takeP zal f R.held).2.length<=6:=by
 refine⟨fun x hx=>h.held x (za2 _ _ _ x (Or.inr hx)), ?_⟩
 have h1:=zcx zal f R.held
 have h2:=h.ok.most
 omega
theorem RU.commit(h:RU n r R)(h1:R.st=1)(he:R.effs ≠ []):RU n r (zb2 R):=by
 have hb:=h.gb h1 he
 have hfl:=zba hb.isB
 have ht:=h.held_take (likeB (pendB R))
 exact(RU.deliver (R:=endR R) h.end hb (zjv (R:=R)) hfl ht.1 ht.2 (Or.inr rfl)).sync
theorem RU.heldTo(h:RU n r R){l:List Wv.Bt}(hl:∀x∈l,Gb n x)(h6:l.length<=6):RU n r {R with held:=l}:=
 ⟨h.ok.heldTo (fun x hx=>(hl x hx).isB) h6,h.cl,h.n2,h.n4,h.rlt,h.num,h.st,h.idle,h.seq,h.el,fun j hj=>h.eff j hj,h.obs,h.time,hl⟩
theorem zir{α:Type}{less:α->α->Bool}{f:α->Bool}{bs:List α}{x:α}(h:(takeP less f bs).1=some x):f x=true∧x∈bs:=⟨zis h,za2 less f bs x (Or.inl (by rw [h];simp))⟩
theorem RU.heldR(m:Nat):∀R:Rp,RU n r R->(∀b∈R.held,b.o ≠ r)->RU n r (heldR m R)∧(∀b∈(heldR m R).held,b.o ≠ r):=by
 induction m with
 | zero=>intro R h ho;exact⟨h,ho⟩
 | succ m ih=>
  intro R h ho
  have ht:=h.held_take (dueB R.clock)
  have hm:∀x∈(takeP zal (dueB R.clock) R.held).2,x∈R.held:=fun x hx=>za2 _ _ _ x (Or.inr hx)
  unfold Go.Proofs.YtfmcngncaffloabGreatDoor.heldR
  split
  ·rename_i l e
   have e2:l=(takeP zal (dueB R.clock) R.held).2:=by rw [e]
   subst e2
   exact⟨h.heldTo ht.1 ht.2,fun b hb=>ho b (hm b hb)⟩
  ·rename_i x l e
   have e1:(takeP zal (dueB R.clock) R.held).1=some x:=by rw [e]
   have e2:l=(takeP zal (dueB R.clock) R.held).2:=by rw [e]
   subst e2
   obtain⟨hd,hx⟩:=zir e1
   have hR2:=h.heldTo ht.1 ht.2
   have ht2:=hR2.held_take (likeB x)
   have hgx:=h.held x hx
   have hdel:=RU.deliver h hgx hd (zba hgx.isB) ht2.1 ht2.2 (Or.inl (ho x hx))
   exact ih _ hdel (fun b hb=>ho b (hm b (za2 _ _ _ b (Or.inr hb))))
theorem RU.frame(h:RU n r R)(l:List UInt8)(hg:∀b,Wv.dec l=some b->Gb n b∧(b.o ≠ r∨b.s<=R.clock.getD r 0))(ho:∀b∈R.held,b.o ≠ r):RU n r (zbk R l)∧(∀b∈(zbk R l).held,b.o ≠ r):=by
 unfold zbk
 cases hd:Wv.dec l with
 | none=>exact⟨h,ho⟩
 | some b=>
  obtain⟨hb,hor⟩:=hg b hd
  have hll:=(zgx hd).2
  obtain⟨p1,p2,p3,_⟩:=zas hb.isB
  simp only
  split
  ·exact⟨h,ho⟩
  ·rename_i hn
   have hbo:b.o ≠ r:=by
    rcases hor with q | q
    ·exact q
    ·intro e
     apply hn
     right
     rw [e,Int.toNat_natCast]
     exact q
   split
   ·rename_i hdu
    have ht:=h.held_take (likeB b)
    exact RU.heldR _ _ (RU.deliver h hb hdu (by omega) ht.1 ht.2 (Or.inl hbo)) (fun x hx=>ho x (za2 _ _ _ x (Or.inr hx)))
   ·split
    ·rename_i hq
     refine⟨h.heldTo (fun x hx=> ?_) (by rw [zk5];omega),fun x hx=> ?_⟩
     ·rcases zdu _ _ _ x hx with q | q
      ·exact h.held x q
      ·rw [q];exact hb
     ·rcases zdu _ _ _ x hx with q | q
      ·exact ho x q
      ·rw [q];exact hbo
    ·exact⟨h,ho⟩
end
theorem RU.new(r n:Nat)(hr:r<n)(h2:2<=n)(h4:n<=4):RU n r (newR r n):=by
 refine⟨Rok.new r n h4,by show(List.replicate n (0:Int)).length=n;simp,h2,h4,hr,rfl,Or.inl rfl,fun _=>rfl,fun e=>(by cases e),Nat.zero_le _,fun j hj=>(by cases hj),fun k hk=> ?_,by show(0:Int)<=_;omega,fun b hb=>(by cases hb)⟩
 have hne:∀C:Wv.Dt->Prop,LvC C []:=fun C=>⟨by simp,fun p hp=>by cases hp⟩
 rcases k with _ | _ | _ | _ | _ | _ | _ | _ | k
 ·exact⟨_,rfl,rfl,trivial⟩
 ·exact⟨_,rfl,rfl,hne _⟩
 ·exact⟨_,rfl,rfl,hne _⟩
 ·exact⟨_,rfl,rfl,fun e he=>by cases he⟩
 ·exact⟨_,rfl,rfl,trivial⟩
 ·exact⟨_,rfl,rfl,hne _⟩
 ·exact⟨_,rfl,rfl,hne _⟩
 ·exact⟨_,rfl,rfl,fun e he=>by cases he⟩
 ·omega
def FrB(bs:List Wv.Bt):List UInt8:=bs.flatMap Wv.frameB
theorem zij:FrB []= []:=rfl
theorem zbc(b:Wv.Bt)(bs:List Wv.Bt):FrB (b::bs)=Wv.frameB b++FrB bs:=rfl
theorem zee(a b:List Wv.Bt):FrB (a++b)=FrB a++FrB b:=List.flatMap_append
theorem zlh{b:Wv.Bt}(h:Wv.isB b=true):15<=(Wv.frameB b).length∧Wv.num2 (Wv.frameB b)=(Wv.frameB b).length:=by
 obtain⟨h1,h2,h3,h4⟩:=Wv.frame_len b h
 exact⟨by omega,h2⟩
theorem zn3(a r:List UInt8)(h:2<=a.length):Wv.num2 (a++r)=Wv.num2 a:=by
 unfold Wv.num2
 have e0:(a++r).getD 0 0=a.getD 0 0:=by simp [List.getElem?_append_left (show 0<a.length by omega)]
 have e1:(a++r).getD 1 0=a.getD 1 0:=by simp [List.getElem?_append_left (show 1<a.length by omega)]
 rw [e0,e1]
theorem ze9{b:Wv.Bt}(h:Wv.isB b=true)(r:List UInt8):fstB (Wv.frameB b++r)=Wv.frameB b:=by
 obtain⟨h1,h2⟩:=zlh h
 unfold fstB
 rw [Wv.two_first _ (by rw [List.length_append];omega),zn3 _ _ (by omega),h2,Int.toNat_natCast,List.take_left]
def NoFr(l:List UInt8):Prop:=Wv.dec (fstB l)=none
theorem zjc:NoFr []:=by
 unfold NoFr Wv.dec fstB
 simp
theorem zxa{b:Wv.Bt}(h:Wv.isB b=true)(m:Nat)(hm:m<(Wv.frameB b).length):NoFr ((Wv.frameB b).take m):=by
 obtain⟨h1,h2⟩:=zlh h
 have hl:((Wv.frameB b).take m).length=m:=by rw [List.length_take];omega
 unfold NoFr
 by_cases hm2:m<4
 ·have hf:=zie ((Wv.frameB b).take m)
  unfold Wv.dec
  rw [if_neg (by omega)]
 ·have e1:Wv.num2 ((Wv.frameB b).take m)=(Wv.frameB b).length:=by
   have:=zn3 ((Wv.frameB b).take m) ((Wv.frameB b).drop m) (by omega)
   rw [List.take_append_drop] at this
   rw [←this]
   exact h2
  have e2:fstB ((Wv.frameB b).take m)=(Wv.frameB b).take m:=by
   unfold fstB
   rw [Wv.two_first _ (by omega),e1,Int.toNat_natCast,List.take_of_length_le (by omega)]
  rw [e2]
  unfold Wv.dec
  rw [if_neg (by rw [e1,hl];omega)]
theorem zho:∀(bs:List Wv.Bt),(∀b∈bs,Wv.isB b=true)->∀m,∃k tl,k<=bs.length∧(FrB bs).take m=FrB (bs.take k)++tl∧NoFr tl∧∀j,j<=bs.length->(FrB (bs.take j)).length<=m->j<=k
 | [],_,m=>⟨0, [],Nat.le_refl _,by simp [FrB],zjc,fun j hj _=>by simpa using hj⟩
 | b::bs,hb,m=>by
  have hib:=hb b (by simp)
  by_cases hm:m<(Wv.frameB b).length
  ·refine⟨0,(Wv.frameB b).take m,Nat.zero_le _, ?_,zxa hib m hm,fun j hj hl=> ?_⟩
   ·rw [zbc,List.take_append_of_le_length (by omega)]
    rfl
   ·rcases j with _ | j
    ·exact Nat.le_refl _
    ·rw [List.take_succ_cons,zbc,List.length_append] at hl
     omega
  ·obtain⟨k,tl,h1,h2,h3,h4⟩:=zho bs (fun x hx=>hb x (by simp [hx])) (m - (Wv.frameB b).length)
   refine⟨k+1,tl,by simpa using h1, ?_,h3,fun j hj hl=> ?_⟩
   ·rw [zbc,List.take_append,List.take_of_length_le (by omega),h2,List.take_succ_cons,zbc,List.append_assoc]
   ·rcases j with _ | j
    ·exact Nat.zero_le _
    ·rw [List.take_succ_cons,zbc,List.length_append] at hl
     have:=h4 j (by simpa using hj) (by omega)
     omega
def runC(c:List Int):List Wv.Bt->List Int
 | []=>c
 | b::bs=>runC (c.set b.o.toNat b.s) bs
def dueS(c:List Int):List Wv.Bt->Prop
 | []=>True
 | b::bs=>dueB c b=true∧dueS (c.set b.o.toNat b.s) bs
theorem zcd(c:List Int):∀(a b:List Wv.Bt),runC c (a++b)=runC (runC c a) b
 | [],_=>rfl
 | x::a,b=>by rw [List.cons_append,runC,runC];exact zcd _ a b
theorem zd1:∀(c:List Int) (a b:List Wv.Bt),dueS c (a++b)↔dueS c a∧dueS (runC c a) b
 | c, [],b=>by simp [dueS,runC]
 | c,x::a,b=>by
  rw [List.cons_append,dueS,dueS,runC,zd1 _ a b,and_assoc]
theorem zlm{c:List Int}{bs:List Wv.Bt}(h:dueS c bs)(k:Nat):dueS c (bs.take k):=by
 rw [←List.take_append_drop k bs,zd1] at h
 exact h.1
theorem zg4{n r:Nat}:∀(bs:List Wv.Bt) (tl:List UInt8) (R:Rp) (m:Nat),(∀b∈bs,Gb n b)->NoFr tl->dueS R.clock bs->RU n r R->R.st=0->R.held= []->(FrB bs++tl).length<=m->
  RU n r (zax m R (FrB bs++tl))∧(zax m R (FrB bs++tl)).log=R.log++FrB bs∧(zax m R (FrB bs++tl)).clock=runC R.clock bs∧(zax m R (FrB bs++tl)).st=0∧(zax m R (FrB bs++tl)).held= []∧(zax m R (FrB bs++tl)).effs=R.effs
 | [],tl,R,m,_,ht,_,hR,hst,hh,_=>by
  rw [zij,List.nil_append,zep ht]
  exact⟨hR,by simp,rfl,hst,hh,rfl⟩
 | b::bs,tl,R,m,hb,ht,hd,hR,hst,hh,hm=>by
  have hgb:=hb b (by simp)
  have e1:fstB (FrB (b::bs)++tl)=Wv.frameB b:=by rw [zbc,List.append_assoc,ze9 hgb.isB]
  have e2:Wv.dec (fstB (FrB (b::bs)++tl))=some b:=by rw [e1];exact Wv.dec_frame b hgb.isB
  have e3:(FrB (b::bs)++tl).drop (fstB (FrB (b::bs)++tl)).length=FrB bs++tl:=by rw [e1,zbc,List.append_assoc,List.drop_left]
  obtain⟨m2,hm2,hr⟩:=zfv (n:=m) (R:=R) e2 hd.1 hm
  rw [e3] at hm2 hr
  rw [e1] at hr
  rw [←hr]
  have hR2:=RU.deliver (fr:=Wv.frameB b) (hs:= []) hR hgb hd.1 (zba hgb.isB) (fun x hx=>by cases hx) (by simp) (Or.inr hst)
  obtain⟨g1,g2,g3,g4,g5,g6⟩:=zg4 bs tl (zaq R b (Wv.frameB b) []) m2 (fun x hx=>hb x (by simp [hx])) ht hd.2 hR2 hst rfl hm2
  refine⟨g1, ?_,g3,g4,g5,g6⟩
  rw [g2,zbc]
  show(R.log++Wv.frameB b)++FrB bs=R.log++(Wv.frameB b++FrB bs)
  rw [List.append_assoc]
theorem zht{n:Nat}:∀(bs:List Wv.Bt) (tl:List UInt8),(∀b∈bs,Gb n b)->NoFr tl->LogN n (FrB bs++tl)
 | [],tl,_,ht=>fun m p hp=>by
  rw [zij,List.nil_append] at hp
  cases m with
  | zero=>cases hp
  | succ m=>
   have ht:Wv.dec (fstB tl)=none:=ht
   rw [allN,ht] at hp
   cases hp
 | b::bs,tl,hb,ht=>fun m p hp=>by
  have hgb:=hb b (by simp)
  have e1:fstB (FrB (b::bs)++tl)=Wv.frameB b:=by rw [zbc,List.append_assoc,ze9 hgb.isB]
  have e2:Wv.dec (fstB (FrB (b::bs)++tl))=some b:=by rw [e1];exact Wv.dec_frame b hgb.isB
  have e3:(FrB (b::bs)++tl).drop (fstB (FrB (b::bs)++tl)).length=FrB bs++tl:=by rw [e1,zbc,List.append_assoc,List.drop_left]
  cases m with
  | zero=>cases hp
  | succ m=>
   rw [allN,e2] at hp
   simp only [e3,List.mem_cons] at hp
   rcases hp with q | q
   ·rw [q];exact hgb.cl
   ·exact zht bs tl (fun x hx=>hb x (by simp [hx])) ht m p q
def obsL(obs:List Ob):List Wv.Bt->List Ob
 | []=>obs
 | b::bs=>obsL (obsTo b obs b.effs.length) bs
def obN:List Ob:= [.counter 0, .set [], .reg [], .list [], .counter 0, .set [], .reg [], .list []]
theorem zja:∀(bs:List Wv.Bt) (obs:List Ob) (ds:List Wv.Bt),obsL obs (bs++ds)=obsL (obsL obs bs) ds
 | [],_,_=>rfl
 | b::bs,obs,ds=>zja bs (obsTo b obs b.effs.length) ds
theorem zwt{n:Nat}:∀(bs:List Wv.Bt) (tl:List UInt8) (R:Rp) (m:Nat),(∀b∈bs,Gb n b)->NoFr tl->dueS R.clock bs->(FrB bs++tl).length<=m->(zax m R (FrB bs++tl)).obs=obsL R.obs bs
 | [],tl,R,m,_,ht,_,_=>by
  rw [zij,List.nil_append,zep ht]
  rfl
 | b::bs,tl,R,m,hb,ht,hd,hm=>by
  have hgb:=hb b (by simp)
  have e1:fstB (FrB (b::bs)++tl)=Wv.frameB b:=by rw [zbc,List.append_assoc,ze9 hgb.isB]
  have e2:Wv.dec (fstB (FrB (b::bs)++tl))=some b:=by rw [e1];exact Wv.dec_frame b hgb.isB
  have e3:(FrB (b::bs)++tl).drop (fstB (FrB (b::bs)++tl)).length=FrB bs++tl:=by rw [e1,zbc,List.append_assoc,List.drop_left]
  obtain⟨m2,hm2,hr⟩:=zfv (n:=m) (R:=R) e2 hd.1 hm
  rw [e3] at hm2 hr
  rw [e1] at hr
  rw [←hr,zwt bs tl (zaq R b (Wv.frameB b) []) m2 (fun x hx=>hb x (by simp [hx])) ht hd.2 hm2]
  rfl
def csum(k:Nat):List Wv.Ef->Int
 | []=>0
 | e::es=>(if e.ob.toNat=k then e.va else 0)+csum k es
theorem zo9(k:Nat):∀(a b:List Wv.Ef),csum k (a++b)=csum k a+csum k b
 | [],b=>by simp [csum]
 | e::a,b=>by rw [List.cons_append,csum,csum,zo9 k a b];omega
theorem zdl(b:Wv.Bt)(obs:List Ob)(q:Nat)(v:Int)(h:obs[q]?=some (.counter v)):∀j,j<=b.effs.length->(obsTo b obs j)[q]?=some (.counter (v+csum q (b.effs.take j)))
 | 0,_=>by rw [obsTo,List.take_zero,csum,Int.add_zero];exact h
 | j+1,hj=>by
  have ih:=zdl b obs q v h j (by omega)
  have he:b.effs[j]?=some b.effs[j]:=List.getElem?_eq_getElem (by omega)
  rw [obsTo,he]
  simp only
  have et:b.effs.take (j+1)=b.effs.take j++ [b.effs[j]]:=by rw [List.take_add_one,he];rfl
  rw [et,zo9,csum,csum]
  unfold zcc
  by_cases hq:b.effs[j].ob.toNat=q
  ·rw [hq,ih,if_pos rfl]
   simp only
   rw [List.getElem?_set_self (List.getElem?_eq_some_iff.1 ih).1]
   simp only [Ob.take]
   congr 2
   omega
  ·rw [if_neg hq]
   have:v+(csum q (b.effs.take j)+(0+0))=v+csum q (b.effs.take j):=by omega
   rw [this]
   split
   ·exact ih
   ·rw [List.getElem?_set_ne hq];exact ih
def KB(b:Wv.Bt):Prop:=csum 0 b.effs=csum 4 b.effs
theorem zi9:∀(bs:List Wv.Bt) (obs:List Ob) (v:Int),(∀b∈bs,KB b)->obs[0]?=some (.counter v)->obs[4]?=some (.counter v)->∃u,(obsL obs bs)[0]?=some (.counter u)∧(obsL obs bs)[4]?=some (.counter u)
 | [],_,v,_,h0,h4=>⟨v,h0,h4⟩
 | b::bs,obs,v,hK,h0,h4=>by
  have g0:=zdl b obs 0 v h0 b.effs.length (Nat.le_refl _)
  have g4:=zdl b obs 4 v h4 b.effs.length (Nat.le_refl _)
  rw [List.take_length] at g0 g4
  have hb:csum 0 b.effs=csum 4 b.effs:=hK b (by simp)
  rw [←hb] at g4
  exact zi9 bs _ _ (fun x hx=>hK x (by simp [hx])) g0 g4
structure Dlv(r:Nat)(R R':Rp)(ds:List Wv.Bt):Prop where
 log:R'.log=R.log++FrB ds
 clk:R'.clock=runC R.clock ds
 due:dueS R.clock ds
 syn:R'.synced=R.synced
 st:R'.st=R.st
 no:∀b∈ds,b.o ≠ r
 obs:R'.obs=obsL R.obs ds
theorem Dlv.refl(r:Nat)(R:Rp):Dlv r R R []:=⟨by simp [FrB],rfl,trivial,rfl,rfl,fun b hb=>(by cases hb),rfl⟩
theorem Dlv.held{r:Nat}{R R':Rp}{ds:List Wv.Bt}(h:Dlv r R R' ds)(l:List Wv.Bt):Dlv r R {R' with held:=l} ds:=⟨h.log,h.clk,h.due,h.syn,h.st,h.no,h.obs⟩
theorem Dlv.one{r:Nat}{R R':Rp}{ds:List Wv.Bt}{b:Wv.Bt}{hs:List Wv.Bt}(hd:dueB R.clock b=true)(hb:b.o ≠ r)(h:Dlv r (zaq R b (Wv.frameB b) hs) R' ds):Dlv r R R' (b::ds):=by
 refine⟨?_,h.clk,⟨hd,h.due⟩,h.syn,h.st,fun x hx=> ?_,h.obs⟩
 ·rw [h.log,zbc]
  show(R.log++Wv.frameB b)++FrB ds=R.log++(Wv.frameB b++FrB ds)
  rw [List.append_assoc]
 ·rcases List.mem_cons.1 hx with q | q
  ·rw [q];exact hb
  ·exact h.no x q
theorem zux{r:Nat}(P:Wv.Bt->Prop)(m:Nat):∀R:Rp,(∀b∈R.held,b.o ≠ r∧P b)->∃ds,Dlv r R (heldR m R) ds∧(∀x∈ds,P x)∧(∀x∈(heldR m R).held,P x):=by
 induction m with
 | zero=>intro R h;exact⟨[],Dlv.refl r R,fun x hx=>(by cases hx),fun x hx=>(h x hx).2⟩
 | succ m ih=>
  intro R ho
  have hm:∀x∈(takeP zal (dueB R.clock) R.held).2,x∈R.held:=fun x hx=>za2 _ _ _ x (Or.inr hx)
  unfold heldR
  split
  ·rename_i l e
   have e2:l=(takeP zal (dueB R.clock) R.held).2:=by rw [e]
   subst e2
   exact⟨[],(Dlv.refl r R).held _,fun x hx=>(by cases hx),fun x hx=>(ho x (hm x hx)).2⟩
  ·rename_i x l e
   have e1:(takeP zal (dueB R.clock) R.held).1=some x:=by rw [e]
   have e2:l=(takeP zal (dueB R.clock) R.held).2:=by rw [e]
   subst e2
   obtain⟨hd,hx⟩:=zir e1
   obtain⟨ds,h1,h2,h3⟩:=ih (zaq R x (Wv.frameB x) (takeP zal (likeB x) (takeP zal (dueB R.clock) R.held).2).2) (fun b hb=>ho b (hm b (za2 _ _ _ b (Or.inr hb))))
   refine⟨x::ds,Dlv.one hd (ho x hx).1 h1,fun y hy=> ?_,h3⟩
   rcases List.mem_cons.1 hy with q | q
   ·rw [q];exact(ho x hx).2
   ·exact h2 y q
theorem zrg{n r:Nat}{R:Rp}(P:Wv.Bt->Prop)(b:Wv.Bt)(hb:Gb n b)(hbo:b.o ≠ r∨b.s<=R.clock.getD r 0)(hP:P b)(ho:∀x∈R.held,x.o ≠ r∧P x):∃ds,Dlv r R (zbk R (Wv.frameB b)) ds∧(∀x∈ds,P x)∧(∀x∈(zbk R (Wv.frameB b)).held,P x):=by
 have e:=Wv.dec_frame b hb.isB
 unfold zbk
 rw [e]
 simp only
 split
 ·exact⟨[],Dlv.refl r R,fun x hx=>(by cases hx),fun x hx=>(ho x hx).2⟩
 ·rename_i hn
  have hbr:b.o ≠ r:=by
   rcases hbo with q | q
   ·exact q
   ·intro e
    apply hn
    right
    rw [e,Int.toNat_natCast]
    exact q
  split
  ·rename_i hd
   obtain⟨ds,h1,h2,h3⟩:=zux P ((takeP zal (likeB b) R.held).2.length+1) (zaq R b (Wv.frameB b) (takeP zal (likeB b) R.held).2) (fun x hx=>ho x (za2 _ _ _ x (Or.inr hx)))
   refine⟨b::ds,Dlv.one hd hbr h1,fun y hy=> ?_,h3⟩
   rcases List.mem_cons.1 hy with q | q
   ·rw [q];exact hP
   ·exact h2 y q
  ·split
   ·refine⟨[],(Dlv.refl r R).held _,fun x hx=>(by cases hx),fun x hx=> ?_⟩
    rcases zdu _ _ _ x hx with q | q
    ·exact(ho x q).2
    ·rw [q];exact hP
   ·exact⟨[],Dlv.refl r R,fun x hx=>(by cases hx),fun x hx=>(ho x hx).2⟩
def zer(n:Nat):List Int:=List.replicate n 0
structure RS(n r:Nat)(R:Rp)(bs:List Wv.Bt):Prop where
 gb:∀b∈bs,Gb n b
 due:dueS (zer n) bs
 n2:2<=n
 n4:n<=4
 rlt:r<n
 num:R.n=r
 cl:R.clock.length=n
 up:R.st ≠ 2->RU n r R∧R.log=FrB bs∧runC (zer n) bs=R.clock∧(∃j,j<=bs.length∧R.synced=((FrB (bs.take j)).length:Nat)∧∀b∈bs.drop j,b.o ≠ r)∧∀b∈R.held,b.o ≠ r
 down:R.st=2->(∃tl,R.log=FrB bs++tl∧NoFr tl)∧R.log.length<=9000000∧R.held= []∧R.synced=R.log.length
 ob:R.st ≠ 2->R.obs=obsL obN bs
def topB(n r:Nat)(bs:List Wv.Bt):Int:=(runC (zer n) bs).getD r 0
section
variable {n r : Nat} {R : Rp} {bs : List Wv.Bt}
theorem RS.top(h:RS n r R bs)(hu:R.st ≠ 2):topB n r bs=R.clock.getD r 0:=by unfold topB;rw [(h.up hu).2.2.1]
theorem RS.rlg(h:RS n r R bs)(hu:R.st ≠ 2):Rlg n R:=by
 obtain⟨h1,h2,_⟩:=h.up hu
 have h3:=h.n2
 refine⟨h1.ok,h1.cl,h1.n4,by omega, ?_⟩
 have:=zht bs [] h.gb zjc
 rw [List.append_nil] at this
 rw [h2]
 exact this
theorem RS.same(h:RS n r R bs)(hu:R.st ≠ 2){R':Rp}(hR:RU n r R')(e1:R'.log=R.log)(e2:R'.clock=R.clock)(e3:R'.held=R.held)(e4:R'.synced=R.synced∨R'.synced=R.log.length)(e5:R'.obs=R.obs):RS n r R' bs:=by
 obtain⟨h1,h2,h3,⟨j,j1,j2,j3⟩,h5⟩:=h.up hu
 refine⟨h.gb,h.due,h.n2,h.n4,h.rlt,hR.num,hR.cl,fun _=>⟨hR,e1.trans h2,by rw [e2];exact h3, ?_,by rw [e3];exact h5⟩,fun e=> ?_,fun _=>e5.trans (h.ob hu)⟩
 ·rcases e4 with e4 | e4
  ·exact⟨j,j1,e4.trans j2,j3⟩
  ·exact⟨bs.length,Nat.le_refl _,by rw [e4,h2,List.take_length],fun b hb=>by simp at hb⟩
 ·rcases hR.st with q | q<;>omega
theorem RS.dlv(h:RS n r R bs)(hu:R.st ≠ 2){R':Rp}{ds:List Wv.Bt}(hR:RU n r R')(hd:Dlv r R R' ds)(hg:∀b∈ds,Gb n b)(hh:∀b∈R'.held,b.o ≠ r):RS n r R' (bs++ds):=by
 obtain⟨h1,h2,h3,⟨j,j1,j2,j3⟩,h5⟩:=h.up hu
 refine⟨fun b hb=> ?_,(zd1 _ _ _).2 ⟨h.due,by rw [h3];exact hd.due⟩,h.n2,h.n4,h.rlt,hR.num,hR.cl,fun _=>⟨hR,by rw [hd.log,h2,zee],by rw [zcd,h3,hd.clk],⟨j,by rw [List.length_append];omega, ?_,fun b hb=> ?_⟩,hh⟩,fun e=> ?_,fun _=>by rw [hd.obs,h.ob hu,zja]⟩
 ·rcases List.mem_append.1 hb with q | q
  ·exact h.gb b q
  ·exact hg b q
 ·rw [hd.syn,j2,List.take_append_of_le_length j1]
 ·rw [List.drop_append_of_le_length j1] at hb
  rcases List.mem_append.1 hb with q | q
  ·exact j3 b q
  ·exact hd.no b q
 ·rw [hd.st] at e
  exact absurd e hu
theorem RS.commit(h:RS n r R bs)(h1:R.st=1)(he:R.effs ≠ []):RS n r (zb2 R) (bs++ [pendB R]):=by
 have hu:R.st ≠ 2:=by omega
 obtain⟨g1,g2,g3,_,g5⟩:=h.up hu
 have hR:=g1.commit h1 he
 have hb:=g1.gb h1 he
 have hl:(zb2 R).log=FrB (bs++ [pendB R]):=by
  show R.log++Wv.frameB (pendB R)=_
  rw [g2,zee]
  simp [FrB]
 refine⟨fun b hb'=> ?_,(zd1 _ _ _).2 ⟨h.due,by rw [g3];exact⟨zjv (R:=R),trivial⟩⟩,h.n2,h.n4,h.rlt,hR.num,hR.cl,fun _=>⟨hR,hl,by rw [zcd,g3];rfl,⟨(bs++ [pendB R]).length,Nat.le_refl _, ?_,fun b hb=>by simp at hb⟩,fun b hb=>g5 b (za2 _ _ _ b (Or.inr hb))⟩,fun e=> ?_,fun _=>by show obsTo (pendB R) R.obs (pendB R).effs.length=_;rw [h.ob hu,zja];rfl⟩
 ·rcases List.mem_append.1 hb' with q | q
  ·exact h.gb b q
  ·rw [List.mem_singleton.1 q];exact hb
 ·rw [List.take_length,←hl]
  rfl
 ·rcases hR.st with q | q<;>omega
theorem zmf{n r:Nat}:∀(ds:List Wv.Bt) (c:List Int),(∀b∈ds,Gb n b)->dueS c ds->c.getD r 0<=(runC c ds).getD r 0
 | [],c,_,_=>Int.le_refl _
 | b::ds,c,hg,hd=>by
  obtain⟨p1,p2,p3,_⟩:=zas (hg b (by simp)).isB
  have h1:=(zyh hd.1 p2 p3).2 r
  have h2:=zmf (r:=r) ds (c.set b.o.toNat b.s) (fun x hx=>hg x (by simp [hx])) hd.2
  rw [runC]
  omega
theorem zsg{n r:Nat}:∀(ds:List Wv.Bt) (c:List Int),(∀b∈ds,Gb n b)->(∀b∈ds,b.o ≠ r)->(runC c ds).getD r 0=c.getD r 0
 | [],c,_,_=>rfl
 | b::ds,c,hg,hn=>by
  obtain⟨p1,p2,p3,_⟩:=zas (hg b (by simp)).isB
  have h1:=hn b (by simp)
  rw [runC,zsg ds _ (fun x hx=>hg x (by simp [hx])) (fun x hx=>hn x (by simp [hx])),List.getD_eq_getElem?_getD,List.getElem?_set_ne (by omega),←List.getD_eq_getElem?_getD]
theorem ztj{n r:Nat}{bs:List Wv.Bt}(hg:∀b∈bs,Gb n b)(hd:dueS (zer n) bs){j i:Nat}(hij:j<=i):topB n r (bs.take j)<=topB n r (bs.take i):=by
 have e:bs.take i=bs.take j++(bs.take i).drop j:=by
  have:=List.take_append_drop j (bs.take i)
  rw [List.take_take,Nat.min_eq_left hij] at this
  exact this.symm
 have hd2:=zlm hd i
 rw [e] at hd2 ⊢
 unfold topB
 rw [zcd]
 exact zmf _ _ (fun x hx=>hg x (List.mem_of_mem_take (List.mem_of_mem_drop hx))) ((zd1 _ _ _).1 hd2).2
theorem RS.cut(h:RS n r R bs)(hu:R.st ≠ 2){bs2:List Wv.Bt}{lg:List UInt8}(hb2:∀b∈bs2,Gb n b)(hd2:dueS (zer n) (bs++bs2))(hlg:lg=FrB (bs++bs2))(hll:lg.length<=9000000)(k:Int):∃i,RS n r (zbv {R with log:=lg} k) ((bs++bs2).take i)∧topB n r bs<=topB n r ((bs++bs2).take i):=by
 obtain⟨h1,h2,h3,⟨j,j1,j2,j3⟩,h5⟩:=h.up hu
 have hg:∀b∈bs++bs2,Gb n b:=fun b hb=>by
  rcases List.mem_append.1 hb with q | q
  ·exact h.gb b q
  ·exact hb2 b q
 have hjl:(FrB (bs.take j)).length<=lg.length:=by
  rw [hlg]
  have:FrB (bs++bs2)=FrB (bs.take j)++(FrB (bs.drop j)++FrB bs2):=by
   rw [←List.append_assoc,←zee,List.take_append_drop,←zee]
  rw [this,List.length_append]
  omega
 obtain⟨m,hm⟩:∃m,cutN {R with log:=lg} k=m:=⟨_,rfl⟩
 have hm1:(FrB (bs.take j)).length<=m∧m<=lg.length:=by
  have:cutN {R with log:=lg} k=(R.synced+min (max k 0) ((lg.length:Int) - R.synced)).toNat:=rfl
  rw [this] at hm
  rw [j2] at hm
  omega
 obtain⟨i,tl,k1,k2,k3,k4⟩:=zho (bs++bs2) (fun b hb=>(hg b hb).isB) m
 have hji:j<=i:=k4 j (by rw [List.length_append];omega) (by rw [List.take_append_of_le_length j1];exact hm1.1)
 have hlog:(zbv {R with log:=lg} k).log=FrB ((bs++bs2).take i)++tl:=by
  show lg.take (cutN {R with log:=lg} k)=_
  rw [hm,hlg,k2]
 have hlen:(lg.take m).length=m:=by rw [List.length_take];omega
 refine⟨i,⟨fun b hb=>hg b (List.mem_of_mem_take hb),zlm hd2 i,h.n2,h.n4,h.rlt,h.num,h.cl,fun e=>absurd rfl e,fun _=>⟨⟨tl,hlog,k3⟩, ?_,rfl, ?_⟩,fun e=>absurd rfl e⟩, ?_⟩
 ·show(lg.take (cutN {R with log:=lg} k)).length<=9000000
  rw [hm,hlen]
  omega
 ·show((cutN {R with log:=lg} k:Nat):Int)=((lg.take (cutN {R with log:=lg} k)).length:Nat)
  rw [hm,hlen]
 ·have e1:topB n r bs=topB n r (bs.take j):=by
   unfold topB
   conv=>lhs;rw [←List.take_append_drop j bs,zcd]
   exact zsg _ _ (fun x hx=>h.gb x (List.mem_of_mem_drop hx)) j3
  rw [e1]
  have:=ztj (r:=r) hg hd2 hji
  rw [List.take_append_of_le_length j1] at this
  exact this
theorem RS.restart(h:RS n r R bs)(hd:R.st=2):RS n r (zcf R) bs:=by
 obtain⟨⟨tl,t1,t2⟩,t3,t4,t5⟩:=h.down hd
 have hn:R.n.toNat=r:=by rw [h.num,Int.toNat_natCast]
 have hz:(newR r n).clock=zer n:=rfl
 obtain⟨g1,g2,g3,g4,g5,g6⟩:=zg4 (r:=r) bs tl (newR r n) R.log.length h.gb t2 (by rw [hz];exact h.due) (RU.new r n h.rlt h.n2 h.n4) rfl rfl (by rw [t1];exact Nat.le_refl _)
 rw [←t1] at g1 g2 g3 g4 g5 g6
 have e:zcf R=syncR (zax R.log.length (newR r n) R.log):=by unfold zcf;rw [hn,h.cl]
 rw [e]
 have ho:(syncR (zax R.log.length (newR r n) R.log)).obs=obsL obN bs:=by
  have h0:=zwt bs tl (newR r n) R.log.length h.gb t2 (by rw [hz];exact h.due) (by rw [t1];exact Nat.le_refl _)
  rw [←t1] at h0
  exact h0
 have hl:(syncR (zax R.log.length (newR r n) R.log)).log=FrB bs:=by show(zax R.log.length (newR r n) R.log).log=_;rw [g2];show []++FrB bs=_;simp
 refine⟨h.gb,h.due,h.n2,h.n4,h.rlt,g1.sync.num,g1.sync.cl,fun _=>⟨g1.sync,hl,g3.symm,⟨bs.length,Nat.le_refl _, ?_,fun b hb=>by simp at hb⟩,fun b hb=> ?_⟩,fun e2=> ?_,fun _=>ho⟩
 ·rw [List.take_length,←hl]
  rfl
 ·have hb:b∈(zax R.log.length (newR r n) R.log).held:=hb
  rw [g5] at hb
  cases hb
 ·have e2:(zax R.log.length (newR r n) R.log).st=2:=e2
  omega
end
def Tp(K:Wv.Bt->Prop)(n:Nat)(L:List (List Wv.Bt))(b:Wv.Bt):Prop:=K b∧b.s<=topB n b.o.toNat (L.getD b.o.toNat [])
structure MG(K:Wv.Bt->Prop)(n:Nat)(L:List (List Wv.Bt))(m:Ms):Prop where
 t0:0<=m.t
 t1:m.t<n
 f0:0<=m.f
 f1:m.f<n
 kind:m.k=1∨m.k=2
 len:m.bs.length<=70000
 fr:m.k=1->m.sp=false->∃b,Gb n b∧Tp K n L b∧m.bs=Wv.frameB b
 sp:m.k=1->m.sp=true->Wv.dec m.bs=none
structure GI(K:Wv.Bt->Prop)(ls:List Int)(n:Nat)(S:Sto)(L:List (List Wv.Bt)):Prop where
 rl:S.reps.length=n
 ll:L.length=n
 n2:2<=n
 n4:n<=4
 rep:∀(r:Nat) R,S.reps[r]?=some R->∃bs,L[r]?=some bs∧RS n r R bs
 top:∀bs∈L,∀b∈bs,Tp K n L b
 held:∀R∈S.reps,∀b∈R.held,Tp K n L b
 msg:∀m∈S.msgs,MG K n L m
 lst:∀r,ls.getD r 0<=topB n r (L.getD r [])
section
variable {K : Wv.Bt -> Prop} {ls : List Int} {n : Nat} {S : Sto} {L : List (List Wv.Bt)}
theorem Tp.up{r:Nat}{bs bs':List Wv.Bt}{b:Wv.Bt}(h:Tp K n L b)(hL:L[r]?=some bs)(hle:topB n r bs<=topB n r bs'):Tp K n (L.set r bs') b:=by
 obtain⟨hr,hrb⟩:=List.getElem?_eq_some_iff.1 hL
 refine⟨h.1, ?_⟩
 replace h:=h.2
 by_cases e:b.o.toNat=r
 ·have e1:L.getD b.o.toNat []=bs:=by rw [e,List.getD_eq_getElem?_getD,hL];rfl
  have e2:(L.set r bs').getD b.o.toNat []=bs':=by rw [e,List.getD_eq_getElem?_getD,List.getElem?_set_self hr];rfl
  rw [e1,e] at h
  rw [e2,e]
  exact Int.le_trans h hle
 ·have e2:(L.set r bs').getD b.o.toNat []=L.getD b.o.toNat []:=by rw [List.getD_eq_getElem?_getD,List.getElem?_set_ne (fun q=>e q.symm),←List.getD_eq_getElem?_getD]
  rw [e2]
  exact h
theorem MG.up{r:Nat}{bs bs':List Wv.Bt}{m:Ms}(h:MG K n L m)(hL:L[r]?=some bs)(hle:topB n r bs<=topB n r bs'):MG K n (L.set r bs') m:=
 ⟨h.t0,h.t1,h.f0,h.f1,h.kind,h.len,fun a b=>(h.fr a b).imp fun _ q=>⟨q.1,q.2.1.up hL hle,q.2.2⟩,h.sp⟩
theorem GI.set(h:GI K ls n S L){r:Nat}{R R':Rp}{bs bs':List Wv.Bt}(hR:S.reps[r]?=some R)(hL:L[r]?=some bs)(hle:topB n r bs<=topB n r bs')(hS:RS n r R' bs')(hb:∀b∈bs',Tp K n (L.set r bs') b)(hh:∀b∈R'.held,Tp K n (L.set r bs') b):GI K ls n {S with reps:=S.reps.set r R'} (L.set r bs'):=by
 obtain⟨hr,_⟩:=List.getElem?_eq_some_iff.1 hR
 obtain⟨hr2,_⟩:=List.getElem?_eq_some_iff.1 hL
 refine⟨by rw [List.length_set];exact h.rl,by rw [List.length_set];exact h.ll,h.n2,h.n4,fun q Q hQ=> ?_,fun c hc b hb'=> ?_,fun Q hQ b hb'=> ?_,fun m hm=>(h.msg m hm).up hL hle,fun q=> ?_⟩
 ·have hQ:(S.reps.set r R')[q]?=some Q:=hQ
  by_cases e:r=q
  ·subst e
   rw [List.getElem?_set_self hr] at hQ
   cases hQ
   exact⟨bs',List.getElem?_set_self hr2,hS⟩
  ·rw [List.getElem?_set_ne e] at hQ
   obtain⟨c,h1,h2⟩:=h.rep q Q hQ
   exact⟨c,by rw [List.getElem?_set_ne e];exact h1,h2⟩
 ·rcases List.mem_or_eq_of_mem_set hc with q | q
  ·exact(h.top c q b hb').up hL hle
  ·rw [q] at hb';exact hb b hb'
 ·have hQ:Q∈S.reps.set r R':=hQ
  rcases List.mem_or_eq_of_mem_set hQ with q | q
  ·exact(h.held Q q b hb').up hL hle
  ·rw [q] at hb';exact hh b hb'
 ·have h0:=h.lst q
  by_cases e:q=r
  ·subst e
   rw [List.getD_eq_getElem?_getD (l:=L),hL] at h0
   rw [List.getD_eq_getElem?_getD (l:=L.set q bs'),List.getElem?_set_self hr2]
   exact Int.le_trans h0 hle
  ·rw [List.getD_eq_getElem?_getD (l:=L.set r bs'),List.getElem?_set_ne (fun q=>e q.symm),←List.getD_eq_getElem?_getD]
   exact h0
theorem GI.bump(h:GI K ls n S L){r:Nat}{bs:List Wv.Bt}{m:Int}(hL:L[r]?=some bs)(hm:m<=topB n r bs)(hr:r<ls.length):GI K (ls.set r m) n S L:=
 ⟨h.rl,h.ll,h.n2,h.n4,h.rep,h.top,h.held,h.msg,fun q=>by
  rw [zcm _ _ _ _ hr]
  split
  ·rename_i e
   rw [e,List.getD_eq_getElem?_getD,hL]
   exact hm
  ·exact h.lst q⟩
theorem ziy{L:List (List Wv.Bt)}{r:Nat}{bs:List Wv.Bt}(hL:L[r]?=some bs):L.set r bs=L:=by
 obtain⟨hr,hrb⟩:=List.getElem?_eq_some_iff.1 hL
 rw [←hrb]
 exact List.set_getElem_self hr
theorem GI.same(h:GI K ls n S L){r:Nat}{R R':Rp}{bs:List Wv.Bt}(hR:S.reps[r]?=some R)(hL:L[r]?=some bs)(hS:RS n r R' bs)(hh:∀b∈R'.held,b∈R.held):GI K ls n {S with reps:=S.reps.set r R'} L:=by
 have h1:=h.set hR hL (Int.le_refl _) hS (fun b hb=>by rw [ziy hL];exact h.top bs (List.mem_of_getElem? hL) b hb) (fun b hb=>by rw [ziy hL];exact h.held R (List.mem_of_getElem? hR) b (hh b hb))
 rw [ziy hL] at h1
 exact h1
theorem GI.msgs(h:GI K ls n S L){ms:List Ms}(hm:∀m∈ms,MG K n L m):GI K ls n {S with msgs:=ms} L:=⟨h.rl,h.ll,h.n2,h.n4,h.rep,h.top,h.held,hm,h.lst⟩
theorem zg0{ms:List Ms}{x m:Ms}(h:m∈addM ms x):m∈ms∨m=x:=by
 unfold addM at h
 split at h
 ·rcases List.mem_append.1 h with q | q
  ·exact Or.inl q
  ·exact Or.inr (List.mem_singleton.1 q)
 ·exact Or.inl h
theorem GI.commit(h:GI K ls n S L){r:Nat}{R:Rp}{bs:List Wv.Bt}(hR:S.reps[r]?=some R)(hL:L[r]?=some bs)(hS:RS n r R bs)(h1:R.st=1)(he:R.effs ≠ [])(hK:K (pendB R)):GI K ls n ⟨S.reps.set r (zb2 R),sprA S.msgs r (Wv.frameB (pendB R)) S.reps.length⟩ (L.set r (bs++ [pendB R])):=by
 have hu:R.st ≠ 2:=by omega
 obtain⟨g1,g2,g3,_,g5⟩:=hS.up hu
 obtain⟨hr2,_⟩:=List.getElem?_eq_some_iff.1 hL
 have hc:=hS.commit h1 he
 have hgb:=g1.gb h1 he
 have hrl:=hS.rlt
 have htop:topB n r (bs++ [pendB R])=(pendB R).s:=by
  unfold topB
  rw [zcd,g3]
  show(R.clock.set (pendB R).o.toNat (pendB R).s).getD r 0=_
  rw [g1.p1,Int.toNat_natCast,zcm _ _ _ _ (by rw [hS.cl];exact hrl),if_pos rfl]
 have hle:topB n r bs<=topB n r (bs++ [pendB R]):=by
  rw [htop,hS.top hu,g1.p2]
  omega
 have hTp:Tp K n (L.set r (bs++ [pendB R])) (pendB R):=by
  refine⟨hK, ?_⟩
  rw [g1.p1,Int.toNat_natCast,List.getD_eq_getElem?_getD,List.getElem?_set_self hr2]
  show(pendB R).s<=topB n r (bs++ [pendB R])
  rw [htop]
  exact Int.le_refl _
 have hset:=h.set hR hL hle hc (fun b hb=> ?_) (fun b hb=> ?_)
 ·refine GI.msgs (S:={S with reps:=S.reps.set r (zb2 R)}) hset (fun m hm=> ?_)
  have key:∀k,k<=n->∀m∈sprA S.msgs r (Wv.frameB (pendB R)) k,MG K n (L.set r (bs++ [pendB R])) m:=by
   intro k
   induction k with
   | zero=>intro _ m hm;exact(h.msg m hm).up hL hle
   | succ k ih=>
    intro hk m hm
    rw [sprA] at hm
    split at hm
    ·exact ih (by omega) m hm
    ·rcases zg0 hm with q | q
     ·exact ih (by omega) m q
     ·rw [q]
      exact⟨by show(0:Int)<=(k:Int);omega,by show(k:Int)<n;omega,by show(0:Int)<=(r:Int);omega,by show(r:Int)<n;omega,Or.inl rfl,zba hgb.isB,fun _ _=>⟨pendB R,hgb,hTp,rfl⟩,fun _ e=>(by cases e)⟩
  rw [h.rl] at hm
  exact key n (Nat.le_refl _) m hm
 ·rcases List.mem_append.1 hb with q | q
  ·exact(h.top bs (List.mem_of_getElem? hL) b q).up hL hle
  ·rw [List.mem_singleton.1 q];exact hTp
 ·exact(h.held R (List.mem_of_getElem? hR) b (za2 _ _ _ b (Or.inr hb))).up hL hle
theorem GI.frame(h:GI K ls n S L){r:Nat}{R:Rp}{bs:List Wv.Bt}(hR:S.reps[r]?=some R)(hL:L[r]?=some bs)(hS:RS n r R bs)(hu:R.st ≠ 2){l:List UInt8}(hl:Wv.dec l=none∨∃b,Gb n b∧Tp K n L b∧l=Wv.frameB b):∃L',GI K ls n {S with reps:=S.reps.set r (zbk R l)} L':=by
 obtain⟨g1,g2,g3,_,g5⟩:=hS.up hu
 rcases hl with hn | ⟨b,hgb,htp,rfl⟩
 ·rw [zhx hn]
  exact⟨L,h.same hR hL hS (fun b hb=>hb)⟩
 ·have hbo:b.o ≠ r∨b.s<=R.clock.getD r 0:=by
   by_cases e:b.o=r
   ·right
    replace htp:=htp.2
    rw [e,Int.toNat_natCast,List.getD_eq_getElem?_getD,hL] at htp
    have htp:b.s<=topB n r bs:=htp
    rw [hS.top hu] at htp
    exact htp
   ·exact Or.inl e
  obtain⟨ds,d1,d2,d3⟩:=zrg (n:=n) (r:=r) (R:=R) (fun x=>Gb n x∧Tp K n L x) b hgb hbo ⟨hgb,htp⟩ (fun x hx=>⟨g5 x hx,g1.held x hx,h.held R (List.mem_of_getElem? hR) x hx⟩)
  obtain⟨f1,f2⟩:=g1.frame (Wv.frameB b) (fun b' hb'=>by
   rw [Wv.dec_frame b hgb.isB] at hb'
   cases hb'
   exact⟨hgb,hbo⟩) g5
  have hS':=hS.dlv hu f1 d1 (fun x hx=>(d2 x hx).1) f2
  have hle:topB n r bs<=topB n r (bs++ds):=by
   unfold topB
   rw [zcd]
   exact zmf ds _ (fun x hx=>(d2 x hx).1) (by rw [g3];exact d1.due)
  refine⟨_,h.set hR hL hle hS' (fun x hx=> ?_) (fun x hx=>(d3 x hx).2.up hL hle)⟩
  rcases List.mem_append.1 hx with q | q
  ·exact(h.top bs (List.mem_of_getElem? hL) x q).up hL hle
  ·exact(d2 x q).2.up hL hle
end
section
variable {K : Wv.Bt -> Prop} {ls : List Int} {n : Nat} {S : Sto} {L : List (List Wv.Bt)}
theorem zpo{n:Nat}(kn:List Int):∀(bs:List Wv.Bt) (m:Nat) (acc:List (List UInt8)) (f:List UInt8),(∀b∈bs,Gb n b)->f∈ansL kn m (FrB bs) acc->f∈acc∨∃b∈bs,f=Wv.frameB b
 | [],m,acc,f,_,hf=>by
  rw [zij,zlx zjc] at hf
  exact Or.inl hf
 | b::bs,m,acc,f,hb,hf=>by
  have hgb:=hb b (by simp)
  have e1:fstB (FrB (b::bs))=Wv.frameB b:=by rw [zbc,ze9 hgb.isB]
  have e2:Wv.dec (fstB (FrB (b::bs)))=some b:=by rw [e1];exact Wv.dec_frame b hgb.isB
  have e3:(FrB (b::bs)).drop (fstB (FrB (b::bs))).length=FrB bs:=by rw [e1,zbc,List.drop_left]
  cases m with
  | zero=>exact Or.inl hf
  | succ m=>
   rw [ansL,e2] at hf
   simp only [e3] at hf
   rw [e1] at hf
   have hin:∀x,x∈(if b.s>kn.getD b.o.toNat 0 then acc++ [Wv.frameB b] else acc)->x∈acc∨x=Wv.frameB b:=fun x hx=>by
    split at hx
    ·rcases List.mem_append.1 hx with q | q
     ·exact Or.inl q
     ·exact Or.inr (List.mem_singleton.1 q)
    ·exact Or.inl hx
   generalize hac:(if b.s>kn.getD b.o.toNat 0 then acc++ [Wv.frameB b] else acc)=acc' at *
   have fin:f∈acc'->f∈acc∨∃c∈b::bs,f=Wv.frameB c:=fun q=>(hin f q).imp id (fun e=>⟨b,by simp,e⟩)
   split at hf
   ·exact fin hf
   ·rcases zpo kn bs m acc' f (fun x hx=>hb x (by simp [hx])) hf with q | ⟨c,q1,q2⟩
    ·exact fin q
    ·exact Or.inr ⟨c,by simp [q1],q2⟩
theorem GI.crash(h:GI K ls n S L){r:Nat}{R:Rp}{bs:List Wv.Bt}(hR:S.reps[r]?=some R)(hL:L[r]?=some bs)(hS:RS n r R bs)(hu:R.st ≠ 2)(k:Int):∃L',GI K ls n {S with reps:=S.reps.set r (zbv R k)} L':=by
 obtain⟨g1,g2,g3,_,g5⟩:=hS.up hu
 have hll:R.log.length<=9000000:=by have h1:=g1.ok.logl;have h2:=g1.ok.sum;omega
 obtain⟨i,h1,h2⟩:=hS.cut hu (bs2:= []) (lg:=R.log) (fun b hb=>by cases hb) (by rw [List.append_nil];exact hS.due) (by rw [List.append_nil];exact g2) hll k
 rw [List.append_nil] at h1 h2
 refine⟨_,h.set hR hL h2 h1 (fun b hb=>(h.top bs (List.mem_of_getElem? hL) b (List.mem_of_mem_take hb)).up hL h2) (fun b hb=> ?_)⟩
 cases hb
theorem GI.fail(h:GI K ls n S L){r:Nat}{R:Rp}{bs:List Wv.Bt}(hR:S.reps[r]?=some R)(hL:L[r]?=some bs)(hS:RS n r R bs)(h1:R.st=1)(hK:R.effs ≠ []->K (pendB R))(k:Int):∃L',GI K ls n {S with reps:=S.reps.set r (failR R k)} L':=by
 have hu:R.st ≠ 2:=by omega
 unfold failR
 by_cases he:R.effs= []
 ·rw [if_pos he];exact h.crash hR hL hS hu k
 ·rw [if_neg he]
  obtain⟨g1,g2,g3,_,g5⟩:=hS.up hu
  obtain⟨hr2,_⟩:=List.getElem?_eq_some_iff.1 hL
  have hgb:=g1.gb h1 he
  have hfl:=zba hgb.isB
  have hll:(R.log++Wv.frameB (pendB R)).length<=9000000:=by rw [List.length_append];have h3:=g1.ok.logl;have h4:=g1.ok.sum;omega
  have hlg:R.log++Wv.frameB (pendB R)=FrB (bs++ [pendB R]):=by rw [g2,zee];simp [FrB]
  obtain⟨i,c1,c2⟩:=hS.cut hu (bs2:= [pendB R]) (fun b hb=>by rw [List.mem_singleton.1 hb];exact hgb) ((zd1 _ _ _).2 ⟨hS.due,by rw [g3];exact⟨zjv (R:=R),trivial⟩⟩) hlg hll k
  refine⟨_,h.set hR hL c2 c1 (fun b hb=> ?_) (fun b hb=>by cases hb)⟩
  by_cases hi:i<=bs.length
  ·rw [List.take_append_of_le_length hi] at hb
   exact(h.top bs (List.mem_of_getElem? hL) b (List.mem_of_mem_take hb)).up hL c2
  ·have e:(bs++ [pendB R]).take i=bs++ [pendB R]:=List.take_of_length_le (by simp;omega)
   rcases List.mem_append.1 (List.mem_of_mem_take hb) with q | q
   ·exact(h.top bs (List.mem_of_getElem? hL) b q).up hL c2
   ·rw [List.mem_singleton.1 q]
    refine⟨hK he, ?_⟩
    rw [g1.p1,Int.toNat_natCast,List.getD_eq_getElem?_getD,List.getElem?_set_self hr2,e]
    show(pendB R).s<=topB n r (bs++ [pendB R])
    unfold topB
    rw [zcd,g3]
    show _<=(R.clock.set (pendB R).o.toNat (pendB R).s).getD r 0
    rw [g1.p1,Int.toNat_natCast,zcm _ _ _ _ (by rw [hS.cl];exact hS.rlt),if_pos rfl]
    exact Int.le_refl _
theorem GI.restart(h:GI K ls n S L){r:Nat}{R:Rp}{bs:List Wv.Bt}(hR:S.reps[r]?=some R)(hL:L[r]?=some bs)(hS:RS n r R bs)(hd:R.st=2):GI K ls n {S with reps:=S.reps.set r (zcf R)} L:=by
 have hS':=hS.restart hd
 refine h.same hR hL hS' (fun b hb=> ?_)
 have e:(zcf R).held= []:=by
  obtain⟨⟨tl,t1,t2⟩,_⟩:=hS.down hd
  have hn:R.n.toNat=r:=by rw [hS.num,Int.toNat_natCast]
  obtain⟨_,_,_,_,g5,_⟩:=zg4 (r:=r) bs tl (newR r n) R.log.length hS.gb t2 hS.due (RU.new r n hS.rlt hS.n2 hS.n4) rfl rfl (by rw [t1];exact Nat.le_refl _)
  rw [←t1] at g5
  show(zax R.log.length (newR R.n.toNat R.clock.length) R.log).held= []
  rw [hn,hS.cl]
  exact g5
 rw [e] at hb
 cases hb
theorem zyo(cl:List Int):(digB cl).length=cl.length+4:=by unfold digB;rw [List.length_append,zo6];rfl
theorem GI.ask(h:GI K ls n S L){r t:Nat}{cl:List Int}(hr:r<n)(ht:t<n)(hcl:cl.length=n):GI K ls n {S with msgs:=addM S.msgs ⟨2,r,t,digB cl,false⟩} L:=by
 have h4:=h.n4
 refine h.msgs (fun m hm=> ?_)
 rcases zg0 hm with q | q
 ·exact h.msg m q
 ·rw [q]
  refine⟨by show(0:Int)<=(t:Int);omega,by show(t:Int)<n;omega,by show(0:Int)<=(r:Int);omega,by show(r:Int)<n;omega,Or.inr rfl, ?_,fun e=>(by cases e),fun e=>(by cases e)⟩
  show(digB cl).length<=70000
  rw [zyo]
  omega
theorem GI.spoil(h:GI K ls n S L){i j k:Nat}{m:Ms}(hi:S.msgs[i]?=some m)(hsp:m.sp=false)(hk0:1<=k)(hk1:k<=255)(hj:j<m.bs.length):GI K ls n {S with msgs:=S.msgs.set i (zc2 m j k)} L:=by
 have hm:=h.msg m (List.mem_of_getElem? hi)
 refine h.msgs (fun x hx=> ?_)
 rcases List.mem_or_eq_of_mem_set hx with q | q
 ·exact h.msg x q
 ·rw [q]
  refine⟨hm.t0,hm.t1,hm.f0,hm.f1,hm.kind, ?_,fun _ e=>(by cases e),fun e _=> ?_⟩
  ·show(Wv.chg m.bs j (fun _=>UInt8.ofNat k) 1).length<=70000
   rw [Wv.chg_len]
   exact hm.len
  ·obtain⟨b,hb,_,hbs⟩:=hm.fr e hsp
   show Wv.dec (Wv.chg m.bs j (fun _=>UInt8.ofNat k) 1)=none
   rw [hbs] at hj ⊢
   rw [Wv.dec_chg b hb.isB j (fun _=>UInt8.ofNat k) 1 (by omega) (by unfold Wv.stopAt;split<;>omega)]
   have:Wv.chd (fun _=>UInt8.ofNat k) 1=true:=by
    show(false || UInt8.ofNat k !=0)=true
    rw [Bool.false_or,bne_iff_ne]
    intro e
    have:=congrArg UInt8.toNat e
    rw [UInt8.toNat_ofNat_of_lt' (by show k<256;omega)] at this
    simp at this
    omega
   rw [this]
   rfl
theorem MG.ok{m:Ms}(h:MG K n L m):MsOk n m:=by
 refine⟨h.t0,h.t1,h.kind,h.len,fun hk b hb=> ?_⟩
 cases hs:m.sp with
 | true=>rw [h.sp hk hs] at hb;cases hb
 | false=>
  obtain⟨c,hc,_,e⟩:=h.fr hk hs
  rw [e,Wv.dec_frame c hc.isB] at hb
  cases hb
  exact hc.cl
theorem GI.deliver(h:GI K ls n S L){i:Nat}{m:Ms}(hi:S.msgs[i]?=some m){R:Rp}(hR:S.reps[m.t.toNat]?=some R):∃L',GI K ls n (zf5 S i m R) L':=by
 have hm:=h.msg m (List.mem_of_getElem? hi)
 have h1:GI K ls n {S with msgs:=S.msgs.eraseIdx i} L:=h.msgs (fun x hx=>h.msg x (List.mem_of_mem_eraseIdx hx))
 obtain⟨bs,hL,hS⟩:=h.rep _ R hR
 unfold zf5
 by_cases hst:R.st=2
 ·rw [if_pos hst];exact⟨L,h1⟩
 ·rw [if_neg hst]
  rcases hm.kind with hk | hk
  ·rw [if_pos hk]
   refine GI.frame (S:={S with msgs:=S.msgs.eraseIdx i}) h1 hR hL hS hst ?_
   cases hs:m.sp with
   | true=>exact Or.inl (hm.sp hk hs)
   | false=>exact Or.inr (hm.fr hk hs)
  ·rw [if_neg (by omega)]
   refine⟨L,GI.msgs (S:={S with msgs:=S.msgs.eraseIdx i}) h1 ?_⟩
   obtain⟨g1,g2,g3,_,g5⟩:=hS.up hst
   have hmem:∀f∈answR R m.bs,∃b∈bs,f=Wv.frameB b:=fun f hf=>by
    unfold answR at hf
    split at hf
    ·rw [g2] at hf
     rcases zpo (n:=n) _ bs _ [] f hS.gb hf with q | q
     ·cases q
     ·exact q
    ·cases hf
   have key:∀q,q<=(answR R m.bs).length->∀x∈sndA (S.msgs.eraseIdx i) m.t m.f (answR R m.bs) q,MG K n L x:=by
    intro q
    induction q with
    | zero=>intro _ x hx;exact h1.msg x hx
    | succ q ih=>
     intro hq x hx
     rw [sndA] at hx
     rcases zg0 hx with y | y
     ·exact ih (by omega) x y
     ·have hg:(answR R m.bs).getD q []∈answR R m.bs:=by
       rw [List.getD_eq_getElem?_getD,List.getElem?_eq_getElem (by omega)]
       exact List.getElem_mem _
      obtain⟨b,hb,e⟩:=hmem _ hg
      rw [y,e]
      exact⟨hm.f0,hm.f1,hm.t0,hm.t1,Or.inl rfl,zba (hS.gb b hb).isB,fun _ _=>⟨b,hS.gb b hb,h.top bs (List.mem_of_getElem? hL) b hb,rfl⟩,fun _ e=>(by cases e)⟩
   exact key _ (Nat.le_refl _)
end
theorem GI.new(K:Wv.Bt->Prop)(n:Nat)(h2:2<=n)(h4:n<=4):GI K [] n ⟨(List.range n).map (fun r=>newR r n), []⟩ (List.replicate n []):=by
 refine⟨by simp,by simp,h2,h4,fun r R hR=> ?_,fun bs hb b hb'=> ?_,fun R hR b hb=> ?_,fun m hm=>(by cases hm),fun r=> ?_⟩
 ·have hR:((List.range n).map (fun r=>newR r n))[r]?=some R:=hR
  rw [List.getElem?_map] at hR
  have hrn:r<n:=by
   rcases Nat.lt_or_ge r n with q | q
   ·exact q
   ·rw [List.getElem?_eq_none (by simpa using q)] at hR;cases hR
  rw [List.getElem?_eq_getElem (by simpa using hrn)] at hR
  have e:newR r n=R:=by simpa using hR
  subst e
  have hru:=RU.new r n hrn h2 h4
  exact⟨[],by simp [hrn],⟨fun b hb=>(by cases hb),trivial,h2,h4,hrn,rfl,hru.cl,fun _=>⟨hru,rfl,rfl,⟨0,Nat.le_refl _,rfl,fun b hb=>(by cases hb)⟩,fun b hb=>(by cases hb)⟩,fun e=>(by cases e),fun _=>rfl⟩⟩
 ·rw [(List.mem_replicate.1 hb).2] at hb'
  cases hb'
 ·obtain⟨r,_,rfl⟩:=List.mem_map.1 hR
  cases hb
 ·have e:(List.replicate n ([]:List Wv.Bt)).getD r []= []:=by
   rw [List.getD_eq_getElem?_getD,List.getElem?_replicate]
   split<;>rfl
  rw [e]
  show(0:Int)<=(zer n).getD r 0
  unfold zer
  rw [List.getD_eq_getElem?_getD,List.getElem?_replicate]
  split
  ·exact Int.le_refl _
  ·exact Int.le_refl _
def rpS(S:Sto)(r:Int):Option Rp:=if 0<=r then S.reps[r.toNat]? else none
def onS(S:Sto)(r:Int)(f:Rp->Rp×Int):Sto×Int:=match rpS S r with
 | none=>(S,3)
 | some R=>if R.st=2 then(S,4) else({S with reps:=S.reps.set r.toNat (f R).1},(f R).2)
def Doing(w0:World)(eb ef:Addr)(fn:Nat)(args:List Int)(S S':Sto)(z:Int):Prop:=∀(own:Clr) (s rg cc pp ch:Nat) (pv:Value) (prs:List Nat) (w:World),Env w0 w own eb ef->StIn w own s rg cc pp ch pv prs S->Calls Tryz.prog fn (#[.pointer (some ⟨s,0,none⟩)]++(args.map I).toArray) w fun e w'=>e= .returned (I z)∧StOk w0 w own s S' eb ef w'
theorem zdg{S:Sto}{r:Nat}{R:Rp}(h:S.reps[r]?=some R):({S with reps:=S.reps.set r R}:Sto)=S:=by
 obtain⟨h1,h2⟩:=List.getElem?_eq_some_iff.1 h
 rw [←h2,List.set_getElem_self]
theorem zce{S:Sto}{r:Int}{R:Rp}(h:rpS S r=some R):∃k:Nat,r=k∧S.reps[k]?=some R:=by
 unfold rpS at h
 split at h
 ·rename_i h0
  exact⟨r.toNat,by omega,h⟩
 ·cases h
theorem zeq{S:Sto}{r:Int}(h:rpS S r=none):¬(0<=r∧r<S.reps.length):=by
 unfold rpS at h
 split at h
 ·rename_i h0
  rintro⟨_,h1⟩
  rw [List.getElem?_eq_getElem (by omega)] at h
  cases h
 ·rename_i h0
  exact fun q=>h0 q.1
theorem zd2{w0:World}{eb ef:Addr}{fn:Nat}{args:List Int}{S:Sto}{r:Int}{f:Rp->Rp×Int}
  (hbad:∀(w:World) (sv:Value) (z:Int),UpBad w sv r z->Calls Tryz.prog fn (#[sv]++(args.map I).toArray) w fun e w'=>e= .returned (I z)∧w'=w)
  (hup:∀(k:Nat) (R:Rp),r=k->S.reps[k]?=some R->R.st ≠ 2->Doing w0 eb ef fn args S {S with reps:=S.reps.set k (f R).1} (f R).2):Doing w0 eb ef fn args S (onS S r f).1 (onS S r f).2:=by
 intro own s rg cc pp ch pv prs w hen h
 unfold onS
 cases hr:rpS S r with
 | none=>
  refine(hbad w (.pointer (some ⟨s,0,none⟩)) 3 (zdt own s rg cc pp ch pv prs S r w h (zeq hr)).up).mono ?_
  rintro e w' ⟨rfl,rfl⟩
  exact⟨rfl,StOk.below h hen (Below.refl _ _)⟩
 | some R=>
  obtain⟨k,rfl,hk⟩:=zce hr
  by_cases hst:R.st=2
  ·simp only [if_pos hst]
   refine(hbad w (.pointer (some ⟨s,0,none⟩)) 4 (zc1 own s rg cc pp ch pv prs S k R hk hst w h)).mono ?_
   rintro e w' ⟨rfl,rfl⟩
   exact⟨rfl,StOk.below h hen (Below.refl _ _)⟩
  ·simp only [if_neg hst,Int.toNat_natCast]
   exact hup k R rfl hk hst own s rg cc pp ch pv prs w hen h
def doRR(R:Rp)(op ob a b:Int):Rp×Int:=
 if R.st ≠ 1 then(R,7)
 else if¬(0<=ob∧ob<8) then(R,8)
 else if¬(1<=op∧op<=6∧ob % 4=Wv.rKind op) then(R,9)
 else match R.obs[ob.toNat]? with
  | none=>(R,8)
  | some o=>
   if ((seeTo (pendB R) ob.toNat o R.effs.length).answer op a b).err ≠ 0 then(R,((seeTo (pendB R) ob.toNat o R.effs.length).answer op a b).err)
   else if (((seeTo (pendB R) ob.toNat o R.effs.length).answer op a b).ds.length:Int)<Wv.rLeastD op then(R,0)
   else if (((seeTo (pendB R) ob.toNat o R.effs.length).answer op a b).ds.length:Int)>Wv.rMostD op∨R.effs.length=5 then(R,12)
   else(putR R op ob.toNat a b o,0)
theorem zyj{w0:World}{eb ef:Addr}{K:Wv.Bt->Prop}{ls:List Int}{n:Nat}{S:Sto}{L:List (List Wv.Bt)}(hG:GI K ls n S L)(r op ob a b:Int):Doing w0 eb ef 17 [r,op,ob,a,b] S (onS S r (fun R=>doRR R op ob a b)).1 (onS S r (fun R=>doRR R op ob a b)).2:=by
 refine zd2 (fun w sv z h=>zy8 op ob a b h) ?_
 rintro k R rfl hk hst own s rg cc pp ch pv prs w hen hS
 obtain⟨bs,hL,hRS⟩:=hG.rep k R hk
 have hRU:=(hRS.up hst).1
 have hup:=hRU.up
 obtain⟨hr,cg,cc',hp,mv,hv,ev,hs,es,hrp⟩:=hS.prl hk
 have hesl:es.length=R.effs.length:=by rw [hrp.effsE,List.length_map]
 have hsame:∀w1,Below w.heap.size w w1->StOk w0 w own s {S with reps:=S.reps.set k R} eb ef w1:=fun w1 hb=>by rw [zdg hk];exact StOk.below hS hen hb
 show Calls Tryz.prog 17 #[.pointer (some ⟨s,0,none⟩),I k,I op,I ob,I a,I b] w _
 unfold doRR
 by_cases h1:R.st=1
 ·simp only [h1,ne_eq,not_true,if_false]
  by_cases hob:0<=ob∧ob<8
  ·simp only [hob,and_self,not_true,if_false]
   obtain⟨q,rfl⟩:=Int.eq_ofNat_of_zero_le hob.1
   have hq8:q<8:=by omega
   obtain⟨v,hv1,hv2,hv3⟩:=hRU.obs q hq8
   simp only [Int.toNat_natCast] at *
   by_cases hkd:1<=op∧op<=6∧(q:Int) % 4=Wv.rKind op
   ·simp only [hkd,and_self,not_true,if_false,hv1]
    obtain⟨o1,o6,hk4⟩:=hkd
    by_cases her:((seeTo (pendB R) q v R.effs.length).answer op a b).err=0
    ·simp only [her,not_true,if_false]
     by_cases hls:(((seeTo (pendB R) q v R.effs.length).answer op a b).ds.length:Int)<Wv.rLeastD op
     ·simp only [hls,if_true]
      refine(ztg own s rg cc pp ch pv prs S k R op a b q v w w0 eb ef hen hS hk hup h1 ⟨o1,o6⟩ hls hk4 her hv1).mono ?_
      rintro y w1 ⟨rfl,hso⟩
      rw [zdg hk]
      exact⟨rfl,hso⟩
     ·simp only [hls,if_false]
      by_cases hbg:(((seeTo (pendB R) q v R.effs.length).answer op a b).ds.length:Int)>Wv.rMostD op∨R.effs.length=5
      ·simp only [if_pos hbg]
       refine(zf9 hS hr hk hst op q a b 12 (fun w1=>Below w.heap.size w w1) (do_big2 own (1+11*k) prs[k] R cg cc' hp mv hv ev hs es op a b q v w w0 eb ef hen hrp h1 ⟨o1,o6⟩ _ rfl hls (hbg.imp id (fun e=>hesl.trans e)) hk4 her hv1 hup.ok.obs8 hup.hl hup.n0 hup.n1 hup.hs0 hup.ok.time0 hup.ht1 (5*sumN R.clock) hup.hN (hup.ok.bd v (List.mem_of_getElem? hv1)) hup.hv)).mono ?_
       rintro y w1 ⟨rfl,hb⟩
       exact⟨rfl,hsame w1 hb⟩
      ·simp only [if_neg hbg]
       have hel:=hRU.el
       exact zy7 own s rg cc pp ch pv prs S k R op a b q v w w0 eb ef hen hS hk hup h1 ⟨o1,o6⟩ (by have:¬R.effs.length=5:=fun e=>hbg (Or.inr e);omega) hls (fun g=>hbg (Or.inl g)) hk4 her hv1
    ·simp only [her,not_false_iff,if_true]
     refine(zf9 hS hr hk hst op q a b _ (fun w1=>Below w.heap.size w w1) (do_err2 own (1+11*k) prs[k] R cg cc' hp mv hv ev hs es op a b q v w w0 eb ef hen hrp h1 ⟨o1,o6⟩ _ rfl hk4 her hv1 hup.ok.obs8 hup.hl hup.n0 hup.n1 hup.hs0 hup.ok.time0 hup.ht1 (5*sumN R.clock) hup.hN (hup.ok.bd v (List.mem_of_getElem? hv1)) hup.hv)).mono ?_
     rintro y w1 ⟨rfl,hb⟩
     exact⟨rfl,hsame w1 hb⟩
   ·simp only [hkd,not_false_iff,if_true]
    have hno:Calls Tryz.prog 40 #[.pointer (some ⟨prs[k],0,none⟩),I op,I q,I a,I b] w fun e w'=>e= .returned (I 9)∧Below w.heap.size w w':=by
     by_cases hop6:1<=op∧op<=6
     ·exact zrx own (1+11*k) prs[k] R cg cc' hp mv hv ev hs es op a b q v w w0 eb ef hen hrp h1 hop6 (fun g=>hkd ⟨hop6.1,hop6.2,g⟩) hv1 hup.ok.obs8 hup.hl hup.n0 hup.n1 hup.hs0 hup.ok.time0 hup.ht1 (5*sumN R.clock) hup.hN (hup.ok.bd v (List.mem_of_getElem? hv1)) hup.hv
     ·exact zym own (1+11*k) prs[k] R cg cc' hp mv hv ev hs es op a b q v w w0 eb ef hen hrp h1 hop6 hv1 hup.ok.obs8 hup.hl hup.n0 hup.n1 hup.hs0 hup.ok.time0 hup.ht1 (5*sumN R.clock) hup.hN (hup.ok.bd v (List.mem_of_getElem? hv1)) hup.hv
    refine(zf9 hS hr hk hst op q a b 9 (fun w1=>Below w.heap.size w w1) hno).mono ?_
    rintro y w1 ⟨rfl,hb⟩
    exact⟨rfl,hsame w1 hb⟩
  ·simp only [hob,not_false_iff,if_true]
   refine(zf9 hS hr hk hst op ob a b 8 (fun w1=>Below w.heap.size w w1) (do_none own (1+11*k) prs[k] R cg cc' hp mv hv ev hs es op ob a b w hrp h1 hup.ok.obs8 hob)).mono ?_
   rintro y w1 ⟨rfl,hb⟩
   exact⟨rfl,hsame w1 hb⟩
 ·simp only [h1,ne_eq,not_false_iff,if_true]
  refine(zf9 hS hr hk hst op ob a b 7 (fun w1=>w1=w) (do_idle own (1+11*k) prs[k] R cg cc' hp mv hv ev hs es op ob a b w hrp h1)).mono ?_
  rintro y w1 ⟨rfl,rfl⟩
  exact⟨rfl,hsame w1 (Below.refl _ _)⟩
section
variable {w0 : World} {eb ef : Addr} {K : Wv.Bt -> Prop} {ls : List Int} {n : Nat} {S : Sto} {L : List (List Wv.Bt)}
theorem zo3(hG:GI K ls n S L)(r:Int):Doing w0 eb ef 16 [r] S (onS S r za4).1 (onS S r za4).2:=by
 refine zd2 (fun w sv z h=>zpx h) ?_
 rintro k R rfl hk hst own s rg cc pp ch pv prs w hen hS
 obtain⟨bs,hL,hRS⟩:=hG.rep k R hk
 exact zpy own s rg cc pp ch pv prs S k R w w0 eb ef hen hS hk (hRS.up hst).1.up
theorem zo4(hG:GI K ls n S L)(r:Int):Doing w0 eb ef 27 [r] S (onS S r zbw).1 (onS S r zbw).2:=by
 refine zd2 (fun w sv z h=>zpz h) ?_
 rintro k R rfl hk hst own s rg cc pp ch pv prs w hen hS
 obtain⟨bs,hL,hRS⟩:=hG.rep k R hk
 exact zp0 own s rg cc pp ch pv prs S k R w w0 eb ef hen hS hk (hRS.up hst).1.up
theorem zru(r:Int):Doing w0 eb ef 31 [r] S (onS S r (fun R=>(syncR R,0))).1 (onS S r (fun R=>(syncR R,0))).2:=by
 refine zd2 (fun w sv z h=>zta h) ?_
 rintro k R rfl hk hst own s rg cc pp ch pv prs w hen hS
 obtain⟨hr,hrp⟩:=hS.prl hk
 have hrp':RpAt w own (1+11*k) prs[k] R:=hrp
 obtain⟨cg,cc',hp,mv,hv,ev,hs,es,hrp⟩:=hrp
 exact zs9 hS hr hk hst _ ((ztz own (1+11*k) prs[k] R cg cc' hp mv hv ev hs es w (by omega) hrp).mono (fun e w' hh=>⟨hh.1,StOk.rep hS hen k hr (ROk.self hrp.own1 hh.2)⟩))
theorem zo2(hG:GI K ls n S L)(r k:Int):Doing w0 eb ef 20 [r,k] S (onS S r (fun R=>(zbv R k,0))).1 (onS S r (fun R=>(zbv R k,0))).2:=by
 refine zd2 (fun w sv z h=>zpv k h) ?_
 rintro q R rfl hk hst own s rg cc pp ch pv prs w hen hS
 obtain⟨bs,hL,hRS⟩:=hG.rep q R hk
 obtain⟨g1,g2,g3,⟨j,j1,j2,j3⟩,g5⟩:=hRS.up hst
 obtain⟨hr,hrp⟩:=hS.prl hk
 have hll:R.log.length<=9000000:=by have h1:=g1.ok.logl;have h2:=g1.ok.sum;omega
 have hy1:R.synced<=R.log.length:=by
  rw [j2,g2]
  have:FrB bs=FrB (bs.take j)++FrB (bs.drop j):=by rw [←zee,List.take_append_drop]
  rw [this,List.length_append]
  omega
 exact zpu hS hr hk hst k _ ((zfw own (1+11*q) prs[q] R k w (by omega) hrp (by rw [j2];omega) hy1 (by omega)).mono (fun e w' hh=>⟨hh.1,StOk.rep hS hen q hr hh.2⟩))
def zdm(R:Rp)(k:Int):Rp×Int:=if R.st=1 then(failR R k,0) else(R,7)
theorem zrv(hI:zaj)(hG:GI K ls n S L)(r k:Int):Doing w0 eb ef 19 [r,k] S (onS S r (fun R=>zdm R k)).1 (onS S r (fun R=>zdm R k)).2:=by
 refine zd2 (fun w sv z h=>zte k h) ?_
 rintro q R rfl hk hst own s rg cc pp ch pv prs w hen hS
 obtain⟨bs,hL,hRS⟩:=hG.rep q R hk
 obtain⟨g1,g2,g3,⟨j,j1,j2,j3⟩,g5⟩:=hRS.up hst
 have hup:=g1.up
 obtain⟨hr,hrp⟩:=hS.prl hk
 have hll:R.log.length<=9000000:=by have h1:=g1.ok.logl;have h2:=g1.ok.sum;omega
 have hy1:R.synced<=R.log.length:=by
  rw [j2,g2]
  have:FrB bs=FrB (bs.take j)++FrB (bs.drop j):=by rw [←zee,List.take_append_drop]
  rw [this,List.length_append]
  omega
 unfold zdm
 by_cases h1:R.st=1
 ·simp only [if_pos h1]
  refine zkw hS hr hk hst k 0 _ ?_
  by_cases he:R.effs= []
  ·exact(zqb own (1+11*q) prs[q] R k w (by omega) hrp h1 he hup.hl hup.n0 hup.n1 hup.hs0 hup.ok.time0 hup.ht1 (by rw [j2];omega) hy1 (by omega)).mono (fun e w' hh=>⟨hh.1,StOk.rep hS hen q hr hh.2⟩)
  ·have hfl:=zba (g1.gb h1 he).isB
   exact(zqa own (1+11*q) prs[q] R k w w0 eb ef hI hen (by omega) hrp h1 he hup.hl hup.n0 hup.n1 hup.hs0 hup.ok.time0 hup.ht1 (g1.head h1 he) (by rw [j2];omega) hy1 (by omega)).mono (fun e w' hh=>⟨hh.1,StOk.rep hS hen q hr hh.2⟩)
 ·simp only [if_neg h1]
  refine(zkw hS hr hk hst k 7 (fun w1=>w1=w) (zqc own (1+11*q) prs[q] R k w hrp h1)).mono ?_
  rintro y w1 ⟨rfl,rfl⟩
  rw [zdg hk]
  exact⟨rfl,StOk.below hS hen (Below.refl _ _)⟩
def rstS(S:Sto)(r:Int):Sto×Int:=match rpS S r with
 | none=>(S,3)
 | some R=>if R.st=2 then({S with reps:=S.reps.set r.toNat (zcf R)},0) else(S,5)
theorem zko(hI:zaj)(hg:Gd w0)(hG:GI K ls n S L)(r:Int):Doing w0 eb ef 32 [r] S (rstS S r).1 (rstS S r).2:=by
 intro own s rg cc pp ch pv prs w hen hS
 unfold rstS
 cases hr:rpS S r with
 | none=>
  refine(zl0 (zdt own s rg cc pp ch pv prs S r w hS (zeq hr))).mono ?_
  rintro e w' ⟨rfl,rfl⟩
  exact⟨rfl,StOk.below hS hen (Below.refl _ _)⟩
 | some R=>
  obtain⟨k,rfl,hk⟩:=zce hr
  obtain⟨bs,hL,hRS⟩:=hG.rep k R hk
  obtain⟨hr',hrp⟩:=hS.prl hk
  have hk4:k<4:=by have:=hRS.rlt;have:=hRS.n4;omega
  by_cases hst:R.st=2
  ·simp only [if_pos hst,Int.toNat_natCast]
   obtain⟨_,t3,_,_⟩:=hRS.down hst
   exact zf7 hS hr' 0 _ ((zkk own (1+11*k) prs[k] R w w0 eb ef hI hg hen (by omega) (by omega) hrp hst (by rw [hRS.num];omega) (by rw [hRS.cl];exact hRS.n4) (by omega)).mono (fun e w' hh=>⟨hh.1,StOk.rep hS hen k hr' hh.2⟩))
  ·simp only [if_neg hst]
   refine(zf7 hS hr' 5 _ ((znn own (1+11*k) prs[k] R w hrp hst).mono (fun e w' hh=>⟨hh.1,StOk.rep hS hen k hr' hh.2⟩))).mono ?_
   rintro y w1 ⟨rfl,h1⟩
   rw [zdg hk] at h1
   exact⟨rfl,h1⟩
end
section
variable {w0 : World} {eb ef : Addr} {K : Wv.Bt -> Prop} {ls : List Int} {n : Nat} {S : Sto} {L : List (List Wv.Bt)}
def askS(S:Sto)(r t:Int):Sto×Int:=match rpS S r with
 | none=>(S,3)
 | some R=>if R.st=2 then(S,4) else if¬(0<=t∧t<S.reps.length)∨t=r then(S,3) else({S with msgs:=addM S.msgs ⟨2,r,t,digB R.clock,false⟩},0)
theorem zve(hG:GI K ls n S L)(r t:Int):Doing w0 eb ef 30 [r,t] S (askS S r t).1 (askS S r t).2:=by
 intro own s rg cc pp ch pv prs w hen hS
 unfold askS
 cases hr:rpS S r with
 | none=>
  refine(zm9 t (zdt own s rg cc pp ch pv prs S r w hS (zeq hr)).up).mono ?_
  rintro e w' ⟨rfl,rfl⟩
  exact⟨rfl,StOk.below hS hen (Below.refl _ _)⟩
 | some R=>
  obtain⟨k,rfl,hk⟩:=zce hr
  obtain⟨bs,hL,hRS⟩:=hG.rep k R hk
  by_cases hst:R.st=2
  ·simp only [if_pos hst]
   refine(zm9 t (zc1 own s rg cc pp ch pv prs S k R hk hst w hS)).mono ?_
   rintro e w' ⟨rfl,rfl⟩
   exact⟨rfl,StOk.below hS hen (Below.refl _ _)⟩
  ·simp only [if_neg hst]
   by_cases ht:¬(0<=t∧t<S.reps.length)∨t=k
   ·simp only [if_pos ht]
    refine(zy9 hS hk hst t ht).mono ?_
    rintro e w' ⟨rfl,rfl⟩
    exact⟨rfl,StOk.below hS hen (Below.refl _ _)⟩
   ·simp only [if_neg ht]
    have h1:0<=t∧t<S.reps.length:=Classical.byContradiction (fun q=>ht (Or.inl q))
    obtain⟨q,rfl⟩:=Int.eq_ofNat_of_zero_le h1.1
    exact zv8 hen hS hk hst (by rw [hRS.cl];exact hRS.n4) q (by omega) (fun e=>ht (Or.inr (by rw [e])))
def msS(S:Sto)(i:Int)(f:Ms->Sto×Int):Sto×Int:=if 0<=i then(match S.msgs[i.toNat]? with | none=>(S,14) | some m=>f m) else(S,14)
theorem zfy{S:Sto}{i:Int}{f:Ms->Sto×Int}(h:¬(0<=i∧i<S.msgs.length)):msS S i f=(S,14):=by
 unfold msS
 split
 ·rw [List.getElem?_eq_none (by omega)]
 ·rfl
theorem zd9{S:Sto}{i:Nat}{m:Ms}{f:Ms->Sto×Int}(h:S.msgs[i]?=some m):msS S i f=f m:=by
 unfold msS
 rw [if_pos (by omega),Int.toNat_natCast,h]
theorem zda(S:Sto)(i:Int):¬(0<=i∧i<S.msgs.length)∨∃(k:Nat) (m:Ms),i=k∧S.msgs[k]?=some m:=by
 by_cases h:0<=i∧i<S.msgs.length
 ·exact Or.inr ⟨i.toNat,S.msgs[i.toNat]'(by omega),by omega,List.getElem?_eq_getElem (by omega)⟩
 ·exact Or.inl h
def dropS(S:Sto)(i:Int):Sto×Int:=msS S i (fun _=>({S with msgs:=S.msgs.eraseIdx i.toNat},0))
def ziq(S:Sto)(i:Int):Sto×Int:=msS S i (fun m=>({S with msgs:=addM S.msgs m},0))
def ziv(S:Sto)(i j k:Int):Sto×Int:=msS S i (fun m=>if m.sp=true∨(k<1∨k>255)∨(j<0∨j≥m.bs.length) then(S,zfs m k) else({S with msgs:=S.msgs.set i.toNat (zc2 m j.toNat k.toNat)},0))
def delS(S:Sto)(i:Int):Sto×Int:=msS S i (fun m=>match S.reps[m.t.toNat]? with | none=>(S,0) | some R=>(zf5 S i.toNat m R,0))
theorem zrw(i:Int):Doing w0 eb ef 33 [i] S (dropS S i).1 (dropS S i).2:=by
 intro own s rg cc pp ch pv prs w hen hS
 unfold dropS
 rcases zda S i with h | ⟨k,m,rfl,h⟩
 ·rw [zfy h]
  exact zv7 own s rg cc pp ch pv prs S i w w0 eb ef hen hS h
 ·rw [zd9 h,Int.toNat_natCast]
  exact ztf own s rg cc pp ch pv prs S k m w w0 eb ef hen hS h
theorem zo0(i:Int):Doing w0 eb ef 45 [i] S (ziq S i).1 (ziq S i).2:=by
 intro own s rg cc pp ch pv prs w hen hS
 unfold ziq
 rcases zda S i with h | ⟨k,m,rfl,h⟩
 ·rw [zfy h]
  refine(zs8 own s rg cc pp ch pv prs S i w hS h).mono ?_
  rintro e w' ⟨rfl,rfl⟩
  exact⟨rfl,StOk.below hS hen (Below.refl _ _)⟩
 ·rw [zd9 h]
  exact zpp own s rg cc pp ch pv prs S k m w w0 eb ef hen hS h
theorem zo1(hG:GI K ls n S L)(i j k:Int):Doing w0 eb ef 46 [i,j,k] S (ziv S i j k).1 (ziv S i j k).2:=by
 intro own s rg cc pp ch pv prs w hen hS
 unfold ziv
 rcases zda S i with h | ⟨q,m,rfl,h⟩
 ·rw [zfy h]
  refine(ztb own s rg cc pp ch pv prs S i j k w hS h).mono ?_
  rintro e w' ⟨rfl,rfl⟩
  exact⟨rfl,StOk.below hS hen (Below.refl _ _)⟩
 ·rw [zd9 h,Int.toNat_natCast]
  have hm:=hG.msg m (List.mem_of_getElem? h)
  by_cases hb:m.sp=true∨(k<1∨k>255)∨(j<0∨j≥m.bs.length)
  ·rw [if_pos hb]
   refine(zpr own s rg cc pp ch pv prs S q j k m w hS h hb).mono ?_
   rintro e w' ⟨rfl,rfl⟩
   exact⟨rfl,StOk.below hS hen (Below.refl _ _)⟩
  ·rw [if_neg hb]
   have h1:m.sp=false:=by cases hq:m.sp with | false=>rfl | true=>exact absurd (Or.inl hq) hb
   have h2:1<=k∧k<=255:=⟨by refine Int.not_lt.1 (fun g=>hb (Or.inr (Or.inl (Or.inl g)))),by refine Int.not_lt.1 (fun g=>hb (Or.inr (Or.inl (Or.inr g))))⟩
   have h3:0<=j∧j<m.bs.length:=⟨by refine Int.not_lt.1 (fun g=>hb (Or.inr (Or.inr (Or.inl g)))),by refine Int.not_le.1 (fun g=>hb (Or.inr (Or.inr (Or.inr g))))⟩
   obtain⟨j',rfl⟩:=Int.eq_ofNat_of_zero_le h3.1
   obtain⟨k',rfl⟩:=Int.eq_ofNat_of_zero_le (show 0<=k by omega)
   exact zpq own s rg cc pp ch pv prs S q j' k' m w w0 eb ef hen hS h h1 (by omega) (by omega) (by omega) (by have:=hm.len;omega)
theorem zkp(hI:zaj)(hg:Gd w0)(hgg:Gg w0)(hG:GI K ls n S L)(i:Int):Doing w0 eb ef 28 [i] S (delS S i).1 (delS S i).2:=by
 intro own s rg cc pp ch pv prs w hen hS
 unfold delS
 rcases zda S i with h | ⟨k,m,rfl,h⟩
 ·rw [zfy h]
  exact zm7 own s rg cc pp ch pv prs S i w w0 eb ef hen hS h
 ·have hm:=hG.msg m (List.mem_of_getElem? h)
  have ht:m.t.toNat<S.reps.length:=by have:=hm.t0;have:=hm.t1;have:=hG.rl;omega
  obtain⟨R,hR⟩:∃R,S.reps[m.t.toNat]?=some R:=⟨_,List.getElem?_eq_getElem ht⟩
  obtain⟨bs,hL,hRS⟩:=hG.rep _ R hR
  rw [zd9 h,Int.toNat_natCast,hR]
  exact zl4 own s rg cc pp ch pv prs S n k m R w w0 eb ef hI hg hgg hen hS h hm.ok hR (fun hu=>hRS.rlg hu)
def comS(S:Sto)(r:Int):Sto×Int×Int:=match rpS S r with
 | none=>(S,0,3)
 | some R=>if R.st=2 then(S,0,4) else if R.st ≠ 1 then(S,0,7) else if R.effs= [] then({S with reps:=S.reps.set r.toNat (endR R)},0,0) else(⟨S.reps.set r.toNat (zb2 R),sprA S.msgs r.toNat (Wv.frameB (pendB R)) S.reps.length⟩,(pendB R).s,0)
theorem zmw(hI:zaj)(hG:GI K ls n S L)(r:Int)(own:Clr)(s rg cc pp ch:Nat)(pv:Value)(prs:List Nat)(w:World)(hen:Env w0 w own eb ef)(hS:StIn w own s rg cc pp ch pv prs S):
  Calls Tryz.prog 18 #[.pointer (some ⟨s,0,none⟩),I r] w fun e w'=>e= .returned (.tuple #[I (comS S r).2.1,I (comS S r).2.2])∧StOk w0 w own s (comS S r).1 eb ef w':=by
 unfold comS
 cases hr:rpS S r with
 | none=>
  refine(zhn (zdt own s rg cc pp ch pv prs S r w hS (zeq hr)).up).mono ?_
  rintro e w' ⟨rfl,rfl⟩
  exact⟨rfl,StOk.below hS hen (Below.refl _ _)⟩
 | some R=>
  obtain⟨k,rfl,hk⟩:=zce hr
  obtain⟨bs,hL,hRS⟩:=hG.rep k R hk
  by_cases hst:R.st=2
  ·simp only [if_pos hst]
   refine(zhn (zc1 own s rg cc pp ch pv prs S k R hk hst w hS)).mono ?_
   rintro e w' ⟨rfl,rfl⟩
   exact⟨rfl,StOk.below hS hen (Below.refl _ _)⟩
  ·simp only [if_neg hst,Int.toNat_natCast]
   have g1:=(hRS.up hst).1
   by_cases h1:R.st=1
   ·simp only [h1,ne_eq,not_true,if_false]
    by_cases he:R.effs= []
    ·simp only [if_pos he]
     exact zl5 own s rg cc pp ch pv prs S k R w w0 eb ef hen hS hk g1.up h1 he
    ·simp only [if_neg he]
     exact zm8 own s rg cc pp ch pv prs S k R w w0 eb ef hI hen hS hk g1.up h1 he (g1.head h1 he)
   ·simp only [h1,ne_eq,not_false_iff,if_true]
    refine(zl6 hS hk g1.up h1).mono ?_
    rintro e w' ⟨rfl,hb⟩
    exact⟨rfl,StOk.below hS hen hb⟩
end
def Gk(K:Wv.Bt->Prop)(ls:List Int)(n:Nat)(S:Sto):Prop:=∃L,GI K ls n S L
section
variable {K : Wv.Bt -> Prop} {ls : List Int} {n : Nat} {S : Sto}
theorem Gk.onS(h:Gk K ls n S)(r:Int){f:Rp->Rp×Int}(hf:∀(k:Nat) R L bs,rpS S r=some R->GI K ls n S L->S.reps[k]?=some R->L[k]?=some bs->RS n k R bs->R.st ≠ 2->∃L',GI K ls n {S with reps:=S.reps.set k (f R).1} L'):Gk K ls n (onS S r f).1:=by
 unfold Go.Proofs.YtfmcngncaffloabGreatDoor.onS
 cases hr:rpS S r with
 | none=>exact h
 | some R=>
  obtain⟨k,rfl,hk⟩:=zce hr
  obtain⟨L,hG⟩:=h
  obtain⟨bs,hL,hRS⟩:=hG.rep k R hk
  by_cases hst:R.st=2
  ·simp only [if_pos hst];exact⟨L,hG⟩
  ·simp only [if_neg hst,Int.toNat_natCast];exact hf k R L bs hr hG hk hL hRS hst
theorem Gk.on1(h:Gk K ls n S)(r:Int){f:Rp->Rp×Int}(hf:∀(k:Nat) R,RU n k R->RU n k (f R).1∧(f R).1.log=R.log∧(f R).1.clock=R.clock∧(f R).1.held=R.held∧((f R).1.synced=R.synced∨(f R).1.synced=R.log.length)∧(f R).1.obs=R.obs):Gk K ls n (Go.Proofs.YtfmcngncaffloabGreatDoor.onS S r f).1:=by
 refine h.onS r fun k R L bs _ hG hk hL hRS hst=> ?_
 obtain⟨h1,h2,h3,h4,h5,h6⟩:=hf k R (hRS.up hst).1
 exact⟨L,hG.same hk hL (hRS.same hst h1 h2 h3 h4 h5 h6) (fun b hb=>by rw [h4] at hb;exact hb)⟩
theorem zjr(h:Gk K ls n S)(r:Int):Gk K ls n (onS S r za4).1:=by
 refine h.on1 r fun k R hR=>⟨hR.begin, ?_⟩
 unfold za4
 split
 ·exact⟨rfl,rfl,rfl,Or.inl rfl,rfl⟩
 ·split<;>exact⟨rfl,rfl,rfl,Or.inl rfl,rfl⟩
theorem zx5(h:Gk K ls n S)(r:Int):Gk K ls n (onS S r zbw).1:=by
 refine h.on1 r fun k R hR=> ?_
 unfold zbw
 split
 ·exact⟨hR.end,rfl,rfl,rfl,Or.inl rfl,rfl⟩
 ·exact⟨hR,rfl,rfl,rfl,Or.inl rfl,rfl⟩
theorem zsq(h:Gk K ls n S)(r:Int):Gk K ls n (onS S r (fun R=>(syncR R,0))).1:=
 h.on1 r fun _ _ hR=>⟨hR.sync,rfl,rfl,rfl,Or.inr rfl,rfl⟩
theorem gk_do(h:Gk K ls n S)(r op ob a b:Int):Gk K ls n (onS S r (fun R=>doRR R op ob a b)).1:=by
 refine h.on1 r fun k R hR=> ?_
 have hs:RU n k R∧R.log=R.log∧R.clock=R.clock∧R.held=R.held∧(R.synced=R.synced∨R.synced=R.log.length)∧R.obs=R.obs:=⟨hR,rfl,rfl,rfl,Or.inl rfl,rfl⟩
 unfold doRR
 split
 ·exact hs
 ·rename_i h1
  split
  ·exact hs
  ·rename_i h2
   split
   ·exact hs
   ·rename_i h3
    split
    ·exact hs
    ·rename_i o ho
     split
     ·exact hs
     ·rename_i h4
      split
      ·exact hs
      ·rename_i h5
       split
       ·exact hs
       ·rename_i h6
        have h2:=Classical.byContradiction h2
        have h3:=Classical.byContradiction h3
        have he:=hR.el
        refine⟨hR.put (Classical.byContradiction h1) (by have:¬R.effs.length=5:=fun q=>h6 (Or.inr q);omega) op ob.toNat a b o (by omega) h3.1 h3.2.1 (by rw [Int.toNat_of_nonneg h2.1];exact h3.2.2) ho (Classical.byContradiction h4) h5 (fun q=>h6 (Or.inl q)),rfl,rfl,rfl,Or.inl rfl,rfl⟩
theorem zon(h:Gk K ls n S)(r k:Int):Gk K ls n (onS S r (fun R=>(zbv R k,0))).1:=
 h.onS r fun _ _ _ _ _ hG hk hL hRS hst=>hG.crash hk hL hRS hst k
theorem zsr(h:Gk K ls n S)(r k:Int)(hK:∀R,rpS S r=some R->R.st=1->R.effs ≠ []->K (pendB R)):Gk K ls n (onS S r (fun R=>zdm R k)).1:=by
 refine h.onS r fun q R L bs hq hG hk hL hRS hst=> ?_
 unfold zdm
 by_cases h1:R.st=1
 ·simp only [if_pos h1];exact hG.fail hk hL hRS h1 (hK R hq h1) k
 ·simp only [if_neg h1]
  rw [zdg hk]
  exact⟨L,hG⟩
theorem zjp(h:Gk K ls n S)(r:Int):Gk K ls n (rstS S r).1:=by
 unfold rstS
 cases hr:rpS S r with
 | none=>exact h
 | some R=>
  obtain⟨k,rfl,hk⟩:=zce hr
  obtain⟨L,hG⟩:=h
  obtain⟨bs,hL,hRS⟩:=hG.rep k R hk
  by_cases hst:R.st=2
  ·simp only [if_pos hst,Int.toNat_natCast];exact⟨L,hG.restart hk hL hRS hst⟩
  ·simp only [if_neg hst];exact⟨L,hG⟩
theorem zx4(h:Gk K ls n S)(r t:Int):Gk K ls n (askS S r t).1:=by
 unfold askS
 cases hr:rpS S r with
 | none=>exact h
 | some R=>
  obtain⟨k,rfl,hk⟩:=zce hr
  obtain⟨L,hG⟩:=h
  obtain⟨bs,hL,hRS⟩:=hG.rep k R hk
  by_cases hst:R.st=2
  ·simp only [if_pos hst];exact⟨L,hG⟩
  ·simp only [if_neg hst]
   by_cases ht:¬(0<=t∧t<S.reps.length)∨t=k
   ·simp only [if_pos ht];exact⟨L,hG⟩
   ·simp only [if_neg ht]
    have h1:0<=t∧t<S.reps.length:=Classical.byContradiction (fun q=>ht (Or.inl q))
    obtain⟨q,rfl⟩:=Int.eq_ofNat_of_zero_le h1.1
    have:=hG.rl
    exact⟨L,hG.ask hRS.rlt (by omega) hRS.cl⟩
theorem Gk.ms(h:Gk K ls n S)(i:Int){f:Ms->Sto×Int}(hf:∀(k:Nat) m L,i=k->GI K ls n S L->S.msgs[k]?=some m->∃L',GI K ls n (f m).1 L'):Gk K ls n (msS S i f).1:=by
 rcases zda S i with q | ⟨k,m,e,q⟩
 ·rw [zfy q];exact h
 ·rw [e,zd9 q]
  obtain⟨L,hG⟩:=h
  exact hf k m L e hG q
theorem zss(h:Gk K ls n S)(i:Int):Gk K ls n (dropS S i).1:=by
 refine h.ms i fun k m L _ hG hk=>⟨L,hG.msgs fun x hx=>hG.msg x (List.mem_of_mem_eraseIdx hx)⟩
theorem zol(h:Gk K ls n S)(i:Int):Gk K ls n (ziq S i).1:=by
 refine h.ms i fun k m L _ hG hk=>⟨L,hG.msgs fun x hx=> ?_⟩
 rcases zg0 hx with q | q
 ·exact hG.msg x q
 ·rw [q];exact hG.msg m (List.mem_of_getElem? hk)
theorem zom(h:Gk K ls n S)(i j k:Int):Gk K ls n (ziv S i j k).1:=by
 refine h.ms i fun q m L e hG hk=> ?_
 subst e
 by_cases hb:m.sp=true∨(k<1∨k>255)∨(j<0∨j≥m.bs.length)
 ·simp only [if_pos hb];exact⟨L,hG⟩
 ·simp only [if_neg hb,Int.toNat_natCast]
  have h1:m.sp=false:=by cases hq:m.sp with | false=>rfl | true=>exact absurd (Or.inl hq) hb
  have h2:1<=k∧k<=255:=⟨by refine Int.not_lt.1 (fun g=>hb (Or.inr (Or.inl (Or.inl g)))),by refine Int.not_lt.1 (fun g=>hb (Or.inr (Or.inl (Or.inr g))))⟩
  have h3:0<=j∧j<m.bs.length:=⟨by refine Int.not_lt.1 (fun g=>hb (Or.inr (Or.inr (Or.inl g)))),by refine Int.not_le.1 (fun g=>hb (Or.inr (Or.inr (Or.inr g))))⟩
  exact⟨L,hG.spoil hk h1 (by omega) (by omega) (by omega)⟩
theorem zjq(h:Gk K ls n S)(i:Int):Gk K ls n (delS S i).1:=by
 refine h.ms i fun k m L e hG hk=> ?_
 subst e
 simp only [Int.toNat_natCast]
 cases hR:S.reps[m.t.toNat]? with
 | none=>exact⟨L,hG⟩
 | some R=>exact hG.deliver hk hR
theorem zlg(h:Gk K ls n S)(r:Int)(hK:∀R,rpS S r=some R->R.st=1->R.effs ≠ []->K (pendB R)):Gk K ls n (comS S r).1:=by
 unfold comS
 cases hr:rpS S r with
 | none=>exact h
 | some R=>
  obtain⟨k,rfl,hk⟩:=zce hr
  obtain⟨L,hG⟩:=h
  obtain⟨bs,hL,hRS⟩:=hG.rep k R hk
  by_cases hst:R.st=2
  ·simp only [if_pos hst];exact⟨L,hG⟩
  ·simp only [if_neg hst,Int.toNat_natCast]
   by_cases h1:R.st=1
   ·simp only [h1,ne_eq,not_true,if_false]
    by_cases he:R.effs= []
    ·simp only [if_pos he]
     exact⟨L,hG.same hk hL (hRS.same hst (hRS.up hst).1.end rfl rfl rfl (Or.inl rfl) rfl) (fun b hb=>hb)⟩
    ·simp only [if_neg he]
     exact⟨_,hG.commit hk hL hRS h1 he (hK R hr h1 he)⟩
   ·simp only [h1,ne_eq,not_false_iff,if_true];exact⟨L,hG⟩
theorem zx3(n:Nat)(h2:2<=n)(h4:n<=4):Gk K [] n ⟨(List.range n).map (fun r=>newR r n), []⟩:=⟨_,GI.new K n h2 h4⟩
end
abbrev Gi (n:Nat) (S:Sto):Prop:=Gk (fun _=>True) [] n S
def St1(w:World)(own:Clr)(s:Nat)(S:Sto):Prop:=∃rg cc pp ch pv prs,StIn w own s rg cc pp ch pv prs S
theorem St1.keep{w w':World}{own own':Clr}{s:Nat}{S:Sto}(h:St1 w own s S)(hSm:∀d,d ≠ 700->Same own d w w')(he:Ext own own' w.heap.size):St1 w' own' s S:=by
 obtain⟨rg,cc,pp,ch,pv,prs,hS⟩:=h
 have hr:=hS.rlt
 exact⟨rg,cc,pp,ch,pv,prs,(hSm 900 (by omega) s hS.blk.lt hS.own1).trans hS.blk,fun r h1=>za8 (hS.row r h1) (hSm 900 (by omega) rg hr hS.own2),hS.len,hS.most,hS.least,(he s hS.blk.lt).trans hS.own1,(he rg hr).trans hS.own2,fun r h1 h2=>(hS.reps r h1 h2).keep (hSm 0 (by omega)) (fun d hd1 hd2=>hSm d (by have:=hS.most;have:=hS.len;omega)) he,hS.post.keep (hSm 100 (by omega)) he⟩
theorem Env.tchx{F:Nat->Prop}{w0 w w':World}{own own':Clr}{eb ef:Addr}(h:Env w0 w own eb ef)(hT:Tch F w w')(hF:∀k,k<w.heap.size->own k=0->¬F k)(hE:Ext own own' w.heap.size):Env w0 w' own' eb ef:=
 ⟨h.gl,h.pw,h.bel.trans (hT.toBelow h.bel.size (fun k hk=>hF k (Nat.lt_of_lt_of_le hk h.bel.size) (h.own0 k hk))),fun b hb=>(hE b (Nat.lt_of_lt_of_le hb h.bel.size)).trans (h.own0 b hb)⟩
def Zb(Z:List (Nat×Obj))(own:Clr)(w:World):Prop:=∀p∈Z,own p.1=700∧w.heap[p.1]?=some p.2
theorem Zb.lt{Z:List (Nat×Obj)}{own:Clr}{w:World}(h:Zb Z own w){p:Nat×Obj}(hp:p∈Z):p.1<w.heap.size:=(Array.getElem?_eq_some_iff.1 (h p hp).2).1
theorem Zb.tch{Z:List (Nat×Obj)}{own own':Clr}{w w':World}(h:Zb Z own w)(hE:Ext own own' w.heap.size)(hT:Tch (fun k=>1<=own k∧own k<=100) w w'):Zb Z own' w':=fun p hp=>by
 have hl:=h.lt hp
 have h7:=(h p hp).1
 exact⟨by rw [hE _ hl];exact h7,(hT.block p.1 hl (by omega)).trans (h p hp).2⟩
theorem Zb.news{Y Z:List (Nat×Obj)}{own:Clr}{w w':World}(h:Zb Z own w)(hb:Below w.heap.size w w')(hY:∀p∈Y,w.heap.size<=p.1∧w'.heap[p.1]?=some p.2):Zb (Y++Z) (newTo own w.heap.size 700) w':=fun p hp=>by
 rcases List.mem_append.1 hp with q | q
 ·exact⟨zaf _ _ _ _ (hY p q).1,(hY p q).2⟩
 ·have hl:=h.lt q
  exact⟨by rw [zae _ _ _ _ hl];exact(h p q).1,(hb.block p.1 hl).trans (h p q).2⟩
def rdS(S:Sto)(r k:Int):List Int×Int:=match rpS S r with
 | none=>([],3)
 | some R=>if R.st=2 then([],4) else if 0<=k∧k<8 then(match R.obs[k.toNat]? with | none=>([],8) | some o=>((seeTo (pendB R) k.toNat o R.effs.length).tells,0)) else([],8)
def opsS:Ops Sto where
 bgn S r:=onS S r za4
 abt S r:=onS S r zbw
 doo S r op ob a b:=onS S r (fun R=>doRR R op ob a b)
 com S r:=comS S r
 dlv S i:=delS S i
 drp S i:=dropS S i
 twc S i:=ziq S i
 spl S i j k:=ziv S i j k
 ask S r t:=askS S r t
 syn S r:=onS S r (fun R=>(syncR R,0))
 crs S r k:=onS S r (fun R=>(zbv R k,0))
 fal S r k:=onS S r (fun R=>zdm R k)
 rst S r:=rstS S r
 rd S r k:=rdS S r k
def Hosts(w0:World)(eb ef:Addr)(s:Nat)(Q:Sto->World->Prop):Prop:=∀S w,Q S w->∃own,Env w0 w own eb ef∧St1 w own s S∧∀S' w',StOk w0 w own s S' eb ef w'->Q S' w'
def ckS(S:Sto)(r:Nat):List Int:=match S.reps[r]? with | none=> [] | some R=>R.clock
def S1(Z:List (Nat×Obj))(w0:World)(eb ef:Addr)(s:Nat)(S:Sto)(w:World):Prop:=∃own,Env w0 w own eb ef∧St1 w own s S∧Zb Z own w
theorem zx0(Z:List (Nat×Obj))(w0:World)(eb ef:Addr)(s:Nat):Hosts w0 eb ef s (S1 Z w0 eb ef s):=by
 rintro S w ⟨own,h1,h2,h3⟩
 refine⟨own,h1,h2,fun S' w' h=> ?_⟩
 obtain⟨own',rg,cc,pp,ch,pv,prs,hE,hS,hen,hT⟩:=h
 exact⟨own',hen,⟨rg,cc,pp,ch,pv,prs,hS⟩,h3.tch hE hT⟩
theorem S1.more{Z V:List (Nat×Obj)}{w0 w w':World}{eb ef:Addr}{s:Nat}{S:Sto}(h:S1 Z w0 eb ef s S w)(hb:Below w.heap.size w w')(hV:∀p∈V,w.heap.size<=p.1∧w'.heap[p.1]?=some p.2):S1 (V++Z) w0 eb ef s S w':=by
 obtain⟨own,h1,h2,h3⟩:=h
 exact⟨newTo own w.heap.size 700,h1.tchx (F:=fun _=>False) (Tch.below hb) (fun _ _ _ h=>h) (zab _ _ _),h2.keep (fun d _ b hl _=>hb.block b hl) (zab _ _ _),h3.news hb hV⟩
theorem S1.put{w0 w w':World}{eb ef:Addr}{s g:Nat}{S:Sto}{ob ob':Obj}(h:S1 [(g,ob)] w0 eb ef s S w)(hT:Tch (fun k=>k=g) w w')(hg:w'.heap[g]?=some ob'):S1 [(g,ob')] w0 eb ef s S w':=by
 obtain⟨own,h1,h2,h3⟩:=h
 have h7:own g=700:=(h3 (g,ob) (by simp)).1
 refine⟨own,h1.tchx hT (fun k _ h0 e=> ?_) (Ext.refl _ _),h2.keep (fun d hd b hl hbd=>hT.block b hl (fun e=>hd ?_)) (Ext.refl _ _),fun p hp=> ?_⟩
 ·have e:k=g:=e
  subst e
  omega
 ·have e:b=g:=e
  subst e
  rw [←hbd,h7]
 ·rw [List.mem_singleton.1 hp]
  exact⟨h7,hg⟩
section
variable {w0 : World} {eb ef : Addr} {n : Nat}
theorem Hosts.cl{s:Nat}{Q:Sto->World->Prop}(hQ:Hosts w0 eb ef s Q){S:Sto}{w:World}{fn:Nat}(args:List Int){a:Sto×Int}(h:Gi n S∧Q S w)(hG:Gi n a.1)(hd:Doing w0 eb ef fn args S a.1 a.2):Cl (fun S w=>Gi n S∧Q S w) fn (#[sV s]++(args.map I).toArray) w a:=by
 obtain⟨own,hen,⟨rg,cc,pp,ch,pv,prs,hS⟩,hst⟩:=hQ S w h.2
 exact(hd own s rg cc pp ch pv prs w hen hS).mono (fun e w' hh=>⟨hh.1,hG,hst _ _ hh.2⟩)
theorem zd5(w':World)(b:Nat):w'.ownsRow b 3 1 (.slice none 0 0) ([]:List Int).length (([]:List Int).map I):=World.ownsRow_nil _ _ _ _
theorem zwx{S:Sto}(hG:Gi n S)(own:Clr)(s rg cc pp ch:Nat)(pv:Value)(prs:List Nat)(w:World)(hS:StIn w own s rg cc pp ch pv prs S)(r k:Int):Rl 14 #[sV s,I r,I k] w (rdS S r k):=by
 unfold Rl rdS
 cases hr:rpS S r with
 | none=>
  refine(zkv k (zdt own s rg cc pp ch pv prs S r w hS (zeq hr)).up).mono ?_
  rintro e w' ⟨rfl,rfl⟩
  exact⟨_,rfl,zd5 _ _,Below.refl _ _⟩
 | some R=>
  obtain⟨q,rfl,hq⟩:=zce hr
  by_cases hst:R.st=2
  ·simp only [if_pos hst]
   refine(zkv k (zc1 own s rg cc pp ch pv prs S q R hq hst w hS)).mono ?_
   rintro e w' ⟨rfl,rfl⟩
   exact⟨_,rfl,zd5 _ _,Below.refl _ _⟩
  ·simp only [if_neg hst]
   obtain⟨L,hG⟩:=hG
   obtain⟨bs,hL,hRS⟩:=hG.rep q R hq
   have hRU:=(hRS.up hst).1
   by_cases hk:0<=k∧k<8
   ·simp only [if_pos hk]
    obtain⟨j,rfl⟩:=Int.eq_ofNat_of_zero_le hk.1
    obtain⟨o,ho,_,_⟩:=hRU.obs j (by omega)
    simp only [Int.toNat_natCast,ho]
    exact ztc own s rg cc pp ch pv prs S q R j o w hS hq hRU.up ho
   ·simp only [if_neg hk]
    refine(zv5 hS hq hRU.up k hk).mono ?_
    rintro e w' ⟨rfl,hb⟩
    exact⟨_,rfl,zd5 _ _,hb⟩
theorem zs2(hI:zaj)(hg:Gd w0)(hgg:Gg w0){s:Nat}{Q:Sto->World->Prop}(hQ:Hosts w0 eb ef s Q):Api opsS (fun S w=>Gi n S∧Q S w) s where
 bel S w w' h hb:=by
  obtain⟨own,hen,⟨rg,cc,pp,ch,pv,prs,hS⟩,hst⟩:=hQ S w h.2
  exact⟨h.1,hst _ _ (StOk.below hS hen hb)⟩
 bgn S w r h:=hQ.cl [r] h (zjr h.1 r) (by obtain⟨L,hG⟩:=h.1;exact zo3 hG r)
 abt S w r h:=hQ.cl [r] h (zx5 h.1 r) (by obtain⟨L,hG⟩:=h.1;exact zo4 hG r)
 doo S w r op ob a b h:=hQ.cl [r,op,ob,a,b] h (gk_do h.1 r op ob a b) (by obtain⟨L,hG⟩:=h.1;exact zyj hG r op ob a b)
 com S w r h:=by
  obtain⟨own,hen,⟨rg,cc,pp,ch,pv,prs,hS⟩,hst⟩:=hQ S w h.2
  obtain⟨L,hG⟩:=h.1
  exact(zmw hI hG r own s rg cc pp ch pv prs w hen hS).mono (fun e w' hh=>⟨hh.1,zlg h.1 r (fun _ _ _ _=>trivial),hst _ _ hh.2⟩)
 dlv S w i h:=hQ.cl [i] h (zjq h.1 i) (by obtain⟨L,hG⟩:=h.1;exact zkp hI hg hgg hG i)
 drp S w i h:=hQ.cl [i] h (zss h.1 i) (zrw i)
 twc S w i h:=hQ.cl [i] h (zol h.1 i) (zo0 i)
 spl S w i j k h:=hQ.cl [i,j,k] h (zom h.1 i j k) (by obtain⟨L,hG⟩:=h.1;exact zo1 hG i j k)
 ask S w r t h:=hQ.cl [r,t] h (zx4 h.1 r t) (by obtain⟨L,hG⟩:=h.1;exact zve hG r t)
 syn S w r h:=hQ.cl [r] h (zsq h.1 r) (zru r)
 crs S w r k h:=hQ.cl [r,k] h (zon h.1 r k) (by obtain⟨L,hG⟩:=h.1;exact zo2 hG r k)
 fal S w r k h:=hQ.cl [r,k] h (zsr h.1 r k (fun _ _ _ _=>trivial)) (by obtain⟨L,hG⟩:=h.1;exact zrv hI hG r k)
 rst S w r h:=hQ.cl [r] h (zjp h.1 r) (by obtain⟨L,hG⟩:=h.1;exact zko hI hg hG r)
 rd S w r o h:=by
  obtain⟨own,hen,⟨rg,cc,pp,ch,pv,prs,hS⟩,hst⟩:=hQ S w h.2
  exact zwx h.1 own s rg cc pp ch pv prs w hS r o
end
def Wi(n:Nat)(l:List Int)(S:Sto):Prop:=Gk KB l n S∧(∀(q:Nat) R,S.reps[q]?=some R->R.st ≠ 1)∧l.length=4
section
variable {n : Nat} {l : List Int} {S : Sto} {r : Nat} {R : Rp} {f : Rp -> Rp × Int}
theorem zck(S:Sto)(r:Nat):rpS S r=S.reps[r]?:=by unfold rpS;rw [if_pos (by omega),Int.toNat_natCast]
theorem zd7(h:S.reps[r]?=some R)(hu:R.st ≠ 2):onS S r f=({S with reps:=S.reps.set r (f R).1},(f R).2):=by unfold onS;rw [zck,h];simp only [if_neg hu,Int.toNat_natCast]
theorem zew(h:S.reps[r]?=some R)(hd:R.st=2):onS S r f=(S,4):=by unfold onS;rw [zck,h];simp only [if_pos hd]
theorem zg8{q:Nat}(hq:q ≠ r):(onS S r f).1.reps[q]?=S.reps[q]?:=by
 unfold onS
 split
 ·rfl
 ·split
  ·rfl
  ·show(S.reps.set (r:Int).toNat (f _).1)[q]?=_
   rw [Int.toNat_natCast,List.getElem?_set_ne (fun e=>hq e.symm)]
theorem zfu{l:List Rp}{r:Nat}{R R':Rp}(h:l[r]?=some R):(l.set r R')[r]?=some R':=List.getElem?_set_self (List.getElem?_eq_some_iff.1 h).1
theorem zhq(b:Wv.Bt)(k:Int)(v:Int):∀j,∃u,seeTo b k (.counter v) j= .counter u
 | 0=>⟨v,rfl⟩
 | j+1=>by
  obtain⟨u,hu⟩:=zhq b k v j
  rw [seeTo]
  split
  ·split
   ·rw [hu];exact⟨_,rfl⟩
   ·exact⟨u,hu⟩
  ·exact⟨u,hu⟩
def eA(k x:Int):Wv.Ef:=⟨1,k,x,⟨0,0,0⟩, []⟩
theorem zo5{k:Nat}{v x:Int}(h1:R.st=1)(hk:k=0∨k=4)(ho:R.obs[k]?=some (.counter v))(hx:0<=x∧x<=1000)(hl:R.effs.length<5):doRR R 1 k x 0=({R with effs:=R.effs++ [eA k x]},0):=by
 obtain⟨u,hu⟩:=zhq (pendB R) k v R.effs.length
 have ha:(seeTo (pendB R) k (.counter v) R.effs.length).answer 1 x 0=⟨x,⟨0,0,0⟩, [],0⟩:=by
  rw [hu]
  show(⟨(addE x).1,⟨0,0,0⟩, [],(addE x).2⟩:Sya)=_
  have:addE x=(x,0):=by unfold addE;rw [if_neg (by omega)]
  rw [this]
 unfold doRR
 rw [if_neg (by omega),if_neg (by omega),if_neg (by rcases hk with e | e<;>subst e<;>decide),Int.toNat_natCast,ho]
 simp only [ha]
 rw [if_neg (by simp),if_neg (by simp [Wv.rLeastD]),if_neg (by simp [Wv.rMostD];omega)]
 unfold putR
 rw [ha]
 rfl
def R3(R:Rp)(x:Int):Rp:={R with st:=1,effs:= [eA 0 x,eA 4 x]}
theorem kb3(R:Rp)(x:Int):KB (pendB (R3 R x)):=by
 show csum 0 [eA 0 x,eA 4 x]=csum 4 [eA 0 x,eA 4 x]
 simp [csum,eA]
theorem zsc(h:S.reps[r]?=some R)(hd:R.st=2)(x:Int):tx2 opsS S r x=S:=by
 unfold tx2
 show(onS (onS (onS S r za4).1 r (fun R=>doRR R 1 0 x 0)).1 r (fun R=>doRR R 1 4 x 0)).1=S
 simp only [zew h hd]
theorem zsb(h:S.reps[r]?=some R)(h0:R.st=0)(hf:R.clock.getD R.n.toNat 0=30)(x:Int):tx2 opsS S r x=S:=by
 unfold tx2
 show(onS (onS (onS S r za4).1 r (fun R=>doRR R 1 0 x 0)).1 r (fun R=>doRR R 1 4 x 0)).1=S
 have hb:za4 R=(R,13):=by unfold za4;rw [if_neg (by omega),if_pos hf]
 have hd:∀k,doRR R 1 k x 0=(R,7):=fun k=>by unfold doRR;rw [if_pos (by omega)]
 rw [zd7 h (by omega),hb]
 simp only [zdg h]
 rw [zd7 h (by omega)]
 simp only [hd,zdg h]
 rw [zd7 h (by omega)]
 simp only [hd,zdg h]
theorem zwa(h:S.reps[r]?=some R)(h0:R.st=0)(hf:R.clock.getD R.n.toNat 0 ≠ 30)(he:R.effs= []){v0 v4:Int}(o0:R.obs[0]?=some (.counter v0))(o4:R.obs[4]?=some (.counter v4)){x:Int}(hx:0<=x∧x<=1000):tx2 opsS S r x={S with reps:=S.reps.set r (R3 R x)}:=by
 unfold tx2
 show(onS (onS (onS S r za4).1 r (fun R=>doRR R 1 0 x 0)).1 r (fun R=>doRR R 1 4 x 0)).1=_
 have hb:za4 R=({R with st:=1},0):=by unfold za4;rw [if_neg (by omega),if_neg hf]
 have d1:doRR {R with st:=1} 1 0 x 0=({R with st:=1,effs:= [eA 0 x]},0):=by
  have:=zo5 (R:={R with st:=1}) (k:=0) rfl (Or.inl rfl) o0 hx (by show R.effs.length<5;rw [he];decide)
  refine this.trans ?_
  show(({R with st:=1,effs:=R.effs++ [eA 0 x]}:Rp),(0:Int))=_
  rw [he]
  rfl
 have d2:doRR {R with st:=1,effs:= [eA 0 x]} 1 4 x 0=(R3 R x,0):=zo5 (R:={R with st:=1,effs:= [eA 0 x]}) (k:=4) rfl (Or.inr rfl) o4 hx (show [eA 0 x].length<5 by simp)
 rw [zd7 h (by omega),hb]
 rw [zd7 (S:={S with reps:=S.reps.set r {R with st:=1}}) (R:={R with st:=1}) (zfu h) (show(1:Int)≠ 2 by decide),d1]
 simp only [List.set_set]
 rw [zd7 (S:={S with reps:=S.reps.set r {R with st:=1,effs:= [eA 0 x]}}) (R:={R with st:=1,effs:= [eA 0 x]}) (zfu h) (show(1:Int)≠ 2 by decide),d2]
 simp only [List.set_set]
theorem gk_tx(h:Gk KB l n S)(r:Nat)(x:Int):Gk KB l n (tx2 opsS S r x):=gk_do (gk_do (zjr h r) r 1 0 x 0) r 1 4 x 0
theorem Wi.at(h:Wi n l S)(hr:r<n):∃R bs L,GI KB l n S L∧S.reps[r]?=some R∧L[r]?=some bs∧RS n r R bs∧(R.st=2∨(R.st=0∧R.effs= []∧∃v,R.obs[0]?=some (.counter v)∧R.obs[4]?=some (.counter v))):=by
 obtain⟨⟨L,hG⟩,hi,_⟩:=h
 have hR:S.reps[r]?=some (S.reps[r]'(by rw [hG.rl];exact hr)):=List.getElem?_eq_getElem _
 obtain⟨bs,hL,hRS⟩:=hG.rep r _ hR
 refine⟨_,bs,L,hG,hR,hL,hRS, ?_⟩
 by_cases hst:(S.reps[r]'(by rw [hG.rl];exact hr)).st=2
 ·exact Or.inl hst
 ·right
  have hu:=(hRS.up hst).1
  have h0:(S.reps[r]'(by rw [hG.rl];exact hr)).st=0:=by
   rcases hu.st with q | q
   ·exact q
   ·exact absurd q (hi r _ hR)
  refine⟨h0,hu.idle h0, ?_⟩
  rw [hRS.ob hst]
  exact zi9 bs obN 0 (fun b hb=>(hG.top bs (List.mem_of_getElem? hL) b hb).1) rfl rfl
theorem wi_hv(h:Wi n l S)(hr:r<n):(rdS S r 0=([],4)∧rdS S r 4=([],4))∨∃v,rdS S r 0=([v],0)∧rdS S r 4=([v],0)∧(ckS S r).length=n∧l.getD r 0<=(ckS S r).getD r 0:=by
 obtain⟨R,bs,L,hG,hR,hL,hRS,hc⟩:=h.at hr
 rcases hc with h2 | ⟨h0,he,v,o0,o4⟩
 ·left
  unfold rdS
  rw [zck,hR]
  simp only [if_pos h2,and_self]
 ·right
  refine⟨v, ?_, ?_, ?_, ?_⟩
  ·unfold rdS
   rw [zck,hR]
   simp only [if_neg (show¬R.st=2 by omega)]
   rw [if_pos (by decide)]
   show(match R.obs[0]? with | none=>_ | some o=>_)=_
   rw [o0,he]
   rfl
  ·unfold rdS
   rw [zck,hR]
   simp only [if_neg (show¬R.st=2 by omega)]
   rw [if_pos (by decide)]
   show(match R.obs[4]? with | none=>_ | some o=>_)=_
   rw [o4,he]
   rfl
  ·unfold ckS;rw [hR];exact hRS.cl
  ·have h1:=hG.lst r
   rw [List.getD_eq_getElem?_getD (l:=L),hL] at h1
   have h1:l.getD r 0<=topB n r bs:=h1
   rw [hRS.top (by omega)] at h1
   unfold ckS
   rw [hR]
   exact h1
end
section
variable {n : Nat} {l : List Int} {S : Sto} {r : Nat}
theorem zjm{S:Sto}{r:Nat}{R:Rp}{ms:List Ms}(hi:∀(q:Nat) R,S.reps[q]?=some R->R.st ≠ 1)(h:R.st ≠ 1):∀(q:Nat) R',(⟨S.reps.set r R,ms⟩:Sto).reps[q]?=some R'->R'.st ≠ 1:=fun q R' hq=>by
 have hq:(S.reps.set r R)[q]?=some R':=hq
 rcases List.mem_or_eq_of_mem_set (List.mem_of_getElem? hq) with m | m
 ·obtain⟨k,hk⟩:=List.mem_iff_getElem?.1 m
  exact hi k R' hk
 ·rw [m];exact h
theorem wi_tx(h:Wi n l S)(hr:r<n){x:Int}(hx:0<=x∧x<100):((comS (tx2 opsS S r x) r).2.2=0∧l.getD r 0<(comS (tx2 opsS S r x) r).2.1∧Wi n (l.set r (comS (tx2 opsS S r x) r).2.1) (comS (tx2 opsS S r x) r).1)∨((comS (tx2 opsS S r x) r).2.2 ≠ 0∧Wi n l (comS (tx2 opsS S r x) r).1):=by
 obtain⟨R,bs0,L0,hG0,hR,hL0,hRS0,hc⟩:=h.at hr
 rcases hc with h2 | ⟨h0,he,v,o0,o4⟩
 ·right
  rw [zsc hR h2]
  have e:comS S r=(S,0,4):=by unfold comS;rw [zck,hR];simp only [if_pos h2]
  rw [e]
  exact⟨show(4:Int)≠ 0 by decide,h⟩
 ·by_cases hf:R.clock.getD R.n.toNat 0=30
  ·right
   rw [zsb hR h0 hf]
   have e:comS S r=(S,0,7):=by
    unfold comS
    rw [zck,hR]
    simp only [if_neg (show¬R.st=2 by omega),if_pos (show R.st ≠ 1 by omega)]
   rw [e]
   exact⟨show(7:Int)≠ 0 by decide,h⟩
  ·left
   have hT:=gk_tx h.1 r x
   have ht:tx2 opsS S r x={S with reps:=S.reps.set r (R3 R x)}:=zwa hR h0 hf he o0 o4 ⟨hx.1,by omega⟩
   rw [ht] at hT ⊢
   obtain⟨L,hG⟩:=hT
   have hk:({S with reps:=S.reps.set r (R3 R x)}:Sto).reps[r]?=some (R3 R x):=zfu hR
   obtain⟨bs,hL,hRS⟩:=hG.rep r _ hk
   have h1:(R3 R x).st=1:=rfl
   have hne:(R3 R x).effs ≠ []:=by show [eA 0 x,eA 4 x] ≠ [];simp
   have hu:(R3 R x).st ≠ 2:=by rw [h1];decide
   have e:comS {S with reps:=S.reps.set r (R3 R x)} r=(⟨(S.reps.set r (R3 R x)).set r (zb2 (R3 R x)),sprA S.msgs r (Wv.frameB (pendB (R3 R x))) (S.reps.set r (R3 R x)).length⟩,(pendB (R3 R x)).s,0):=by
    unfold comS
    rw [zck,hk]
    show(if (R3 R x).st=2 then _ else if (R3 R x).st ≠ 1 then _ else if (R3 R x).effs= [] then _ else _)=_
    rw [if_neg hu,if_neg (fun q=>q h1),if_neg hne,Int.toNat_natCast]
   rw [e]
   obtain⟨g1,g2,g3,_,g5⟩:=hRS.up hu
   have hC:=hG.commit hk hL hRS h1 hne (kb3 R x)
   obtain⟨hr2,_⟩:=List.getElem?_eq_some_iff.1 hL
   have htop:topB n r (bs++ [pendB (R3 R x)])=(pendB (R3 R x)).s:=by
    unfold topB
    rw [zcd,g3]
    show((R3 R x).clock.set (pendB (R3 R x)).o.toNat (pendB (R3 R x)).s).getD r 0=_
    rw [g1.p1,Int.toNat_natCast,zcm _ _ _ _ (by rw [hRS.cl];exact hRS.rlt),if_pos rfl]
   refine⟨rfl, ?_,⟨_,hC.bump (r:=r) (List.getElem?_set_self hr2) (by rw [htop];exact Int.le_refl _) (by rw [h.2.2];have:=hRS.n4;omega)⟩,fun q R' hq=> ?_,by show(l.set r _).length=4;rw [List.length_set];exact h.2.2⟩
   ·have h3:=hG.lst r
    rw [List.getD_eq_getElem?_getD (l:=L),hL] at h3
    have h3:l.getD r 0<=topB n r bs:=h3
    rw [hRS.top hu] at h3
    have h4:=g1.p2
    show l.getD r 0<(pendB (R3 R x)).s
    omega
   ·have hq:((S.reps.set r (R3 R x)).set r (zb2 (R3 R x)))[q]?=some R':=hq
    rw [List.set_set] at hq
    exact zjm (ms:= []) h.2.1 (show(0:Int)≠ 1 by decide) q R' hq
theorem zy5(h:Wi n l S)(hr:r<n)(i j:Int):Wi n l (onS (onS (tx2 opsS S r 7) r (fun R=>zdm R i)).1 r (fun R=>(zbv R j,0))).1:=by
 obtain⟨R,bs0,L0,hG0,hR,hL0,hRS0,hc⟩:=h.at hr
 have hT:=gk_tx h.1 r 7
 have key:(∀q,q ≠ r->(tx2 opsS S r 7).reps[q]?=S.reps[q]?)∧∃R',(tx2 opsS S r 7).reps[r]?=some R'∧(R'.st=1->KB (pendB R')):=by
  rcases hc with h2 | ⟨h0,he,v,o0,o4⟩
  ·rw [zsc hR h2]
   exact⟨fun q _=>rfl,R,hR,fun q=>by omega⟩
  ·by_cases hf:R.clock.getD R.n.toNat 0=30
   ·rw [zsb hR h0 hf]
    exact⟨fun q _=>rfl,R,hR,fun q=>by omega⟩
   ·rw [zwa hR h0 hf he o0 o4 (by decide)]
    exact⟨fun q hq=>List.getElem?_set_ne (fun e=>hq e.symm),R3 R 7,zfu hR,fun _=>kb3 R 7⟩
 obtain⟨k1,R',k2,k3⟩:=key
 generalize tx2 opsS S r 7=T at *
 have g1:=zsr hT r i (fun Q hQ h1 _=>by rw [zck,k2] at hQ;cases hQ;exact k3 h1)
 have g2:=zon g1 r j
 refine⟨g2,fun q Q hQ=> ?_,h.2.2⟩
 by_cases hq:q=r
 ·subst hq
  by_cases h2:R'.st=2
  ·rw [zew k2 h2] at hQ
   simp only at hQ
   rw [zew k2 h2] at hQ
   simp only at hQ
   rw [k2] at hQ
   cases hQ
   omega
  ·rw [zd7 k2 h2] at hQ
   simp only at hQ
   have k4:({T with reps:=T.reps.set q (zdm R' i).1}:Sto).reps[q]?=some (zdm R' i).1:=zfu k2
   by_cases h3:(zdm R' i).1.st=2
   ·rw [zew k4 h3] at hQ
    simp only at hQ
    rw [k4] at hQ
    cases hQ
    omega
   ·rw [zd7 k4 h3] at hQ
    simp only at hQ
    rw [zfu k4] at hQ
    cases hQ
    show(2:Int)≠ 1
    decide
 ·rw [zg8 hq,zg8 hq,k1 q hq] at hQ
  exact h.2.1 q Q hQ
theorem zoh:∀(m:Nat) (R:Rp),(heldR m R).st=R.st
 | 0,_=>rfl
 | m+1,R=>by
  rw [heldR]
  split
  ·rfl
  ·rw [zoh m];rfl
theorem zu2(R:Rp)(b:List UInt8):(zbk R b).st=R.st:=by
 unfold zbk
 split
 ·rfl
 ·split
  ·rfl
  ·split
   ·rw [zoh];rfl
   ·split<;>rfl
theorem zk2:∀(m:Nat) (R:Rp) (b:List UInt8),(zax m R b).st=R.st
 | 0,_,_=>rfl
 | m+1,R,b=>by
  rw [zax]
  split
  ·rfl
  ·split
   ·rw [zk2 m];rfl
   ·rfl
theorem zic{S':Sto}(h:Wi n l S)(hG:Gk KB l n S')(e:S'.reps=S.reps):Wi n l S':=⟨hG,by rw [e];exact h.2.1,h.2.2⟩
theorem zps(h:Wi n l S)(i:Int):Wi n l (delS S i).1:=by
 refine⟨zjq h.1 i, ?_,h.2.2⟩
 unfold delS
 rcases zda S i with q | ⟨k,m,e,q⟩
 ·rw [zfy q];exact h.2.1
 ·rw [e,zd9 q]
  split
  ·exact h.2.1
  ·rename_i R hR
   show∀(q:Nat) Q,(zf5 S (k:Int).toNat m R).reps[q]?=some Q->Q.st ≠ 1
   unfold zf5
   split
   ·exact h.2.1
   ·split
    ·exact zjm h.2.1 (by rw [zu2];exact h.2.1 _ R hR)
    ·exact h.2.1
theorem zmn{S:Sto}{i:Int}{f:Ms->Sto×Int}(hf:∀m,(f m).1.reps=S.reps):(msS S i f).1.reps=S.reps:=by
 rcases zda S i with q | ⟨k,m,e,q⟩
 ·rw [zfy q]
 ·rw [e,zd9 q];exact hf m
theorem zy6(h:Wi n l S)(o:Sp)(h8:8<=Wv.pk o.k 16)(h14:Wv.pk o.k 16 ≠ 14)(hn:0<n):Wi n l (doesX opsS n S o).1:=by
 obtain⟨r,hr⟩:∃r:Nat,Wv.pk o.r n=r:=Int.eq_ofNat_of_zero_le (Wv.pk_lt o.r n (by omega)).1
 unfold doesX
 rw [if_neg (by omega),if_neg (by omega),if_neg (by omega)]
 split
 ·exact zps h _
 ·split
  ·show Wi n l (zea opsS S (Wv.pk o.a 40) o.b o.c)
   unfold zea
   split
   ·exact zic h (zss h.1 _) (zmn fun m=>rfl)
   ·split
    ·exact zic h (zol h.1 _) (zmn fun m=>rfl)
    ·exact zic h (zom h.1 _ _ _) (zmn fun m=>by split<;>rfl)
  ·split
   ·refine zic h (zx4 h.1 _ _) ?_
    show(askS S _ _).1.reps=S.reps
    unfold askS
    split
    ·rfl
    ·split
     ·rfl
     ·split<;>rfl
   ·split
    ·rw [hr]
     refine⟨zsq h.1 r,fun q Q hQ=> ?_,h.2.2⟩
     have hQ:(onS S r (fun R=>(syncR R,0))).1.reps[q]?=some Q:=hQ
     by_cases hq:q=r
     ·subst hq
      cases hR:S.reps[q]? with
      | none=>
       have e:(onS S q (fun R=>(syncR R,(0:Int)))).1=S:=by unfold onS;rw [zck,hR]
       rw [e,hR] at hQ
       cases hQ
      | some R=>
       by_cases h2:R.st=2
       ·rw [zew hR h2] at hQ
        exact h.2.1 q Q hQ
       ·rw [zd7 hR h2] at hQ
        simp only at hQ
        rw [zfu hR] at hQ
        cases hQ
        exact h.2.1 q R hR
     ·rw [zg8 hq] at hQ
      exact h.2.1 q Q hQ
    ·rw [if_neg (by omega)]
     refine⟨zjp h.1 _, ?_,h.2.2⟩
     show∀(q:Nat) Q,(rstS S (Wv.pk o.r n)).1.reps[q]?=some Q->Q.st ≠ 1
     unfold rstS
     split
     ·exact h.2.1
     ·split
      ·exact zjm h.2.1 (show(zax _ _ _).st ≠ 1 by rw [zk2];show(0:Int)≠ 1;decide)
      ·exact h.2.1
end
theorem beg2:BegOk opsS (newS 2):=⟨by rfl,by rfl,by rfl,by rfl,by rfl,by rfl,by rfl⟩
theorem beg3:BegOk opsS (newS 3):=⟨by rfl,by rfl,by rfl,by rfl,by rfl,by rfl,by rfl⟩
theorem beg4:BegOk opsS (newS 4):=⟨by rfl,by rfl,by rfl,by rfl,by rfl,by rfl,by rfl⟩
theorem beg_any(n:Nat)(h2:2<=n)(h4:n<=4):BegOk opsS (newS n):=by
 obtain rfl | rfl | rfl:n=2∨n=3∨n=4:=by omega
 ·exact beg2
 ·exact beg3
 ·exact beg4
def begT(n:Nat):Sto:=(opsS.doo (opsS.doo (opsS.doo (opsS.bgn (newS n) 0).1 0 5 3 0 9).1 0 1 0 5 0).1 0 1 4 5 0).1
theorem zvy(n:Nat)(h2:2<=n)(h4:n<=4):(rpS (begT n) 0).map (fun R=>(csum 0 R.effs,csum 4 R.effs))=some (5,5):=by
 obtain rfl | rfl | rfl:n=2∨n=3∨n=4:=by omega
 ·rfl
 ·rfl
 ·rfl
theorem begF_st(n:Nat)(h2:2<=n)(h4:n<=4):(begF opsS (newS n)).reps.map (·.st)=List.replicate n 0:=by
 obtain rfl | rfl | rfl:n=2∨n=3∨n=4:=by omega
 ·rfl
 ·rfl
 ·rfl
theorem zy0(n:Nat)(h2:2<=n)(h4:n<=4):((begF opsS (newS n)).reps[0]?).map (fun R=>R.clock.getD 0 0)=some 1:=by
 obtain rfl | rfl | rfl:n=2∨n=3∨n=4:=by omega
 ·rfl
 ·rfl
 ·rfl
theorem GI.relst{K:Wv.Bt->Prop}{ls ls':List Int}{n:Nat}{S:Sto}{L:List (List Wv.Bt)}(h:GI K ls n S L)(hl:∀r,ls'.getD r 0<=topB n r (L.getD r [])):GI K ls' n S L:=⟨h.rl,h.ll,h.n2,h.n4,h.rep,h.top,h.held,h.msg,hl⟩
theorem wi_new(n:Nat)(h2:2<=n)(h4:n<=4):Wi n [1,0,0,0] (begF opsS (newS n)):=by
 have hst:∀(q:Nat) R,(begF opsS (newS n)).reps[q]?=some R->R.st=0:=fun q R hR=>by
  have h1:=begF_st n h2 h4
  have h3:R.st∈(begF opsS (newS n)).reps.map (·.st):=List.mem_map.2 ⟨R,List.mem_of_getElem? hR,rfl⟩
  rw [h1] at h3
  exact(List.mem_replicate.1 h3).2
 have hT:Gk KB [] n (begT n):=gk_do (gk_do (gk_do (zjr (zx3 n h2 h4) 0) 0 5 3 0 9) 0 1 0 5 0) 0 1 4 5 0
 have hF:Gk KB [] n (begF opsS (newS n)):=zlg hT 0 (fun R hR _ _=>by
  have h1:=zvy n h2 h4
  rw [hR,Option.map_some] at h1
  have h3:=Option.some.inj h1
  show csum 0 R.effs=csum 4 R.effs
  rw [(Prod.mk.inj h3).1,(Prod.mk.inj h3).2])
 obtain⟨L,hG⟩:=hF
 refine⟨⟨L,hG.relst fun r=> ?_⟩,fun q R hR=>by rw [hst q R hR];decide,rfl⟩
 have h0:=hG.lst r
 have h0:0<=topB n r (L.getD r []):=h0
 rcases r with _ | r
 ·have hl:0<(begF opsS (newS n)).reps.length:=by rw [hG.rl];omega
  have hR:=List.getElem?_eq_getElem hl
  obtain⟨bs,hL,hRS⟩:=hG.rep 0 _ hR
  have h1:=zy0 n h2 h4
  rw [hR,Option.map_some] at h1
  have h3:=Option.some.inj h1
  have h5:=hRS.top (by rw [hst 0 _ hR];decide)
  show(1:Int)<=topB n 0 (L.getD 0 [])
  rw [List.getD_eq_getElem?_getD,hL]
  show(1:Int)<=topB n 0 bs
  rw [h5,h3]
  exact Int.le_refl _
 ·have e: [(1:Int),0,0,0].getD (r+1) 0=0:=by
   rcases r with _ | _ | _ | r
   ·rfl
   ·rfl
   ·rfl
   ·rfl
  rw [e]
  exact h0
section
variable {w : World} {eb ef : Addr} {n : Nat}
theorem zvr{S:Sto}(hG:Gi n S){own:Clr}{s rg cc pp ch:Nat}{pv:Value}{prs:List Nat}{w':World}(hS:StIn w' own s rg cc pp ch pv prs S)(r:Nat)(hr:r<n):Rl 13 #[sV s,I r] w' (ckS S r,0):=by
 obtain⟨L,hG⟩:=hG
 have hl:r<S.reps.length:=by rw [hG.rl];exact hr
 have hR:=List.getElem?_eq_getElem hl
 obtain⟨bs,hL,hRS⟩:=hG.rep r _ hR
 unfold ckS
 rw [hR]
 exact zpw own s rg cc pp ch pv prs S r _ w' hS hR (by rw [hRS.cl];have:=hRS.n4;omega)
theorem wf_any(hI:zaj)(hg:Gd w)(hgg:Gg w)(hgl:Gl w eb ef)(hpw:Pw w)(h2:2<=n)(h4:n<=4):Wf opsS n w (begF opsS (newS n)) ckS (fun s Z S w'=>Gi n S∧S1 Z w eb ef s S w') (Wi n) where
 apz s:=⟨fun Z=>zs2 hI hg hgg (zx0 Z w eb ef s),fun Z S w' h p hp=>by
   obtain⟨_,own,_,_,h3⟩:=h
   exact(h3 p hp).2,fun Z V S w1 w2 h hb hV=>⟨h.1,h.2.more hb hV⟩,fun V Z S w' h=>⟨h.1,by
   obtain⟨_,own,q1,q2,q3⟩:=h
   exact⟨own,q1,q2,fun p hp=>q3 p (List.mem_append.2 (.inr hp))⟩⟩⟩
 put s S g ob ob' w1 w2 h hT hg':=⟨h.1,h.2.put hT hg'⟩
 bel s Z S w' h:=by
  obtain⟨_,own,q1,_⟩:=h
  exact q1.bel
 beg:=by
  have hen:Env w w (fun _=>0) eb ef:=⟨hgl,hpw,Below.refl _ _,fun _ _=>rfl⟩
  refine zvx (P:=fun s S w'=>Gi n S∧S1 [] w eb ef s S w') (fun s=>zs2 hI hg hgg (zx0 [] w eb ef s)) (beg_any n h2 h4) w ((zv6 (fun _=>0) n w w eb ef hen h2 h4).mono ?_)
  rintro e w' ⟨s,rfl,⟨own',rg,cc,pp,ch,pv,prs,hE,hS,hen',hT⟩,_⟩
  exact⟨s,rfl,zx3 n h2 h4,own',hen',⟨_,_,_,_,_,_,hS⟩,fun p hp=>by cases hp⟩
 w0:=wi_new n h2 h4
 fck s Z S w' r hr h:=by
  obtain⟨hG,own,_,⟨rg,cc,pp,ch,pv,prs,hS⟩,_⟩:=h
  exact zvr hG hS r hr
 fhv l S h r hr:=wi_hv h hr
 ftx l S r x hr h0 h1 h:=wi_tx h hr ⟨h0,h1⟩
 ffl l S r i j hr h:=zy5 h hr i j
 fds l S o h8 h14 h:=zy6 h o h8 h14 (by omega)
theorem ztd(many:Int)(hm:Rg many)(hI:zaj)(hg:Gd w)(hgg:Gg w)(hgl:Gl w eb ef)(hpw:Pw w)(aa:Option Addr)(ca:Nat)(raws:List Sp)(hat:SpAt w aa raws)(hok:∀o∈raws,SpOk o)(hll:raws.length<=9223372036854775807):
  Calls Tryz.prog 4 #[I many, .slice aa raws.length ca] w fun e w'=>e= .returned (.bool true)∧Below w.heap.size w w':=by
 obtain⟨n0,n1⟩:=Wv.pk_lt many 3 (by decide)
 obtain⟨n,hn⟩:∃n:Nat,2+Wv.pk many 3=n:=Int.eq_ofNat_of_zero_le (by omega)
 exact zpt many hm hn.symm (wf_any (eb:=eb) (ef:=ef) hI hg hgg hgl hpw (by omega) (by omega)) (fun xs ys a b ca cb w ha hb hl=>zvb xs ys a b ca cb w ha hb hl) aa ca raws hat hok hll
end
end Go.Proofs.YtfmcngncaffloabGreatDoor
