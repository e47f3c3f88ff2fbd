import Derived.Test.YtfmcngncaffloabGreatDoorG48InD
namespace Go.Proofs.YtfmcngncaffloabGreatDoor
open Go.RowKit
set_option maxRecDepth 100000
section
variable {n r : Nat} {R : Rp}
theorem RU.begin(h:RU n r R):RU n r (zbi R).1:=by
 unfold zbi
 split
 ·exact h
 ·rename_i h1
  split
  ·exact h
  ·rename_i h2
   have hs0:R.st=0:=by rcases h.st with e | e;exact e;exact absurd e h1
   have he:=h.idle hs0
   rw [h.num,Int.toNat_natCast] at h2
   refine⟨h.ok.same rfl rfl rfl rfl rfl,h.cl,h.n2,h.n4,h.rlt,h.num,Or.inr rfl,fun _=>he,fun _=> ?_,h.el,fun j hj=>h.eff j hj,h.obs,h.time,h.held⟩
   have:=(h.ok.getD r).2
   show R.clock.getD r 0<30
   omega
theorem RU.end(h:RU n r R):RU n r (endR R):=
 ⟨h.ok.same rfl rfl rfl rfl rfl,h.cl,h.n2,h.n4,h.rlt,h.num,Or.inl rfl,fun _=>rfl,fun e=>(by cases e),Nat.zero_le _,fun j hj=>(by cases hj),h.obs,h.time,h.held⟩
theorem RU.sync(h:RU n r R):RU n r (syncR R):=
 ⟨h.ok.same rfl rfl rfl rfl rfl,h.cl,h.n2,h.n4,h.rlt,h.num,h.st,h.idle,h.seq,h.el,fun j hj=>h.eff j hj,h.obs,h.time,h.held⟩
theorem RU.put(h:RU n r R)(h1:R.st=1)(hl:R.effs.length<5)(op:Int)(k:Nat)(a b:Int)(o:Ob)(hk8:k<8)(h1':1<=op)(h6:op<=6)(hkd:(k:Int) % 4=Wv.rKind op)(ho:R.obs[k]?=some o)(he:((seeTo (pendB R) k o R.effs.length).answer op a b).err=0)
  (hd1:¬(((seeTo (pendB R) k o R.effs.length).answer op a b).ds.length:Int)<Wv.rLeastD op) (hd2:¬(((seeTo (pendB R) k o R.effs.length).answer op a b).ds.length:Int)>Wv.rMostD op):RU n r (putR R op k a b o):=by
 obtain⟨o',g1,g2,g3⟩:=h.obs k hk8
 obtain rfl:o'=o:=by rw [ho] at g1;exact(Option.some.inj g1).symm
 have hkind:((seeTo (pendB R) k o' R.effs.length).kind:Int)=Wv.rKind op:=by
  have:∀j,(seeTo (pendB R) k o' j).kind=o'.kind:=by
   intro j
   induction j with
   | zero=>rfl
   | succ j ih=>
    rw [seeTo]
    split
    ·split
     ·rw [Ob.take_kind,ih]
     ·exact ih
    ·exact ih
  rw [this,g2];omega
 have hA:=ans_cv (h.see hk8 ho _ (Nat.le_refl _)) h1' h6 hkind a b he
 have hp:(putR R op k a b o').effs=R.effs++ [syE op k ((seeTo (pendB R) k o' R.effs.length).answer op a b)]:=rfl
 refine⟨h.ok.same rfl rfl rfl rfl rfl,h.cl,h.n2,h.n4,h.rlt,h.num,h.st,fun e=> ?_,h.seq, ?_,fun j hj=> ?_,h.obs,h.time,h.held⟩
 ·have e:R.st=0:=e
  omega
 ·rw [hp,List.length_append];simp;omega
 ·simp only [hp] at hj ⊢
  by_cases hq:j<R.effs.length
  ·rw [List.getElem_append_left hq,zk8 (b:=pendB R) (b':=pendB (putR R op k a b o')) rfl rfl rfl];exact h.eff j hq
  ·have hj':j=R.effs.length:=by simp at hj;omega
   subst hj'
   rw [List.getElem_append_right (Nat.le_refl _)]
   simp only [Nat.sub_self,List.getElem_cons_zero]
   rw [zk8 (b:=pendB R) (b':=pendB (putR R op k a b o')) rfl rfl rfl]
   exact zzx hA h1' h6 k hk8 hkd hd1 hd2
theorem RU.held_take(h:RU n r R)(f:Wv.Bt->Bool):(∀x∈(takeP zal f R.held).2,Gb n x)∧(takeP zal f R.held).2.length<=6:=by
 refine⟨fun x hx=>h.held x (za3 _ _ _ x (Or.inr hx)), ?_⟩
 have h1:=zcy zal f R.held
 have h2:=h.ok.most
 omega
theorem RU.commit(h:RU n r R)(h1:R.st=1)(he:R.effs ≠ []):RU n r (zcf R):=by
 have hb:=h.gb h1 he
 have hfl:=zba hb.isB
 have ht:=h.held_take (likeB (pendB R))
 exact(RU.deliver (R:=endR R) h.end hb (zji (R:=R)) hfl ht.1 ht.2 (Or.inr rfl)).sync
theorem RU.heldTo(h:RU n r R){l:List Wv.Bt}(hl:∀x∈l,Gb n x)(h6:l.length<=6):RU n r {R with held:=l}:=
 ⟨h.ok.heldTo (fun x hx=>(hl x hx).isB) h6,h.cl,h.n2,h.n4,h.rlt,h.num,h.st,h.idle,h.seq,h.el,fun j hj=>h.eff j hj,h.obs,h.time,hl⟩
theorem zii{α:Type}{less:α->α->Bool}{f:α->Bool}{bs:List α}{x:α}(h:(takeP less f bs).1=some x):f x=true∧x∈bs:=⟨zij h,za3 less f bs x (Or.inl (by rw [h];simp))⟩
theorem RU.heldR(m:Nat):∀R:Rp,RU n r R->(∀b∈R.held,b.o ≠ r)->RU n r (heldR m R)∧(∀b∈(heldR m R).held,b.o ≠ r):=by
 induction m with
 | zero=>intro R h ho;exact⟨h,ho⟩
 | succ m ih=>
  intro R h ho
  have ht:=h.held_take (dueB R.clock)
  have hm:∀x∈(takeP zal (dueB R.clock) R.held).2,x∈R.held:=fun x hx=>za3 _ _ _ x (Or.inr hx)
  unfold Go.Proofs.YtfmcngncaffloabGreatDoor.heldR
  split
  ·rename_i l e
   have e2:l=(takeP zal (dueB R.clock) R.held).2:=by rw [e]
   subst e2
   exact⟨h.heldTo ht.1 ht.2,fun b hb=>ho b (hm b hb)⟩
  ·rename_i x l e
   have e1:(takeP zal (dueB R.clock) R.held).1=some x:=by rw [e]
   have e2:l=(takeP zal (dueB R.clock) R.held).2:=by rw [e]
   subst e2
   obtain⟨hd,hx⟩:=zii e1
   have hR2:=h.heldTo ht.1 ht.2
   have ht2:=hR2.held_take (likeB x)
   have hgx:=h.held x hx
   have hdel:=RU.deliver h hgx hd (zba hgx.isB) ht2.1 ht2.2 (Or.inl (ho x hx))
   exact ih _ hdel (fun b hb=>ho b (hm b (za3 _ _ _ b (Or.inr hb))))
theorem RU.frame(h:RU n r R)(l:List UInt8)(hg:∀b,Wv.dec l=some b->Gb n b∧(b.o ≠ r∨b.s<=R.clock.getD r 0))(ho:∀b∈R.held,b.o ≠ r):RU n r (zbo R l)∧(∀b∈(zbo R l).held,b.o ≠ r):=by
 unfold zbo
 cases hd:Wv.dec l with
 | none=>exact⟨h,ho⟩
 | some b=>
  obtain⟨hb,hor⟩:=hg b hd
  have hll:=(zgp hd).2
  obtain⟨p1,p2,p3,_⟩:=zat hb.isB
  simp only
  split
  ·exact⟨h,ho⟩
  ·rename_i hn
   have hbo:b.o ≠ r:=by
    rcases hor with q | q
    ·exact q
    ·intro e
     apply hn
     right
     rw [e,Int.toNat_natCast]
     exact q
   split
   ·rename_i hdu
    have ht:=h.held_take (likeB b)
    exact RU.heldR _ _ (RU.deliver h hb hdu (by omega) ht.1 ht.2 (Or.inl hbo)) (fun x hx=>ho x (za3 _ _ _ x (Or.inr hx)))
   ·split
    ·rename_i hq
     refine⟨h.heldTo (fun x hx=> ?_) (by rw [zkt];omega),fun x hx=> ?_⟩
     ·rcases zds _ _ _ x hx with q | q
      ·exact h.held x q
      ·rw [q];exact hb
     ·rcases zds _ _ _ x hx with q | q
      ·exact ho x q
      ·rw [q];exact hbo
    ·exact⟨h,ho⟩
end
theorem RU.new(r n:Nat)(hr:r<n)(h2:2<=n)(h4:n<=4):RU n r (newR r n):=by
 refine⟨Rok.new r n h4,by show(List.replicate n (0:Int)).length=n;simp,h2,h4,hr,rfl,Or.inl rfl,fun _=>rfl,fun e=>(by cases e),Nat.zero_le _,fun j hj=>(by cases hj),fun k hk=> ?_,by show(0:Int)<=_;omega,fun b hb=>(by cases hb)⟩
 have hne:∀C:Wv.Dt->Prop,LvC C []:=fun C=>⟨by simp,fun p hp=>by cases hp⟩
 rcases k with _ | _ | _ | _ | _ | _ | _ | _ | k
 ·exact⟨_,rfl,rfl,trivial⟩
 ·exact⟨_,rfl,rfl,hne _⟩
 ·exact⟨_,rfl,rfl,hne _⟩
 ·exact⟨_,rfl,rfl,fun e he=>by cases he⟩
 ·exact⟨_,rfl,rfl,trivial⟩
 ·exact⟨_,rfl,rfl,hne _⟩
 ·exact⟨_,rfl,rfl,hne _⟩
 ·exact⟨_,rfl,rfl,fun e he=>by cases he⟩
 ·omega
def FrB(bs:List Wv.Bt):List UInt8:=bs.flatMap Wv.frameB
theorem zmu:FrB []= []:=rfl
theorem zbk(b:Wv.Bt)(bs:List Wv.Bt):FrB (b::bs)=Wv.frameB b++FrB bs:=rfl
theorem zea(a b:List Wv.Bt):FrB (a++b)=FrB a++FrB b:=List.flatMap_append
theorem zk4{b:Wv.Bt}(h:Wv.isB b=true):15<=(Wv.frameB b).length∧Wv.num2 (Wv.frameB b)=(Wv.frameB b).length:=by
 obtain⟨h1,h2,h3,h4⟩:=Wv.frame_len b h
 exact⟨by omega,h2⟩
theorem znx(a r:List UInt8)(h:2<=a.length):Wv.num2 (a++r)=Wv.num2 a:=by
 unfold Wv.num2
 have e0:(a++r).getD 0 0=a.getD 0 0:=by simp [List.getElem?_append_left (show 0<a.length by omega)]
 have e1:(a++r).getD 1 0=a.getD 1 0:=by simp [List.getElem?_append_left (show 1<a.length by omega)]
 rw [e0,e1]
theorem zg8{b:Wv.Bt}(h:Wv.isB b=true)(r:List UInt8):fstB (Wv.frameB b++r)=Wv.frameB b:=by
 obtain⟨h1,h2⟩:=zk4 h
 unfold fstB
 rw [Wv.two_first _ (by rw [List.length_append];omega),znx _ _ (by omega),h2,Int.toNat_natCast,List.take_left]
def NoFr(l:List UInt8):Prop:=Wv.dec (fstB l)=none
theorem zi3:NoFr []:=by
 unfold NoFr Wv.dec fstB
 simp
theorem zwv{b:Wv.Bt}(h:Wv.isB b=true)(m:Nat)(hm:m<(Wv.frameB b).length):NoFr ((Wv.frameB b).take m):=by
 obtain⟨h1,h2⟩:=zk4 h
 have hl:((Wv.frameB b).take m).length=m:=by rw [List.length_take];omega
 unfold NoFr
 by_cases hm2:m<4
 ·have hf:=zh7 ((Wv.frameB b).take m)
  unfold Wv.dec
  rw [if_neg (by omega)]
 ·have e1:Wv.num2 ((Wv.frameB b).take m)=(Wv.frameB b).length:=by
   have:=znx ((Wv.frameB b).take m) ((Wv.frameB b).drop m) (by omega)
   rw [List.take_append_drop] at this
   rw [←this]
   exact h2
  have e2:fstB ((Wv.frameB b).take m)=(Wv.frameB b).take m:=by
   unfold fstB
   rw [Wv.two_first _ (by omega),e1,Int.toNat_natCast,List.take_of_length_le (by omega)]
  rw [e2]
  unfold Wv.dec
  rw [if_neg (by rw [e1,hl];omega)]
theorem zhh:∀(bs:List Wv.Bt),(∀b∈bs,Wv.isB b=true)->∀m,∃k tl,k<=bs.length∧(FrB bs).take m=FrB (bs.take k)++tl∧NoFr tl∧∀j,j<=bs.length->(FrB (bs.take j)).length<=m->j<=k
 | [],_,m=>⟨0, [],Nat.le_refl _,by simp [FrB],zi3,fun j hj _=>by simpa using hj⟩
 | b::bs,hb,m=>by
  have hib:=hb b (by simp)
  by_cases hm:m<(Wv.frameB b).length
  ·refine⟨0,(Wv.frameB b).take m,Nat.zero_le _, ?_,zwv hib m hm,fun j hj hl=> ?_⟩
   ·rw [zbk,List.take_append_of_le_length (by omega)]
    rfl
   ·rcases j with _ | j
    ·exact Nat.le_refl _
    ·rw [List.take_succ_cons,zbk,List.length_append] at hl
     omega
  ·obtain⟨k,tl,h1,h2,h3,h4⟩:=zhh bs (fun x hx=>hb x (by simp [hx])) (m - (Wv.frameB b).length)
   refine⟨k+1,tl,by simpa using h1, ?_,h3,fun j hj hl=> ?_⟩
   ·rw [zbk,List.take_append,List.take_of_length_le (by omega),h2,List.take_succ_cons,zbk,List.append_assoc]
   ·rcases j with _ | j
    ·exact Nat.zero_le _
    ·rw [List.take_succ_cons,zbk,List.length_append] at hl
     have:=h4 j (by simpa using hj) (by omega)
     omega
def runC(c:List Int):List Wv.Bt->List Int
 | []=>c
 | b::bs=>runC (c.set b.o.toNat b.s) bs
def dueS(c:List Int):List Wv.Bt->Prop
 | []=>True
 | b::bs=>dueB c b=true∧dueS (c.set b.o.toNat b.s) bs
theorem zcn(c:List Int):∀(a b:List Wv.Bt),runC c (a++b)=runC (runC c a) b
 | [],_=>rfl
 | x::a,b=>by rw [List.cons_append,runC,runC];exact zcn _ a b
theorem zdz:∀(c:List Int) (a b:List Wv.Bt),dueS c (a++b)↔dueS c a∧dueS (runC c a) b
 | c, [],b=>by simp [dueS,runC]
 | c,x::a,b=>by
  rw [List.cons_append,dueS,dueS,runC,zdz _ a b,and_assoc]
theorem zk9{c:List Int}{bs:List Wv.Bt}(h:dueS c bs)(k:Nat):dueS c (bs.take k):=by
 rw [←List.take_append_drop k bs,zdz] at h
 exact h.1
theorem zgw{n r:Nat}:∀(bs:List Wv.Bt) (tl:List UInt8) (R:Rp) (m:Nat),(∀b∈bs,Gb n b)->NoFr tl->dueS R.clock bs->RU n r R->R.st=0->R.held= []->(FrB bs++tl).length<=m->
  RU n r (za5 m R (FrB bs++tl))∧(za5 m R (FrB bs++tl)).log=R.log++FrB bs∧(za5 m R (FrB bs++tl)).clock=runC R.clock bs∧(za5 m R (FrB bs++tl)).st=0∧(za5 m R (FrB bs++tl)).held= []∧(za5 m R (FrB bs++tl)).effs=R.effs
 | [],tl,R,m,_,ht,_,hR,hst,hh,_=>by
  rw [zmu,List.nil_append,zhj ht]
  exact⟨hR,by simp,rfl,hst,hh,rfl⟩
 | b::bs,tl,R,m,hb,ht,hd,hR,hst,hh,hm=>by
  have hgb:=hb b (by simp)
  have e1:fstB (FrB (b::bs)++tl)=Wv.frameB b:=by rw [zbk,List.append_assoc,zg8 hgb.isB]
  have e2:Wv.dec (fstB (FrB (b::bs)++tl))=some b:=by rw [e1];exact Wv.dec_frame b hgb.isB
  have e3:(FrB (b::bs)++tl).drop (fstB (FrB (b::bs)++tl)).length=FrB bs++tl:=by rw [e1,zbk,List.append_assoc,List.drop_left]
  obtain⟨m2,hm2,hr⟩:=ziv (n:=m) (R:=R) e2 hd.1 hm
  rw [e3] at hm2 hr
  rw [e1] at hr
  rw [←hr]
  have hR2:=RU.deliver (fr:=Wv.frameB b) (hs:= []) hR hgb hd.1 (zba hgb.isB) (fun x hx=>by cases hx) (by simp) (Or.inr hst)
  obtain⟨g1,g2,g3,g4,g5,g6⟩:=zgw bs tl (zap R b (Wv.frameB b) []) m2 (fun x hx=>hb x (by simp [hx])) ht hd.2 hR2 hst rfl hm2
  refine⟨g1, ?_,g3,g4,g5,g6⟩
  rw [g2,zbk]
  show(R.log++Wv.frameB b)++FrB bs=R.log++(Wv.frameB b++FrB bs)
  rw [List.append_assoc]
theorem zhm{n:Nat}:∀(bs:List Wv.Bt) (tl:List UInt8),(∀b∈bs,Gb n b)->NoFr tl->LogN n (FrB bs++tl)
 | [],tl,_,ht=>fun m p hp=>by
  rw [zmu,List.nil_append] at hp
  cases m with
  | zero=>cases hp
  | succ m=>
   have ht:Wv.dec (fstB tl)=none:=ht
   rw [allN,ht] at hp
   cases hp
 | b::bs,tl,hb,ht=>fun m p hp=>by
  have hgb:=hb b (by simp)
  have e1:fstB (FrB (b::bs)++tl)=Wv.frameB b:=by rw [zbk,List.append_assoc,zg8 hgb.isB]
  have e2:Wv.dec (fstB (FrB (b::bs)++tl))=some b:=by rw [e1];exact Wv.dec_frame b hgb.isB
  have e3:(FrB (b::bs)++tl).drop (fstB (FrB (b::bs)++tl)).length=FrB bs++tl:=by rw [e1,zbk,List.append_assoc,List.drop_left]
  cases m with
  | zero=>cases hp
  | succ m=>
   rw [allN,e2] at hp
   simp only [e3,List.mem_cons] at hp
   rcases hp with q | q
   ·rw [q];exact hgb.cl
   ·exact zhm bs tl (fun x hx=>hb x (by simp [hx])) ht m p q
structure Dlv(r:Nat)(R R':Rp)(ds:List Wv.Bt):Prop where
 log:R'.log=R.log++FrB ds
 clk:R'.clock=runC R.clock ds
 due:dueS R.clock ds
 syn:R'.synced=R.synced
 st:R'.st=R.st
 no:∀b∈ds,b.o ≠ r
theorem Dlv.refl(r:Nat)(R:Rp):Dlv r R R []:=⟨by simp [FrB],rfl,trivial,rfl,rfl,fun b hb=>by cases hb⟩
theorem Dlv.held{r:Nat}{R R':Rp}{ds:List Wv.Bt}(h:Dlv r R R' ds)(l:List Wv.Bt):Dlv r R {R' with held:=l} ds:=⟨h.log,h.clk,h.due,h.syn,h.st,h.no⟩
theorem Dlv.one{r:Nat}{R R':Rp}{ds:List Wv.Bt}{b:Wv.Bt}{hs:List Wv.Bt}(hd:dueB R.clock b=true)(hb:b.o ≠ r)(h:Dlv r (zap R b (Wv.frameB b) hs) R' ds):Dlv r R R' (b::ds):=by
 refine⟨?_,h.clk,⟨hd,h.due⟩,h.syn,h.st,fun x hx=> ?_⟩
 ·rw [h.log,zbk]
  show(R.log++Wv.frameB b)++FrB ds=R.log++(Wv.frameB b++FrB ds)
  rw [List.append_assoc]
 ·rcases List.mem_cons.1 hx with q | q
  ·rw [q];exact hb
  ·exact h.no x q
theorem zuj{r:Nat}(P:Wv.Bt->Prop)(m:Nat):∀R:Rp,(∀b∈R.held,b.o ≠ r∧P b)->∃ds,Dlv r R (heldR m R) ds∧(∀x∈ds,P x)∧(∀x∈(heldR m R).held,P x):=by
 induction m with
 | zero=>intro R h;exact⟨[],Dlv.refl r R,fun x hx=>(by cases hx),fun x hx=>(h x hx).2⟩
 | succ m ih=>
  intro R ho
  have hm:∀x∈(takeP zal (dueB R.clock) R.held).2,x∈R.held:=fun x hx=>za3 _ _ _ x (Or.inr hx)
  unfold heldR
  split
  ·rename_i l e
   have e2:l=(takeP zal (dueB R.clock) R.held).2:=by rw [e]
   subst e2
   exact⟨[],(Dlv.refl r R).held _,fun x hx=>(by cases hx),fun x hx=>(ho x (hm x hx)).2⟩
  ·rename_i x l e
   have e1:(takeP zal (dueB R.clock) R.held).1=some x:=by rw [e]
   have e2:l=(takeP zal (dueB R.clock) R.held).2:=by rw [e]
   subst e2
   obtain⟨hd,hx⟩:=zii e1
   obtain⟨ds,h1,h2,h3⟩:=ih (zap R x (Wv.frameB x) (takeP zal (likeB x) (takeP zal (dueB R.clock) R.held).2).2) (fun b hb=>ho b (hm b (za3 _ _ _ b (Or.inr hb))))
   refine⟨x::ds,Dlv.one hd (ho x hx).1 h1,fun y hy=> ?_,h3⟩
   rcases List.mem_cons.1 hy with q | q
   ·rw [q];exact(ho x hx).2
   ·exact h2 y q
theorem zq4{n r:Nat}{R:Rp}(P:Wv.Bt->Prop)(b:Wv.Bt)(hb:Gb n b)(hbo:b.o ≠ r∨b.s<=R.clock.getD r 0)(hP:P b)(ho:∀x∈R.held,x.o ≠ r∧P x):∃ds,Dlv r R (zbo R (Wv.frameB b)) ds∧(∀x∈ds,P x)∧(∀x∈(zbo R (Wv.frameB b)).held,P x):=by
 have e:=Wv.dec_frame b hb.isB
 unfold zbo
 rw [e]
 simp only
 split
 ·exact⟨[],Dlv.refl r R,fun x hx=>(by cases hx),fun x hx=>(ho x hx).2⟩
 ·rename_i hn
  have hbr:b.o ≠ r:=by
   rcases hbo with q | q
   ·exact q
   ·intro e
    apply hn
    right
    rw [e,Int.toNat_natCast]
    exact q
  split
  ·rename_i hd
   obtain⟨ds,h1,h2,h3⟩:=zuj P ((takeP zal (likeB b) R.held).2.length+1) (zap R b (Wv.frameB b) (takeP zal (likeB b) R.held).2) (fun x hx=>ho x (za3 _ _ _ x (Or.inr hx)))
   refine⟨b::ds,Dlv.one hd hbr h1,fun y hy=> ?_,h3⟩
   rcases List.mem_cons.1 hy with q | q
   ·rw [q];exact hP
   ·exact h2 y q
  ·split
   ·refine⟨[],(Dlv.refl r R).held _,fun x hx=>(by cases hx),fun x hx=> ?_⟩
    rcases zds _ _ _ x hx with q | q
    ·exact(ho x q).2
    ·rw [q];exact hP
   ·exact⟨[],Dlv.refl r R,fun x hx=>(by cases hx),fun x hx=>(ho x hx).2⟩
def zer(n:Nat):List Int:=List.replicate n 0
structure RS(n r:Nat)(R:Rp)(bs:List Wv.Bt):Prop where
 gb:∀b∈bs,Gb n b
 due:dueS (zer n) bs
 n2:2<=n
 n4:n<=4
 rlt:r<n
 num:R.n=r
 cl:R.clock.length=n
 up:R.st ≠ 2->RU n r R∧R.log=FrB bs∧runC (zer n) bs=R.clock∧(∃j,j<=bs.length∧R.synced=((FrB (bs.take j)).length:Nat)∧∀b∈bs.drop j,b.o ≠ r)∧∀b∈R.held,b.o ≠ r
 down:R.st=2->(∃tl,R.log=FrB bs++tl∧NoFr tl)∧R.log.length<=9000000∧R.held= []∧R.synced=R.log.length
def topB(n r:Nat)(bs:List Wv.Bt):Int:=(runC (zer n) bs).getD r 0
section
variable {n r : Nat} {R : Rp} {bs : List Wv.Bt}
theorem RS.top(h:RS n r R bs)(hu:R.st ≠ 2):topB n r bs=R.clock.getD r 0:=by unfold topB;rw [(h.up hu).2.2.1]
theorem RS.rlg(h:RS n r R bs)(hu:R.st ≠ 2):Rlg n R:=by
 obtain⟨h1,h2,_⟩:=h.up hu
 have h3:=h.n2
 refine⟨h1.ok,h1.cl,h1.n4,by omega, ?_⟩
 have:=zhm bs [] h.gb zi3
 rw [List.append_nil] at this
 rw [h2]
 exact this
theorem RS.same(h:RS n r R bs)(hu:R.st ≠ 2){R':Rp}(hR:RU n r R')(e1:R'.log=R.log)(e2:R'.clock=R.clock)(e3:R'.held=R.held)(e4:R'.synced=R.synced∨R'.synced=R.log.length):RS n r R' bs:=by
 obtain⟨h1,h2,h3,⟨j,j1,j2,j3⟩,h5⟩:=h.up hu
 refine⟨h.gb,h.due,h.n2,h.n4,h.rlt,hR.num,hR.cl,fun _=>⟨hR,e1.trans h2,by rw [e2];exact h3, ?_,by rw [e3];exact h5⟩,fun e=> ?_⟩
 ·rcases e4 with e4 | e4
  ·exact⟨j,j1,e4.trans j2,j3⟩
  ·exact⟨bs.length,Nat.le_refl _,by rw [e4,h2,List.take_length],fun b hb=>by simp at hb⟩
 ·rcases hR.st with q | q<;>omega
theorem RS.dlv(h:RS n r R bs)(hu:R.st ≠ 2){R':Rp}{ds:List Wv.Bt}(hR:RU n r R')(hd:Dlv r R R' ds)(hg:∀b∈ds,Gb n b)(hh:∀b∈R'.held,b.o ≠ r):RS n r R' (bs++ds):=by
 obtain⟨h1,h2,h3,⟨j,j1,j2,j3⟩,h5⟩:=h.up hu
 refine⟨fun b hb=> ?_,(zdz _ _ _).2 ⟨h.due,by rw [h3];exact hd.due⟩,h.n2,h.n4,h.rlt,hR.num,hR.cl,fun _=>⟨hR,by rw [hd.log,h2,zea],by rw [zcn,h3,hd.clk],⟨j,by rw [List.length_append];omega, ?_,fun b hb=> ?_⟩,hh⟩,fun e=> ?_⟩
 ·rcases List.mem_append.1 hb with q | q
  ·exact h.gb b q
  ·exact hg b q
 ·rw [hd.syn,j2,List.take_append_of_le_length j1]
 ·rw [List.drop_append_of_le_length j1] at hb
  rcases List.mem_append.1 hb with q | q
  ·exact j3 b q
  ·exact hd.no b q
 ·rw [hd.st] at e
  exact absurd e hu
theorem RS.commit(h:RS n r R bs)(h1:R.st=1)(he:R.effs ≠ []):RS n r (zcf R) (bs++ [pendB R]):=by
 have hu:R.st ≠ 2:=by omega
 obtain⟨g1,g2,g3,_,g5⟩:=h.up hu
 have hR:=g1.commit h1 he
 have hb:=g1.gb h1 he
 have hl:(zcf R).log=FrB (bs++ [pendB R]):=by
  show R.log++Wv.frameB (pendB R)=_
  rw [g2,zea]
  simp [FrB]
 refine⟨fun b hb'=> ?_,(zdz _ _ _).2 ⟨h.due,by rw [g3];exact⟨zji (R:=R),trivial⟩⟩,h.n2,h.n4,h.rlt,hR.num,hR.cl,fun _=>⟨hR,hl,by rw [zcn,g3];rfl,⟨(bs++ [pendB R]).length,Nat.le_refl _, ?_,fun b hb=>by simp at hb⟩,fun b hb=>g5 b (za3 _ _ _ b (Or.inr hb))⟩,fun e=> ?_⟩
 ·rcases List.mem_append.1 hb' with q | q
  ·exact h.gb b q
  ·rw [List.mem_singleton.1 q];exact hb
 ·rw [List.take_length,←hl]
  rfl
 ·rcases hR.st with q | q<;>omega
theorem zl4{n r:Nat}:∀(ds:List Wv.Bt) (c:List Int),(∀b∈ds,Gb n b)->dueS c ds->c.getD r 0<=(runC c ds).getD r 0
 | [],c,_,_=>Int.le_refl _
 | b::ds,c,hg,hd=>by
  obtain⟨p1,p2,p3,_⟩:=zat (hg b (by simp)).isB
  have h1:=(zx5 hd.1 p2 p3).2 r
  have h2:=zl4 (r:=r) ds (c.set b.o.toNat b.s) (fun x hx=>hg x (by simp [hx])) hd.2
  rw [runC]
  omega
theorem zr3{n r:Nat}:∀(ds:List Wv.Bt) (c:List Int),(∀b∈ds,Gb n b)->(∀b∈ds,b.o ≠ r)->(runC c ds).getD r 0=c.getD r 0
 | [],c,_,_=>rfl
 | b::ds,c,hg,hn=>by
  obtain⟨p1,p2,p3,_⟩:=zat (hg b (by simp)).isB
  have h1:=hn b (by simp)
  rw [runC,zr3 ds _ (fun x hx=>hg x (by simp [hx])) (fun x hx=>hn x (by simp [hx])),List.getD_eq_getElem?_getD,List.getElem?_set_ne (by omega),←List.getD_eq_getElem?_getD]
theorem zs2{n r:Nat}{bs:List Wv.Bt}(hg:∀b∈bs,Gb n b)(hd:dueS (zer n) bs){j i:Nat}(hij:j<=i):topB n r (bs.take j)<=topB n r (bs.take i):=by
 have e:bs.take i=bs.take j++(bs.take i).drop j:=by
  have:=List.take_append_drop j (bs.take i)
  rw [List.take_take,Nat.min_eq_left hij] at this
  exact this.symm
 have hd2:=zk9 hd i
 rw [e] at hd2 ⊢
 unfold topB
 rw [zcn]
 exact zl4 _ _ (fun x hx=>hg x (List.mem_of_mem_take (List.mem_of_mem_drop hx))) ((zdz _ _ _).1 hd2).2
theorem RS.cut(h:RS n r R bs)(hu:R.st ≠ 2){bs2:List Wv.Bt}{lg:List UInt8}(hb2:∀b∈bs2,Gb n b)(hd2:dueS (zer n) (bs++bs2))(hlg:lg=FrB (bs++bs2))(hll:lg.length<=9000000)(k:Int):∃i,RS n r (zb4 {R with log:=lg} k) ((bs++bs2).take i)∧topB n r bs<=topB n r ((bs++bs2).take i):=by
 obtain⟨h1,h2,h3,⟨j,j1,j2,j3⟩,h5⟩:=h.up hu
 have hg:∀b∈bs++bs2,Gb n b:=fun b hb=>by
  rcases List.mem_append.1 hb with q | q
  ·exact h.gb b q
  ·exact hb2 b q
 have hjl:(FrB (bs.take j)).length<=lg.length:=by
  rw [hlg]
  have:FrB (bs++bs2)=FrB (bs.take j)++(FrB (bs.drop j)++FrB bs2):=by
   rw [←List.append_assoc,←zea,List.take_append_drop,←zea]
  rw [this,List.length_append]
  omega
 obtain⟨m,hm⟩:∃m,cutN {R with log:=lg} k=m:=⟨_,rfl⟩
 have hm1:(FrB (bs.take j)).length<=m∧m<=lg.length:=by
  have:cutN {R with log:=lg} k=(R.synced+min (max k 0) ((lg.length:Int) - R.synced)).toNat:=rfl
  rw [this] at hm
  rw [j2] at hm
  omega
 obtain⟨i,tl,k1,k2,k3,k4⟩:=zhh (bs++bs2) (fun b hb=>(hg b hb).isB) m
 have hji:j<=i:=k4 j (by rw [List.length_append];omega) (by rw [List.take_append_of_le_length j1];exact hm1.1)
 have hlog:(zb4 {R with log:=lg} k).log=FrB ((bs++bs2).take i)++tl:=by
  show lg.take (cutN {R with log:=lg} k)=_
  rw [hm,hlg,k2]
 have hlen:(lg.take m).length=m:=by rw [List.length_take];omega
 refine⟨i,⟨fun b hb=>hg b (List.mem_of_mem_take hb),zk9 hd2 i,h.n2,h.n4,h.rlt,h.num,h.cl,fun e=>absurd rfl e,fun _=>⟨⟨tl,hlog,k3⟩, ?_,rfl, ?_⟩⟩, ?_⟩
 ·show(lg.take (cutN {R with log:=lg} k)).length<=9000000
  rw [hm,hlen]
  omega
 ·show((cutN {R with log:=lg} k:Nat):Int)=((lg.take (cutN {R with log:=lg} k)).length:Nat)
  rw [hm,hlen]
 ·have e1:topB n r bs=topB n r (bs.take j):=by
   unfold topB
   conv=>lhs;rw [←List.take_append_drop j bs,zcn]
   exact zr3 _ _ (fun x hx=>h.gb x (List.mem_of_mem_drop hx)) j3
  rw [e1]
  have:=zs2 (r:=r) hg hd2 hji
  rw [List.take_append_of_le_length j1] at this
  exact this
theorem RS.restart(h:RS n r R bs)(hd:R.st=2):RS n r (zce R) bs:=by
 obtain⟨⟨tl,t1,t2⟩,t3,t4,t5⟩:=h.down hd
 have hn:R.n.toNat=r:=by rw [h.num,Int.toNat_natCast]
 have hz:(newR r n).clock=zer n:=rfl
 obtain⟨g1,g2,g3,g4,g5,g6⟩:=zgw (r:=r) bs tl (newR r n) R.log.length h.gb t2 (by rw [hz];exact h.due) (RU.new r n h.rlt h.n2 h.n4) rfl rfl (by rw [t1];exact Nat.le_refl _)
 rw [←t1] at g1 g2 g3 g4 g5 g6
 have e:zce R=syncR (za5 R.log.length (newR r n) R.log):=by unfold zce;rw [hn,h.cl]
 rw [e]
 have hl:(syncR (za5 R.log.length (newR r n) R.log)).log=FrB bs:=by show(za5 R.log.length (newR r n) R.log).log=_;rw [g2];show []++FrB bs=_;simp
 refine⟨h.gb,h.due,h.n2,h.n4,h.rlt,g1.sync.num,g1.sync.cl,fun _=>⟨g1.sync,hl,g3.symm,⟨bs.length,Nat.le_refl _, ?_,fun b hb=>by simp at hb⟩,fun b hb=> ?_⟩,fun e2=> ?_⟩
 ·rw [List.take_length,←hl]
  rfl
 ·have hb:b∈(za5 R.log.length (newR r n) R.log).held:=hb
  rw [g5] at hb
  cases hb
 ·have e2:(za5 R.log.length (newR r n) R.log).st=2:=e2
  omega
end
def Tp(n:Nat)(L:List (List Wv.Bt))(b:Wv.Bt):Prop:=b.s<=topB n b.o.toNat (L.getD b.o.toNat [])
structure MG(n:Nat)(L:List (List Wv.Bt))(m:Ms):Prop where
 t0:0<=m.t
 t1:m.t<n
 f0:0<=m.f
 f1:m.f<n
 kind:m.k=1∨m.k=2
 len:m.bs.length<=70000
 fr:m.k=1->m.sp=false->∃b,Gb n b∧Tp n L b∧m.bs=Wv.frameB b
 sp:m.k=1->m.sp=true->Wv.dec m.bs=none
structure GI(n:Nat)(S:Sto)(L:List (List Wv.Bt)):Prop where
 rl:S.reps.length=n
 ll:L.length=n
 n2:2<=n
 n4:n<=4
 rep:∀(r:Nat) R,S.reps[r]?=some R->∃bs,L[r]?=some bs∧RS n r R bs
 top:∀bs∈L,∀b∈bs,Tp n L b
 held:∀R∈S.reps,∀b∈R.held,Tp n L b
 msg:∀m∈S.msgs,MG n L m
section
variable {n : Nat} {S : Sto} {L : List (List Wv.Bt)}
theorem Tp.up{r:Nat}{bs bs':List Wv.Bt}{b:Wv.Bt}(h:Tp n L b)(hL:L[r]?=some bs)(hle:topB n r bs<=topB n r bs'):Tp n (L.set r bs') b:=by
 obtain⟨hr,hrb⟩:=List.getElem?_eq_some_iff.1 hL
 unfold Tp at h ⊢
 by_cases e:b.o.toNat=r
 ·have e1:L.getD b.o.toNat []=bs:=by rw [e,List.getD_eq_getElem?_getD,hL];rfl
  have e2:(L.set r bs').getD b.o.toNat []=bs':=by rw [e,List.getD_eq_getElem?_getD,List.getElem?_set_self hr];rfl
  rw [e1,e] at h
  rw [e2,e]
  exact Int.le_trans h hle
 ·have e2:(L.set r bs').getD b.o.toNat []=L.getD b.o.toNat []:=by rw [List.getD_eq_getElem?_getD,List.getElem?_set_ne (fun q=>e q.symm),←List.getD_eq_getElem?_getD]
  rw [e2]
  exact h
theorem MG.up{r:Nat}{bs bs':List Wv.Bt}{m:Ms}(h:MG n L m)(hL:L[r]?=some bs)(hle:topB n r bs<=topB n r bs'):MG n (L.set r bs') m:=
 ⟨h.t0,h.t1,h.f0,h.f1,h.kind,h.len,fun a b=>(h.fr a b).imp fun _ q=>⟨q.1,q.2.1.up hL hle,q.2.2⟩,h.sp⟩
theorem GI.set(h:GI n S L){r:Nat}{R R':Rp}{bs bs':List Wv.Bt}(hR:S.reps[r]?=some R)(hL:L[r]?=some bs)(hle:topB n r bs<=topB n r bs')(hS:RS n r R' bs')(hb:∀b∈bs',Tp n (L.set r bs') b)(hh:∀b∈R'.held,Tp n (L.set r bs') b):GI n {S with reps:=S.reps.set r R'} (L.set r bs'):=by
 obtain⟨hr,_⟩:=List.getElem?_eq_some_iff.1 hR
 obtain⟨hr2,_⟩:=List.getElem?_eq_some_iff.1 hL
 refine⟨by rw [List.length_set];exact h.rl,by rw [List.length_set];exact h.ll,h.n2,h.n4,fun q Q hQ=> ?_,fun c hc b hb'=> ?_,fun Q hQ b hb'=> ?_,fun m hm=>(h.msg m hm).up hL hle⟩
 ·have hQ:(S.reps.set r R')[q]?=some Q:=hQ
  by_cases e:r=q
  ·subst e
   rw [List.getElem?_set_self hr] at hQ
   cases hQ
   exact⟨bs',List.getElem?_set_self hr2,hS⟩
  ·rw [List.getElem?_set_ne e] at hQ
   obtain⟨c,h1,h2⟩:=h.rep q Q hQ
   exact⟨c,by rw [List.getElem?_set_ne e];exact h1,h2⟩
 ·rcases List.mem_or_eq_of_mem_set hc with q | q
  ·exact(h.top c q b hb').up hL hle
  ·rw [q] at hb';exact hb b hb'
 ·have hQ:Q∈S.reps.set r R':=hQ
  rcases List.mem_or_eq_of_mem_set hQ with q | q
  ·exact(h.held Q q b hb').up hL hle
  ·rw [q] at hb';exact hh b hb'
theorem ziq{L:List (List Wv.Bt)}{r:Nat}{bs:List Wv.Bt}(hL:L[r]?=some bs):L.set r bs=L:=by
 obtain⟨hr,hrb⟩:=List.getElem?_eq_some_iff.1 hL
 rw [←hrb]
 exact List.set_getElem_self hr
theorem GI.same(h:GI n S L){r:Nat}{R R':Rp}{bs:List Wv.Bt}(hR:S.reps[r]?=some R)(hL:L[r]?=some bs)(hS:RS n r R' bs)(hh:∀b∈R'.held,b∈R.held):GI n {S with reps:=S.reps.set r R'} L:=by
 have h1:=h.set hR hL (Int.le_refl _) hS (fun b hb=>by rw [ziq hL];exact h.top bs (List.mem_of_getElem? hL) b hb) (fun b hb=>by rw [ziq hL];exact h.held R (List.mem_of_getElem? hR) b (hh b hb))
 rw [ziq hL] at h1
 exact h1
theorem GI.msgs(h:GI n S L){ms:List Ms}(hm:∀m∈ms,MG n L m):GI n {S with msgs:=ms} L:=⟨h.rl,h.ll,h.n2,h.n4,h.rep,h.top,h.held,hm⟩
theorem zgt{ms:List Ms}{x m:Ms}(h:m∈addM ms x):m∈ms∨m=x:=by
 unfold addM at h
 split at h
 ·rcases List.mem_append.1 h with q | q
  ·exact Or.inl q
  ·exact Or.inr (List.mem_singleton.1 q)
 ·exact Or.inl h
theorem GI.commit(h:GI n S L){r:Nat}{R:Rp}{bs:List Wv.Bt}(hR:S.reps[r]?=some R)(hL:L[r]?=some bs)(hS:RS n r R bs)(h1:R.st=1)(he:R.effs ≠ []):GI n ⟨S.reps.set r (zcf R),sprA S.msgs r (Wv.frameB (pendB R)) S.reps.length⟩ (L.set r (bs++ [pendB R])):=by
 have hu:R.st ≠ 2:=by omega
 obtain⟨g1,g2,g3,_,g5⟩:=hS.up hu
 obtain⟨hr2,_⟩:=List.getElem?_eq_some_iff.1 hL
 have hc:=hS.commit h1 he
 have hgb:=g1.gb h1 he
 have hrl:=hS.rlt
 have htop:topB n r (bs++ [pendB R])=(pendB R).s:=by
  unfold topB
  rw [zcn,g3]
  show(R.clock.set (pendB R).o.toNat (pendB R).s).getD r 0=_
  rw [g1.p1,Int.toNat_natCast,zdp _ _ _ _ (by rw [hS.cl];exact hrl),if_pos rfl]
 have hle:topB n r bs<=topB n r (bs++ [pendB R]):=by
  rw [htop,hS.top hu,g1.p2]
  omega
 have hTp:Tp n (L.set r (bs++ [pendB R])) (pendB R):=by
  unfold Tp
  rw [g1.p1,Int.toNat_natCast,List.getD_eq_getElem?_getD,List.getElem?_set_self hr2]
  show(pendB R).s<=topB n r (bs++ [pendB R])
  rw [htop]
  exact Int.le_refl _
 have hset:=h.set hR hL hle hc (fun b hb=> ?_) (fun b hb=> ?_)
 ·refine GI.msgs (S:={S with reps:=S.reps.set r (zcf R)}) hset (fun m hm=> ?_)
  have key:∀k,k<=n->∀m∈sprA S.msgs r (Wv.frameB (pendB R)) k,MG n (L.set r (bs++ [pendB R])) m:=by
   intro k
   induction k with
   | zero=>intro _ m hm;exact(h.msg m hm).up hL hle
   | succ k ih=>
    intro hk m hm
    rw [sprA] at hm
    split at hm
    ·exact ih (by omega) m hm
    ·rcases zgt hm with q | q
     ·exact ih (by omega) m q
     ·rw [q]
      exact⟨by show(0:Int)<=(k:Int);omega,by show(k:Int)<n;omega,by show(0:Int)<=(r:Int);omega,by show(r:Int)<n;omega,Or.inl rfl,zba hgb.isB,fun _ _=>⟨pendB R,hgb,hTp,rfl⟩,fun _ e=>(by cases e)⟩
  rw [h.rl] at hm
  exact key n (Nat.le_refl _) m hm
 ·rcases List.mem_append.1 hb with q | q
  ·exact(h.top bs (List.mem_of_getElem? hL) b q).up hL hle
  ·rw [List.mem_singleton.1 q];exact hTp
 ·exact(h.held R (List.mem_of_getElem? hR) b (za3 _ _ _ b (Or.inr hb))).up hL hle
theorem GI.frame(h:GI n S L){r:Nat}{R:Rp}{bs:List Wv.Bt}(hR:S.reps[r]?=some R)(hL:L[r]?=some bs)(hS:RS n r R bs)(hu:R.st ≠ 2){l:List UInt8}(hl:Wv.dec l=none∨∃b,Gb n b∧Tp n L b∧l=Wv.frameB b):∃L',GI n {S with reps:=S.reps.set r (zbo R l)} L':=by
 obtain⟨g1,g2,g3,_,g5⟩:=hS.up hu
 rcases hl with hn | ⟨b,hgb,htp,rfl⟩
 ·rw [zhq hn]
  exact⟨L,h.same hR hL hS (fun b hb=>hb)⟩
 ·have hbo:b.o ≠ r∨b.s<=R.clock.getD r 0:=by
   by_cases e:b.o=r
   ·right
    unfold Tp at htp
    rw [e,Int.toNat_natCast,List.getD_eq_getElem?_getD,hL] at htp
    have htp:b.s<=topB n r bs:=htp
    rw [hS.top hu] at htp
    exact htp
   ·exact Or.inl e
  obtain⟨ds,d1,d2,d3⟩:=zq4 (n:=n) (r:=r) (R:=R) (fun x=>Gb n x∧Tp n L x) b hgb hbo ⟨hgb,htp⟩ (fun x hx=>⟨g5 x hx,g1.held x hx,h.held R (List.mem_of_getElem? hR) x hx⟩)
  obtain⟨f1,f2⟩:=g1.frame (Wv.frameB b) (fun b' hb'=>by
   rw [Wv.dec_frame b hgb.isB] at hb'
   cases hb'
   exact⟨hgb,hbo⟩) g5
  have hS':=hS.dlv hu f1 d1 (fun x hx=>(d2 x hx).1) f2
  have hle:topB n r bs<=topB n r (bs++ds):=by
   unfold topB
   rw [zcn]
   exact zl4 ds _ (fun x hx=>(d2 x hx).1) (by rw [g3];exact d1.due)
  refine⟨_,h.set hR hL hle hS' (fun x hx=> ?_) (fun x hx=>(d3 x hx).2.up hL hle)⟩
  rcases List.mem_append.1 hx with q | q
  ·exact(h.top bs (List.mem_of_getElem? hL) x q).up hL hle
  ·exact(d2 x q).2.up hL hle
end
section
variable {n : Nat} {S : Sto} {L : List (List Wv.Bt)}
theorem zpd{n:Nat}(kn:List Int):∀(bs:List Wv.Bt) (m:Nat) (acc:List (List UInt8)) (f:List UInt8),(∀b∈bs,Gb n b)->f∈ansL kn m (FrB bs) acc->f∈acc∨∃b∈bs,f=Wv.frameB b
 | [],m,acc,f,_,hf=>by
  rw [zmu,zlm zi3] at hf
  exact Or.inl hf
 | b::bs,m,acc,f,hb,hf=>by
  have hgb:=hb b (by simp)
  have e1:fstB (FrB (b::bs))=Wv.frameB b:=by rw [zbk,zg8 hgb.isB]
  have e2:Wv.dec (fstB (FrB (b::bs)))=some b:=by rw [e1];exact Wv.dec_frame b hgb.isB
  have e3:(FrB (b::bs)).drop (fstB (FrB (b::bs))).length=FrB bs:=by rw [e1,zbk,List.drop_left]
  cases m with
  | zero=>exact Or.inl hf
  | succ m=>
   rw [ansL,e2] at hf
   simp only [e3] at hf
   rw [e1] at hf
   have hin:∀x,x∈(if b.s>kn.getD b.o.toNat 0 then acc++ [Wv.frameB b] else acc)->x∈acc∨x=Wv.frameB b:=fun x hx=>by
    split at hx
    ·rcases List.mem_append.1 hx with q | q
     ·exact Or.inl q
     ·exact Or.inr (List.mem_singleton.1 q)
    ·exact Or.inl hx
   generalize hac:(if b.s>kn.getD b.o.toNat 0 then acc++ [Wv.frameB b] else acc)=acc' at *
   have fin:f∈acc'->f∈acc∨∃c∈b::bs,f=Wv.frameB c:=fun q=>(hin f q).imp id (fun e=>⟨b,by simp,e⟩)
   split at hf
   ·exact fin hf
   ·rcases zpd kn bs m acc' f (fun x hx=>hb x (by simp [hx])) hf with q | ⟨c,q1,q2⟩
    ·exact fin q
    ·exact Or.inr ⟨c,by simp [q1],q2⟩
theorem GI.crash(h:GI n S L){r:Nat}{R:Rp}{bs:List Wv.Bt}(hR:S.reps[r]?=some R)(hL:L[r]?=some bs)(hS:RS n r R bs)(hu:R.st ≠ 2)(k:Int):∃L',GI n {S with reps:=S.reps.set r (zb4 R k)} L':=by
 obtain⟨g1,g2,g3,_,g5⟩:=hS.up hu
 have hll:R.log.length<=9000000:=by have h1:=g1.ok.logl;have h2:=g1.ok.sum;omega
 obtain⟨i,h1,h2⟩:=hS.cut hu (bs2:= []) (lg:=R.log) (fun b hb=>by cases hb) (by rw [List.append_nil];exact hS.due) (by rw [List.append_nil];exact g2) hll k
 rw [List.append_nil] at h1 h2
 refine⟨_,h.set hR hL h2 h1 (fun b hb=>(h.top bs (List.mem_of_getElem? hL) b (List.mem_of_mem_take hb)).up hL h2) (fun b hb=> ?_)⟩
 cases hb
theorem GI.fail(h:GI n S L){r:Nat}{R:Rp}{bs:List Wv.Bt}(hR:S.reps[r]?=some R)(hL:L[r]?=some bs)(hS:RS n r R bs)(h1:R.st=1)(k:Int):∃L',GI n {S with reps:=S.reps.set r (failR R k)} L':=by
 have hu:R.st ≠ 2:=by omega
 unfold failR
 by_cases he:R.effs= []
 ·rw [if_pos he];exact h.crash hR hL hS hu k
 ·rw [if_neg he]
  obtain⟨g1,g2,g3,_,g5⟩:=hS.up hu
  obtain⟨hr2,_⟩:=List.getElem?_eq_some_iff.1 hL
  have hgb:=g1.gb h1 he
  have hfl:=zba hgb.isB
  have hll:(R.log++Wv.frameB (pendB R)).length<=9000000:=by rw [List.length_append];have h3:=g1.ok.logl;have h4:=g1.ok.sum;omega
  have hlg:R.log++Wv.frameB (pendB R)=FrB (bs++ [pendB R]):=by rw [g2,zea];simp [FrB]
  obtain⟨i,c1,c2⟩:=hS.cut hu (bs2:= [pendB R]) (fun b hb=>by rw [List.mem_singleton.1 hb];exact hgb) ((zdz _ _ _).2 ⟨hS.due,by rw [g3];exact⟨zji (R:=R),trivial⟩⟩) hlg hll k
  refine⟨_,h.set hR hL c2 c1 (fun b hb=> ?_) (fun b hb=>by cases hb)⟩
  by_cases hi:i<=bs.length
  ·rw [List.take_append_of_le_length hi] at hb
   exact(h.top bs (List.mem_of_getElem? hL) b (List.mem_of_mem_take hb)).up hL c2
  ·have e:(bs++ [pendB R]).take i=bs++ [pendB R]:=List.take_of_length_le (by simp;omega)
   rcases List.mem_append.1 (List.mem_of_mem_take hb) with q | q
   ·exact(h.top bs (List.mem_of_getElem? hL) b q).up hL c2
   ·rw [List.mem_singleton.1 q]
    unfold Tp
    rw [g1.p1,Int.toNat_natCast,List.getD_eq_getElem?_getD,List.getElem?_set_self hr2,e]
    show(pendB R).s<=topB n r (bs++ [pendB R])
    unfold topB
    rw [zcn,g3]
    show _<=(R.clock.set (pendB R).o.toNat (pendB R).s).getD r 0
    rw [g1.p1,Int.toNat_natCast,zdp _ _ _ _ (by rw [hS.cl];exact hS.rlt),if_pos rfl]
    exact Int.le_refl _
theorem GI.restart(h:GI n S L){r:Nat}{R:Rp}{bs:List Wv.Bt}(hR:S.reps[r]?=some R)(hL:L[r]?=some bs)(hS:RS n r R bs)(hd:R.st=2):GI n {S with reps:=S.reps.set r (zce R)} L:=by
 have hS':=hS.restart hd
 refine h.same hR hL hS' (fun b hb=> ?_)
 have e:(zce R).held= []:=by
  obtain⟨⟨tl,t1,t2⟩,_⟩:=hS.down hd
  have hn:R.n.toNat=r:=by rw [hS.num,Int.toNat_natCast]
  obtain⟨_,_,_,_,g5,_⟩:=zgw (r:=r) bs tl (newR r n) R.log.length hS.gb t2 hS.due (RU.new r n hS.rlt hS.n2 hS.n4) rfl rfl (by rw [t1];exact Nat.le_refl _)
  rw [←t1] at g5
  show(za5 R.log.length (newR R.n.toNat R.clock.length) R.log).held= []
  rw [hn,hS.cl]
  exact g5
 rw [e] at hb
 cases hb
theorem zyb(cl:List Int):(digB cl).length=cl.length+4:=by unfold digB;rw [List.length_append,zow];rfl
theorem GI.ask(h:GI n S L){r t:Nat}{cl:List Int}(hr:r<n)(ht:t<n)(hcl:cl.length=n):GI n {S with msgs:=addM S.msgs ⟨2,r,t,digB cl,false⟩} L:=by
 have h4:=h.n4
 refine h.msgs (fun m hm=> ?_)
 rcases zgt hm with q | q
 ·exact h.msg m q
 ·rw [q]
  refine⟨by show(0:Int)<=(t:Int);omega,by show(t:Int)<n;omega,by show(0:Int)<=(r:Int);omega,by show(r:Int)<n;omega,Or.inr rfl, ?_,fun e=>(by cases e),fun e=>(by cases e)⟩
  show(digB cl).length<=70000
  rw [zyb]
  omega
theorem GI.spoil(h:GI n S L){i j k:Nat}{m:Ms}(hi:S.msgs[i]?=some m)(hsp:m.sp=false)(hk0:1<=k)(hk1:k<=255)(hj:j<m.bs.length):GI n {S with msgs:=S.msgs.set i (zc2 m j k)} L:=by
 have hm:=h.msg m (List.mem_of_getElem? hi)
 refine h.msgs (fun x hx=> ?_)
 rcases List.mem_or_eq_of_mem_set hx with q | q
 ·exact h.msg x q
 ·rw [q]
  refine⟨hm.t0,hm.t1,hm.f0,hm.f1,hm.kind, ?_,fun _ e=>(by cases e),fun e _=> ?_⟩
  ·show(Wv.chg m.bs j (fun _=>UInt8.ofNat k) 1).length<=70000
   rw [Wv.chg_len]
   exact hm.len
  ·obtain⟨b,hb,_,hbs⟩:=hm.fr e hsp
   show Wv.dec (Wv.chg m.bs j (fun _=>UInt8.ofNat k) 1)=none
   rw [hbs] at hj ⊢
   rw [Wv.dec_chg b hb.isB j (fun _=>UInt8.ofNat k) 1 (by omega) (by unfold Wv.stopAt;split<;>omega)]
   have:Wv.chd (fun _=>UInt8.ofNat k) 1=true:=by
    show(false || UInt8.ofNat k !=0)=true
    rw [Bool.false_or,bne_iff_ne]
    intro e
    have:=congrArg UInt8.toNat e
    rw [UInt8.toNat_ofNat_of_lt' (by show k<256;omega)] at this
    simp at this
    omega
   rw [this]
   rfl
theorem MG.ok{m:Ms}(h:MG n L m):MsOk n m:=by
 refine⟨h.t0,h.t1,h.kind,h.len,fun hk b hb=> ?_⟩
 cases hs:m.sp with
 | true=>rw [h.sp hk hs] at hb;cases hb
 | false=>
  obtain⟨c,hc,_,e⟩:=h.fr hk hs
  rw [e,Wv.dec_frame c hc.isB] at hb
  cases hb
  exact hc.cl
theorem GI.deliver(h:GI n S L){i:Nat}{m:Ms}(hi:S.msgs[i]?=some m){R:Rp}(hR:S.reps[m.t.toNat]?=some R):∃L',GI n (zjl S i m R) L':=by
 have hm:=h.msg m (List.mem_of_getElem? hi)
 have h1:GI n {S with msgs:=S.msgs.eraseIdx i} L:=h.msgs (fun x hx=>h.msg x (List.mem_of_mem_eraseIdx hx))
 obtain⟨bs,hL,hS⟩:=h.rep _ R hR
 unfold zjl
 by_cases hst:R.st=2
 ·rw [if_pos hst];exact⟨L,h1⟩
 ·rw [if_neg hst]
  rcases hm.kind with hk | hk
  ·rw [if_pos hk]
   refine GI.frame (S:={S with msgs:=S.msgs.eraseIdx i}) h1 hR hL hS hst ?_
   cases hs:m.sp with
   | true=>exact Or.inl (hm.sp hk hs)
   | false=>exact Or.inr (hm.fr hk hs)
  ·rw [if_neg (by omega)]
   refine⟨L,GI.msgs (S:={S with msgs:=S.msgs.eraseIdx i}) h1 ?_⟩
   obtain⟨g1,g2,g3,_,g5⟩:=hS.up hst
   have hmem:∀f∈answR R m.bs,∃b∈bs,f=Wv.frameB b:=fun f hf=>by
    unfold answR at hf
    split at hf
    ·rw [g2] at hf
     rcases zpd (n:=n) _ bs _ [] f hS.gb hf with q | q
     ·cases q
     ·exact q
    ·cases hf
   have key:∀q,q<=(answR R m.bs).length->∀x∈sndA (S.msgs.eraseIdx i) m.t m.f (answR R m.bs) q,MG n L x:=by
    intro q
    induction q with
    | zero=>intro _ x hx;exact h1.msg x hx
    | succ q ih=>
     intro hq x hx
     rw [sndA] at hx
     rcases zgt hx with y | y
     ·exact ih (by omega) x y
     ·have hg:(answR R m.bs).getD q []∈answR R m.bs:=by
       rw [List.getD_eq_getElem?_getD,List.getElem?_eq_getElem (by omega)]
       exact List.getElem_mem _
      obtain⟨b,hb,e⟩:=hmem _ hg
      rw [y,e]
      exact⟨hm.f0,hm.f1,hm.t0,hm.t1,Or.inl rfl,zba (hS.gb b hb).isB,fun _ _=>⟨b,hS.gb b hb,h.top bs (List.mem_of_getElem? hL) b hb,rfl⟩,fun _ e=>(by cases e)⟩
   exact key _ (Nat.le_refl _)
end
theorem GI.new(n:Nat)(h2:2<=n)(h4:n<=4):GI n ⟨(List.range n).map (fun r=>newR r n), []⟩ (List.replicate n []):=by
 refine⟨by simp,by simp,h2,h4,fun r R hR=> ?_,fun bs hb b hb'=> ?_,fun R hR b hb=> ?_,fun m hm=>by cases hm⟩
 ·have hR:((List.range n).map (fun r=>newR r n))[r]?=some R:=hR
  rw [List.getElem?_map] at hR
  have hrn:r<n:=by
   rcases Nat.lt_or_ge r n with q | q
   ·exact q
   ·rw [List.getElem?_eq_none (by simpa using q)] at hR;cases hR
  rw [List.getElem?_eq_getElem (by simpa using hrn)] at hR
  have e:newR r n=R:=by simpa using hR
  subst e
  have hru:=RU.new r n hrn h2 h4
  exact⟨[],by simp [hrn],⟨fun b hb=>(by cases hb),trivial,h2,h4,hrn,rfl,hru.cl,fun _=>⟨hru,rfl,rfl,⟨0,Nat.le_refl _,rfl,fun b hb=>(by cases hb)⟩,fun b hb=>(by cases hb)⟩,fun e=>(by cases e)⟩⟩
 ·rw [(List.mem_replicate.1 hb).2] at hb'
  cases hb'
 ·obtain⟨r,_,rfl⟩:=List.mem_map.1 hR
  cases hb
def rpS(S:Sto)(r:Int):Option Rp:=if 0<=r then S.reps[r.toNat]? else none
def onS(S:Sto)(r:Int)(f:Rp->Rp×Int):Sto×Int:=match rpS S r with
 | none=>(S,3)
 | some R=>if R.st=2 then(S,4) else({S with reps:=S.reps.set r.toNat (f R).1},(f R).2)
def Doing(w0:World)(eb ef:Addr)(fn:Nat)(args:List Int)(S S':Sto)(z:Int):Prop:=∀(own:Clr) (s rg cc pp ch:Nat) (pv:Value) (prs:List Nat) (w:World),Env w0 w own eb ef->StIn w own s rg cc pp ch pv prs S->Calls Tryz.prog fn (#[.pointer (some ⟨s,0,none⟩)]++(args.map I).toArray) w fun e w'=>e= .returned (I z)∧StOk w0 w own s S' eb ef w'
theorem zf5{S:Sto}{r:Nat}{R:Rp}(h:S.reps[r]?=some R):({S with reps:=S.reps.set r R}:Sto)=S:=by
 obtain⟨h1,h2⟩:=List.getElem?_eq_some_iff.1 h
 rw [←h2,List.set_getElem_self]
theorem zb5{S:Sto}{r:Int}{R:Rp}(h:rpS S r=some R):∃k:Nat,r=k∧S.reps[k]?=some R:=by
 unfold rpS at h
 split at h
 ·rename_i h0
  exact⟨r.toNat,by omega,h⟩
 ·cases h
theorem zel{S:Sto}{r:Int}(h:rpS S r=none):¬(0<=r∧r<S.reps.length):=by
 unfold rpS at h
 split at h
 ·rename_i h0
  rintro⟨_,h1⟩
  rw [List.getElem?_eq_getElem (by omega)] at h
  cases h
 ·rename_i h0
  exact fun q=>h0 q.1
theorem zd0{w0:World}{eb ef:Addr}{fn:Nat}{args:List Int}{S:Sto}{r:Int}{f:Rp->Rp×Int}
  (hbad:∀(w:World) (sv:Value) (z:Int),UpBad w sv r z->Calls Tryz.prog fn (#[sv]++(args.map I).toArray) w fun e w'=>e= .returned (I z)∧w'=w)
  (hup:∀(k:Nat) (R:Rp),r=k->S.reps[k]?=some R->R.st ≠ 2->Doing w0 eb ef fn args S {S with reps:=S.reps.set k (f R).1} (f R).2):Doing w0 eb ef fn args S (onS S r f).1 (onS S r f).2:=by
 intro own s rg cc pp ch pv prs w hen h
 unfold onS
 cases hr:rpS S r with
 | none=>
  refine(hbad w (.pointer (some ⟨s,0,none⟩)) 3 (zdr own s rg cc pp ch pv prs S r w h (zel hr)).up).mono ?_
  rintro e w' ⟨rfl,rfl⟩
  exact⟨rfl,StOk.below h hen (Below.refl _ _)⟩
 | some R=>
  obtain⟨k,rfl,hk⟩:=zb5 hr
  by_cases hst:R.st=2
  ·simp only [if_pos hst]
   refine(hbad w (.pointer (some ⟨s,0,none⟩)) 4 (zc1 own s rg cc pp ch pv prs S k R hk hst w h)).mono ?_
   rintro e w' ⟨rfl,rfl⟩
   exact⟨rfl,StOk.below h hen (Below.refl _ _)⟩
  ·simp only [if_neg hst,Int.toNat_natCast]
   exact hup k R rfl hk hst own s rg cc pp ch pv prs w hen h
def doRR(R:Rp)(op ob a b:Int):Rp×Int:=
 if R.st ≠ 1 then(R,7)
 else if¬(0<=ob∧ob<8) then(R,8)
 else if¬(1<=op∧op<=6∧ob % 4=Wv.rKind op) then(R,9)
 else match R.obs[ob.toNat]? with
  | none=>(R,8)
  | some o=>
   if ((seeTo (pendB R) ob.toNat o R.effs.length).answer op a b).err ≠ 0 then(R,((seeTo (pendB R) ob.toNat o R.effs.length).answer op a b).err)
   else if (((seeTo (pendB R) ob.toNat o R.effs.length).answer op a b).ds.length:Int)<Wv.rLeastD op then(R,0)
   else if (((seeTo (pendB R) ob.toNat o R.effs.length).answer op a b).ds.length:Int)>Wv.rMostD op∨R.effs.length=5 then(R,12)
   else(putR R op ob.toNat a b o,0)
theorem zx7{w0:World}{eb ef:Addr}{n:Nat}{S:Sto}{L:List (List Wv.Bt)}(hG:GI n S L)(r op ob a b:Int):Doing w0 eb ef 17 [r,op,ob,a,b] S (onS S r (fun R=>doRR R op ob a b)).1 (onS S r (fun R=>doRR R op ob a b)).2:=by
 refine zd0 (fun w sv z h=>zyv op ob a b h) ?_
 rintro k R rfl hk hst own s rg cc pp ch pv prs w hen hS
 obtain⟨bs,hL,hRS⟩:=hG.rep k R hk
 have hRU:=(hRS.up hst).1
 have hup:=hRU.up
 obtain⟨hr,cg,cc',hp,mv,hv,ev,hs,es,hrp⟩:=hS.prl hk
 have hesl:es.length=R.effs.length:=by rw [hrp.effsE,List.length_map]
 have hsame:∀w1,Below w.heap.size w w1->StOk w0 w own s {S with reps:=S.reps.set k R} eb ef w1:=fun w1 hb=>by rw [zf5 hk];exact StOk.below hS hen hb
 show Calls Tryz.prog 17 #[.pointer (some ⟨s,0,none⟩),I k,I op,I ob,I a,I b] w _
 unfold doRR
 by_cases h1:R.st=1
 ·simp only [h1,ne_eq,not_true,if_false]
  by_cases hob:0<=ob∧ob<8
  ·simp only [hob,and_self,not_true,if_false]
   obtain⟨q,rfl⟩:=Int.eq_ofNat_of_zero_le hob.1
   have hq8:q<8:=by omega
   obtain⟨v,hv1,hv2,hv3⟩:=hRU.obs q hq8
   simp only [Int.toNat_natCast] at *
   by_cases hkd:1<=op∧op<=6∧(q:Int) % 4=Wv.rKind op
   ·simp only [hkd,and_self,not_true,if_false,hv1]
    obtain⟨o1,o6,hk4⟩:=hkd
    by_cases her:((seeTo (pendB R) q v R.effs.length).answer op a b).err=0
    ·simp only [her,not_true,if_false]
     by_cases hls:(((seeTo (pendB R) q v R.effs.length).answer op a b).ds.length:Int)<Wv.rLeastD op
     ·simp only [hls,if_true]
      refine(zsz own s rg cc pp ch pv prs S k R op a b q v w w0 eb ef hen hS hk hup h1 ⟨o1,o6⟩ hls hk4 her hv1).mono ?_
      rintro y w1 ⟨rfl,hso⟩
      rw [zf5 hk]
      exact⟨rfl,hso⟩
     ·simp only [hls,if_false]
      by_cases hbg:(((seeTo (pendB R) q v R.effs.length).answer op a b).ds.length:Int)>Wv.rMostD op∨R.effs.length=5
      ·simp only [if_pos hbg]
       refine(zf0 hS hr hk hst op q a b 12 (fun w1=>Below w.heap.size w w1) (zz6 own (1+11*k) prs[k] R cg cc' hp mv hv ev hs es op a b q v w w0 eb ef hen hrp h1 ⟨o1,o6⟩ _ rfl hls (hbg.imp id (fun e=>hesl.trans e)) hk4 her hv1 hup.ok.obs8 hup.hl hup.n0 hup.n1 hup.hs0 hup.ok.time0 hup.ht1 (5*sumN R.clock) hup.hN (hup.ok.bd v (List.mem_of_getElem? hv1)) hup.hv)).mono ?_
       rintro y w1 ⟨rfl,hb⟩
       exact⟨rfl,hsame w1 hb⟩
      ·simp only [if_neg hbg]
       have hel:=hRU.el
       exact zyu own s rg cc pp ch pv prs S k R op a b q v w w0 eb ef hen hS hk hup h1 ⟨o1,o6⟩ (by have:¬R.effs.length=5:=fun e=>hbg (Or.inr e);omega) hls (fun g=>hbg (Or.inl g)) hk4 her hv1
    ·simp only [her,not_false_iff,if_true]
     refine(zf0 hS hr hk hst op q a b _ (fun w1=>Below w.heap.size w w1) (zz5 own (1+11*k) prs[k] R cg cc' hp mv hv ev hs es op a b q v w w0 eb ef hen hrp h1 ⟨o1,o6⟩ _ rfl hk4 her hv1 hup.ok.obs8 hup.hl hup.n0 hup.n1 hup.hs0 hup.ok.time0 hup.ht1 (5*sumN R.clock) hup.hN (hup.ok.bd v (List.mem_of_getElem? hv1)) hup.hv)).mono ?_
     rintro y w1 ⟨rfl,hb⟩
     exact⟨rfl,hsame w1 hb⟩
   ·simp only [hkd,not_false_iff,if_true]
    have hno:Calls Tryz.prog 40 #[.pointer (some ⟨prs[k],0,none⟩),I op,I q,I a,I b] w fun e w'=>e= .returned (I 9)∧Below w.heap.size w w':=by
     by_cases hop6:1<=op∧op<=6
     ·exact zrm own (1+11*k) prs[k] R cg cc' hp mv hv ev hs es op a b q v w w0 eb ef hen hrp h1 hop6 (fun g=>hkd ⟨hop6.1,hop6.2,g⟩) hv1 hup.ok.obs8 hup.hl hup.n0 hup.n1 hup.hs0 hup.ok.time0 hup.ht1 (5*sumN R.clock) hup.hN (hup.ok.bd v (List.mem_of_getElem? hv1)) hup.hv
     ·exact zx9 own (1+11*k) prs[k] R cg cc' hp mv hv ev hs es op a b q v w w0 eb ef hen hrp h1 hop6 hv1 hup.ok.obs8 hup.hl hup.n0 hup.n1 hup.hs0 hup.ok.time0 hup.ht1 (5*sumN R.clock) hup.hN (hup.ok.bd v (List.mem_of_getElem? hv1)) hup.hv
    refine(zf0 hS hr hk hst op q a b 9 (fun w1=>Below w.heap.size w w1) hno).mono ?_
    rintro y w1 ⟨rfl,hb⟩
    exact⟨rfl,hsame w1 hb⟩
  ·simp only [hob,not_false_iff,if_true]
   refine(zf0 hS hr hk hst op ob a b 8 (fun w1=>Below w.heap.size w w1) (zz3 own (1+11*k) prs[k] R cg cc' hp mv hv ev hs es op ob a b w hrp h1 hup.ok.obs8 hob)).mono ?_
   rintro y w1 ⟨rfl,hb⟩
   exact⟨rfl,hsame w1 hb⟩
 ·simp only [h1,ne_eq,not_false_iff,if_true]
  refine(zf0 hS hr hk hst op ob a b 7 (fun w1=>w1=w) (zz4 own (1+11*k) prs[k] R cg cc' hp mv hv ev hs es op ob a b w hrp h1)).mono ?_
  rintro y w1 ⟨rfl,rfl⟩
  exact⟨rfl,hsame w1 (Below.refl _ _)⟩
section
variable {w0 : World} {eb ef : Addr} {n : Nat} {S : Sto} {L : List (List Wv.Bt)}
theorem zot(hG:GI n S L)(r:Int):Doing w0 eb ef 16 [r] S (onS S r zbi).1 (onS S r zbi).2:=by
 refine zd0 (fun w sv z h=>zpk h) ?_
 rintro k R rfl hk hst own s rg cc pp ch pv prs w hen hS
 obtain⟨bs,hL,hRS⟩:=hG.rep k R hk
 exact zpl own s rg cc pp ch pv prs S k R w w0 eb ef hen hS hk (hRS.up hst).1.up
theorem zou(hG:GI n S L)(r:Int):Doing w0 eb ef 27 [r] S (onS S r zbw).1 (onS S r zbw).2:=by
 refine zd0 (fun w sv z h=>zpm h) ?_
 rintro k R rfl hk hst own s rg cc pp ch pv prs w hen hS
 obtain⟨bs,hL,hRS⟩:=hG.rep k R hk
 exact zpn own s rg cc pp ch pv prs S k R w w0 eb ef hen hS hk (hRS.up hst).1.up
theorem zrj(r:Int):Doing w0 eb ef 31 [r] S (onS S r (fun R=>(syncR R,0))).1 (onS S r (fun R=>(syncR R,0))).2:=by
 refine zd0 (fun w sv z h=>zsr h) ?_
 rintro k R rfl hk hst own s rg cc pp ch pv prs w hen hS
 obtain⟨hr,hrp⟩:=hS.prl hk
 have hrp':RpAt w own (1+11*k) prs[k] R:=hrp
 obtain⟨cg,cc',hp,mv,hv,ev,hs,es,hrp⟩:=hrp
 exact zsq hS hr hk hst _ ((ztj own (1+11*k) prs[k] R cg cc' hp mv hv ev hs es w (by omega) hrp).mono (fun e w' hh=>⟨hh.1,StOk.rep hS hen k hr (ROk.self hrp.own1 hh.2)⟩))
theorem zos(hG:GI n S L)(r k:Int):Doing w0 eb ef 20 [r,k] S (onS S r (fun R=>(zb4 R k,0))).1 (onS S r (fun R=>(zb4 R k,0))).2:=by
 refine zd0 (fun w sv z h=>zpi k h) ?_
 rintro q R rfl hk hst own s rg cc pp ch pv prs w hen hS
 obtain⟨bs,hL,hRS⟩:=hG.rep q R hk
 obtain⟨g1,g2,g3,⟨j,j1,j2,j3⟩,g5⟩:=hRS.up hst
 obtain⟨hr,hrp⟩:=hS.prl hk
 have hll:R.log.length<=9000000:=by have h1:=g1.ok.logl;have h2:=g1.ok.sum;omega
 have hy1:R.synced<=R.log.length:=by
  rw [j2,g2]
  have:FrB bs=FrB (bs.take j)++FrB (bs.drop j):=by rw [←zea,List.take_append_drop]
  rw [this,List.length_append]
  omega
 exact zph hS hr hk hst k _ ((zfo own (1+11*q) prs[q] R k w (by omega) hrp (by rw [j2];omega) hy1 (by omega)).mono (fun e w' hh=>⟨hh.1,StOk.rep hS hen q hr hh.2⟩))
def zha(R:Rp)(k:Int):Rp×Int:=if R.st=1 then(failR R k,0) else(R,7)
theorem zrk(hI:zai)(hG:GI n S L)(r k:Int):Doing w0 eb ef 19 [r,k] S (onS S r (fun R=>zha R k)).1 (onS S r (fun R=>zha R k)).2:=by
 refine zd0 (fun w sv z h=>zsx k h) ?_
 rintro q R rfl hk hst own s rg cc pp ch pv prs w hen hS
 obtain⟨bs,hL,hRS⟩:=hG.rep q R hk
 obtain⟨g1,g2,g3,⟨j,j1,j2,j3⟩,g5⟩:=hRS.up hst
 have hup:=g1.up
 obtain⟨hr,hrp⟩:=hS.prl hk
 have hll:R.log.length<=9000000:=by have h1:=g1.ok.logl;have h2:=g1.ok.sum;omega
 have hy1:R.synced<=R.log.length:=by
  rw [j2,g2]
  have:FrB bs=FrB (bs.take j)++FrB (bs.drop j):=by rw [←zea,List.take_append_drop]
  rw [this,List.length_append]
  omega
 unfold zha
 by_cases h1:R.st=1
 ·simp only [if_pos h1]
  refine zkl hS hr hk hst k 0 _ ?_
  by_cases he:R.effs= []
  ·exact(zpy own (1+11*q) prs[q] R k w (by omega) hrp h1 he hup.hl hup.n0 hup.n1 hup.hs0 hup.ok.time0 hup.ht1 (by rw [j2];omega) hy1 (by omega)).mono (fun e w' hh=>⟨hh.1,StOk.rep hS hen q hr hh.2⟩)
  ·have hfl:=zba (g1.gb h1 he).isB
   exact(zpx own (1+11*q) prs[q] R k w w0 eb ef hI hen (by omega) hrp h1 he hup.hl hup.n0 hup.n1 hup.hs0 hup.ok.time0 hup.ht1 (g1.head h1 he) (by rw [j2];omega) hy1 (by omega)).mono (fun e w' hh=>⟨hh.1,StOk.rep hS hen q hr hh.2⟩)
 ·simp only [if_neg h1]
  refine(zkl hS hr hk hst k 7 (fun w1=>w1=w) (zpz own (1+11*q) prs[q] R k w hrp h1)).mono ?_
  rintro y w1 ⟨rfl,rfl⟩
  rw [zf5 hk]
  exact⟨rfl,StOk.below hS hen (Below.refl _ _)⟩
def rstS(S:Sto)(r:Int):Sto×Int:=match rpS S r with
 | none=>(S,3)
 | some R=>if R.st=2 then({S with reps:=S.reps.set r.toNat (zce R)},0) else(S,5)
theorem zkd(hI:zai)(hg:Gd w0)(hG:GI n S L)(r:Int):Doing w0 eb ef 32 [r] S (rstS S r).1 (rstS S r).2:=by
 intro own s rg cc pp ch pv prs w hen hS
 unfold rstS
 cases hr:rpS S r with
 | none=>
  refine(zlp (zdr own s rg cc pp ch pv prs S r w hS (zel hr))).mono ?_
  rintro e w' ⟨rfl,rfl⟩
  exact⟨rfl,StOk.below hS hen (Below.refl _ _)⟩
 | some R=>
  obtain⟨k,rfl,hk⟩:=zb5 hr
  obtain⟨bs,hL,hRS⟩:=hG.rep k R hk
  obtain⟨hr',hrp⟩:=hS.prl hk
  have hk4:k<4:=by have:=hRS.rlt;have:=hRS.n4;omega
  by_cases hst:R.st=2
  ·simp only [if_pos hst,Int.toNat_natCast]
   obtain⟨_,t3,_,_⟩:=hRS.down hst
   exact zfy hS hr' 0 _ ((zj9 own (1+11*k) prs[k] R w w0 eb ef hI hg hen (by omega) (by omega) hrp hst (by rw [hRS.num];omega) (by rw [hRS.cl];exact hRS.n4) (by omega)).mono (fun e w' hh=>⟨hh.1,StOk.rep hS hen k hr' hh.2⟩))
  ·simp only [if_neg hst]
   refine(zfy hS hr' 5 _ ((znf own (1+11*k) prs[k] R w hrp hst).mono (fun e w' hh=>⟨hh.1,StOk.rep hS hen k hr' hh.2⟩))).mono ?_
   rintro y w1 ⟨rfl,h1⟩
   rw [zf5 hk] at h1
   exact⟨rfl,h1⟩
end
section
variable {w0 : World} {eb ef : Addr} {n : Nat} {S : Sto} {L : List (List Wv.Bt)}
def askS(S:Sto)(r t:Int):Sto×Int:=match rpS S r with
 | none=>(S,3)
 | some R=>if R.st=2 then(S,4) else if¬(0<=t∧t<S.reps.length)∨t=r then(S,3) else({S with msgs:=addM S.msgs ⟨2,r,t,digB R.clock,false⟩},0)
theorem zu0(hG:GI n S L)(r t:Int):Doing w0 eb ef 30 [r,t] S (askS S r t).1 (askS S r t).2:=by
 intro own s rg cc pp ch pv prs w hen hS
 unfold askS
 cases hr:rpS S r with
 | none=>
  refine(zm1 t (zdr own s rg cc pp ch pv prs S r w hS (zel hr)).up).mono ?_
  rintro e w' ⟨rfl,rfl⟩
  exact⟨rfl,StOk.below hS hen (Below.refl _ _)⟩
 | some R=>
  obtain⟨k,rfl,hk⟩:=zb5 hr
  obtain⟨bs,hL,hRS⟩:=hG.rep k R hk
  by_cases hst:R.st=2
  ·simp only [if_pos hst]
   refine(zm1 t (zc1 own s rg cc pp ch pv prs S k R hk hst w hS)).mono ?_
   rintro e w' ⟨rfl,rfl⟩
   exact⟨rfl,StOk.below hS hen (Below.refl _ _)⟩
  ·simp only [if_neg hst]
   by_cases ht:¬(0<=t∧t<S.reps.length)∨t=k
   ·simp only [if_pos ht]
    refine(zyw hS hk hst t ht).mono ?_
    rintro e w' ⟨rfl,rfl⟩
    exact⟨rfl,StOk.below hS hen (Below.refl _ _)⟩
   ·simp only [if_neg ht]
    have h1:0<=t∧t<S.reps.length:=Classical.byContradiction (fun q=>ht (Or.inl q))
    obtain⟨q,rfl⟩:=Int.eq_ofNat_of_zero_le h1.1
    exact zvs hen hS hk hst (by rw [hRS.cl];exact hRS.n4) q (by omega) (fun e=>ht (Or.inr (by rw [e])))
def msS(S:Sto)(i:Int)(f:Ms->Sto×Int):Sto×Int:=if 0<=i then(match S.msgs[i.toNat]? with | none=>(S,14) | some m=>f m) else(S,14)
theorem zd6{S:Sto}{i:Int}{f:Ms->Sto×Int}(h:¬(0<=i∧i<S.msgs.length)):msS S i f=(S,14):=by
 unfold msS
 split
 ·rw [List.getElem?_eq_none (by omega)]
 ·rfl
theorem zgf{S:Sto}{i:Nat}{m:Ms}{f:Ms->Sto×Int}(h:S.msgs[i]?=some m):msS S i f=f m:=by
 unfold msS
 rw [if_pos (by omega),Int.toNat_natCast,h]
theorem zeq(S:Sto)(i:Int):¬(0<=i∧i<S.msgs.length)∨∃(k:Nat) (m:Ms),i=k∧S.msgs[k]?=some m:=by
 by_cases h:0<=i∧i<S.msgs.length
 ·exact Or.inr ⟨i.toNat,S.msgs[i.toNat]'(by omega),by omega,List.getElem?_eq_getElem (by omega)⟩
 ·exact Or.inl h
def dropS(S:Sto)(i:Int):Sto×Int:=msS S i (fun _=>({S with msgs:=S.msgs.eraseIdx i.toNat},0))
def zih(S:Sto)(i:Int):Sto×Int:=msS S i (fun m=>({S with msgs:=addM S.msgs m},0))
def zim(S:Sto)(i j k:Int):Sto×Int:=msS S i (fun m=>if m.sp=true∨(k<1∨k>255)∨(j<0∨j≥m.bs.length) then(S,zfn m k) else({S with msgs:=S.msgs.set i.toNat (zc2 m j.toNat k.toNat)},0))
def delS(S:Sto)(i:Int):Sto×Int:=msS S i (fun m=>match S.reps[m.t.toNat]? with | none=>(S,0) | some R=>(zjl S i.toNat m R,0))
theorem zrl(i:Int):Doing w0 eb ef 33 [i] S (dropS S i).1 (dropS S i).2:=by
 intro own s rg cc pp ch pv prs w hen hS
 unfold dropS
 rcases zeq S i with h | ⟨k,m,rfl,h⟩
 ·rw [zd6 h]
  exact zvr own s rg cc pp ch pv prs S i w w0 eb ef hen hS h
 ·rw [zgf h,Int.toNat_natCast]
  exact zsy own s rg cc pp ch pv prs S k m w w0 eb ef hen hS h
theorem zoq(i:Int):Doing w0 eb ef 45 [i] S (zih S i).1 (zih S i).2:=by
 intro own s rg cc pp ch pv prs w hen hS
 unfold zih
 rcases zeq S i with h | ⟨k,m,rfl,h⟩
 ·rw [zd6 h]
  refine(zsp own s rg cc pp ch pv prs S i w hS h).mono ?_
  rintro e w' ⟨rfl,rfl⟩
  exact⟨rfl,StOk.below hS hen (Below.refl _ _)⟩
 ·rw [zgf h]
  exact zpe own s rg cc pp ch pv prs S k m w w0 eb ef hen hS h
theorem zor(hG:GI n S L)(i j k:Int):Doing w0 eb ef 46 [i,j,k] S (zim S i j k).1 (zim S i j k).2:=by
 intro own s rg cc pp ch pv prs w hen hS
 unfold zim
 rcases zeq S i with h | ⟨q,m,rfl,h⟩
 ·rw [zd6 h]
  refine(zss own s rg cc pp ch pv prs S i j k w hS h).mono ?_
  rintro e w' ⟨rfl,rfl⟩
  exact⟨rfl,StOk.below hS hen (Below.refl _ _)⟩
 ·rw [zgf h,Int.toNat_natCast]
  have hm:=hG.msg m (List.mem_of_getElem? h)
  by_cases hb:m.sp=true∨(k<1∨k>255)∨(j<0∨j≥m.bs.length)
  ·rw [if_pos hb]
   refine(zpg own s rg cc pp ch pv prs S q j k m w hS h hb).mono ?_
   rintro e w' ⟨rfl,rfl⟩
   exact⟨rfl,StOk.below hS hen (Below.refl _ _)⟩
  ·rw [if_neg hb]
   have h1:m.sp=false:=by cases hq:m.sp with | false=>rfl | true=>exact absurd (Or.inl hq) hb
   have h2:1<=k∧k<=255:=⟨by refine Int.not_lt.1 (fun g=>hb (Or.inr (Or.inl (Or.inl g)))),by refine Int.not_lt.1 (fun g=>hb (Or.inr (Or.inl (Or.inr g))))⟩
   have h3:0<=j∧j<m.bs.length:=⟨by refine Int.not_lt.1 (fun g=>hb (Or.inr (Or.inr (Or.inl g)))),by refine Int.not_le.1 (fun g=>hb (Or.inr (Or.inr (Or.inr g))))⟩
   obtain⟨j',rfl⟩:=Int.eq_ofNat_of_zero_le h3.1
   obtain⟨k',rfl⟩:=Int.eq_ofNat_of_zero_le (show 0<=k by omega)
   exact zpf own s rg cc pp ch pv prs S q j' k' m w w0 eb ef hen hS h h1 (by omega) (by omega) (by omega) (by have:=hm.len;omega)
theorem zke(hI:zai)(hg:Gd w0)(hgg:Gg w0)(hG:GI n S L)(i:Int):Doing w0 eb ef 28 [i] S (delS S i).1 (delS S i).2:=by
 intro own s rg cc pp ch pv prs w hen hS
 unfold delS
 rcases zeq S i with h | ⟨k,m,rfl,h⟩
 ·rw [zd6 h]
  exact zmz own s rg cc pp ch pv prs S i w w0 eb ef hen hS h
 ·have hm:=hG.msg m (List.mem_of_getElem? h)
  have ht:m.t.toNat<S.reps.length:=by have:=hm.t0;have:=hm.t1;have:=hG.rl;omega
  obtain⟨R,hR⟩:∃R,S.reps[m.t.toNat]?=some R:=⟨_,List.getElem?_eq_getElem ht⟩
  obtain⟨bs,hL,hRS⟩:=hG.rep _ R hR
  rw [zgf h,Int.toNat_natCast,hR]
  exact zlt own s rg cc pp ch pv prs S n k m R w w0 eb ef hI hg hgg hen hS h hm.ok hR (fun hu=>hRS.rlg hu)
def comS(S:Sto)(r:Int):Sto×Int×Int:=match rpS S r with
 | none=>(S,0,3)
 | some R=>if R.st=2 then(S,0,4) else if R.st ≠ 1 then(S,0,7) else if R.effs= [] then({S with reps:=S.reps.set r.toNat (endR R)},0,0) else(⟨S.reps.set r.toNat (zcf R),sprA S.msgs r.toNat (Wv.frameB (pendB R)) S.reps.length⟩,(pendB R).s,0)
theorem zmm(hI:zai)(hG:GI n S L)(r:Int)(own:Clr)(s rg cc pp ch:Nat)(pv:Value)(prs:List Nat)(w:World)(hen:Env w0 w own eb ef)(hS:StIn w own s rg cc pp ch pv prs S):
  Calls Tryz.prog 18 #[.pointer (some ⟨s,0,none⟩),I r] w fun e w'=>e= .returned (.tuple #[I (comS S r).2.1,I (comS S r).2.2])∧StOk w0 w own s (comS S r).1 eb ef w':=by
 unfold comS
 cases hr:rpS S r with
 | none=>
  refine(zhg (zdr own s rg cc pp ch pv prs S r w hS (zel hr)).up).mono ?_
  rintro e w' ⟨rfl,rfl⟩
  exact⟨rfl,StOk.below hS hen (Below.refl _ _)⟩
 | some R=>
  obtain⟨k,rfl,hk⟩:=zb5 hr
  obtain⟨bs,hL,hRS⟩:=hG.rep k R hk
  by_cases hst:R.st=2
  ·simp only [if_pos hst]
   refine(zhg (zc1 own s rg cc pp ch pv prs S k R hk hst w hS)).mono ?_
   rintro e w' ⟨rfl,rfl⟩
   exact⟨rfl,StOk.below hS hen (Below.refl _ _)⟩
  ·simp only [if_neg hst,Int.toNat_natCast]
   have g1:=(hRS.up hst).1
   by_cases h1:R.st=1
   ·simp only [h1,ne_eq,not_true,if_false]
    by_cases he:R.effs= []
    ·simp only [if_pos he]
     exact zlu own s rg cc pp ch pv prs S k R w w0 eb ef hen hS hk g1.up h1 he
    ·simp only [if_neg he]
     exact zm0 own s rg cc pp ch pv prs S k R w w0 eb ef hI hen hS hk g1.up h1 he (g1.head h1 he)
   ·simp only [h1,ne_eq,not_false_iff,if_true]
    refine(zlv hS hk g1.up h1).mono ?_
    rintro e w' ⟨rfl,hb⟩
    exact⟨rfl,StOk.below hS hen hb⟩
end
end Go.Proofs.YtfmcngncaffloabGreatDoor
