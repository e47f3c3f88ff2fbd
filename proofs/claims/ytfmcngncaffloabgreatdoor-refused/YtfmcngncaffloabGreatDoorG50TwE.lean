import Derived.Test.YtfmcngncaffloabGreatDoorG49OpC
import Derived.Test.YtfmcngncaffloabGreatDoorG21KrG
namespace Go.Proofs.YtfmcngncaffloabGreatDoor
open Go.RowKit
set_option maxRecDepth 100000
def Gi(n:Nat)(S:Sto):Prop:=∃L,GI n S L
section
variable {n : Nat} {S : Sto}
theorem Gi.onS(h:Gi n S)(r:Int){f:Rp->Rp×Int}(hf:∀(k:Nat) R L bs,GI n S L->S.reps[k]?=some R->L[k]?=some bs->RS n k R bs->R.st ≠ 2->∃L',GI n {S with reps:=S.reps.set k (f R).1} L'):Gi n (onS S r f).1:=by
 unfold Go.Proofs.YtfmcngncaffloabGreatDoor.onS
 cases hr:rpS S r with
 | none=>exact h
 | some R=>
  obtain⟨k,rfl,hk⟩:=zb5 hr
  obtain⟨L,hG⟩:=h
  obtain⟨bs,hL,hRS⟩:=hG.rep k R hk
  by_cases hst:R.st=2
  ·simp only [if_pos hst];exact⟨L,hG⟩
  ·simp only [if_neg hst,Int.toNat_natCast];exact hf k R L bs hG hk hL hRS hst
theorem Gi.on1(h:Gi n S)(r:Int){f:Rp->Rp×Int}(hf:∀(k:Nat) R,RU n k R->RU n k (f R).1∧(f R).1.log=R.log∧(f R).1.clock=R.clock∧(f R).1.held=R.held∧((f R).1.synced=R.synced∨(f R).1.synced=R.log.length)):Gi n (Go.Proofs.YtfmcngncaffloabGreatDoor.onS S r f).1:=by
 refine h.onS r fun k R L bs hG hk hL hRS hst=> ?_
 obtain⟨h1,h2,h3,h4,h5⟩:=hf k R (hRS.up hst).1
 exact⟨L,hG.same hk hL (hRS.same hst h1 h2 h3 h4 h5) (fun b hb=>by rw [h4] at hb;exact hb)⟩
theorem zxs(h:Gi n S)(r:Int):Gi n (onS S r zbi).1:=by
 refine h.on1 r fun k R hR=>⟨hR.begin, ?_⟩
 unfold zbi
 split
 ·exact⟨rfl,rfl,rfl,Or.inl rfl⟩
 ·split<;>exact⟨rfl,rfl,rfl,Or.inl rfl⟩
theorem zxt(h:Gi n S)(r:Int):Gi n (onS S r zbw).1:=by
 refine h.on1 r fun k R hR=> ?_
 unfold zbw
 split
 ·exact⟨hR.end,rfl,rfl,rfl,Or.inl rfl⟩
 ·exact⟨hR,rfl,rfl,rfl,Or.inl rfl⟩
theorem zzq(h:Gi n S)(r:Int):Gi n (onS S r (fun R=>(syncR R,0))).1:=
 h.on1 r fun _ _ hR=>⟨hR.sync,rfl,rfl,rfl,Or.inr rfl⟩
theorem gi_do(h:Gi n S)(r op ob a b:Int):Gi n (onS S r (fun R=>doRR R op ob a b)).1:=by
 refine h.on1 r fun k R hR=> ?_
 have hs:RU n k R∧R.log=R.log∧R.clock=R.clock∧R.held=R.held∧(R.synced=R.synced∨R.synced=R.log.length):=⟨hR,rfl,rfl,rfl,Or.inl rfl⟩
 unfold doRR
 split
 ·exact hs
 ·rename_i h1
  split
  ·exact hs
  ·rename_i h2
   split
   ·exact hs
   ·rename_i h3
    split
    ·exact hs
    ·rename_i o ho
     split
     ·exact hs
     ·rename_i h4
      split
      ·exact hs
      ·rename_i h5
       split
       ·exact hs
       ·rename_i h6
        have h2:=Classical.byContradiction h2
        have h3:=Classical.byContradiction h3
        have he:=hR.el
        refine⟨hR.put (Classical.byContradiction h1) (by have:¬R.effs.length=5:=fun q=>h6 (Or.inr q);omega) op ob.toNat a b o (by omega) h3.1 h3.2.1 (by rw [Int.toNat_of_nonneg h2.1];exact h3.2.2) ho (Classical.byContradiction h4) h5 (fun q=>h6 (Or.inl q)),rfl,rfl,rfl,Or.inl rfl⟩
theorem zxr(h:Gi n S)(r k:Int):Gi n (onS S r (fun R=>(zb4 R k,0))).1:=
 h.onS r fun _ _ _ _ hG hk hL hRS hst=>hG.crash hk hL hRS hst k
theorem zzr(h:Gi n S)(r k:Int):Gi n (onS S r (fun R=>zha R k)).1:=by
 refine h.onS r fun q R L bs hG hk hL hRS hst=> ?_
 unfold zha
 by_cases h1:R.st=1
 ·simp only [if_pos h1];exact hG.fail hk hL hRS h1 k
 ·simp only [if_neg h1]
  rw [zf5 hk]
  exact⟨L,hG⟩
theorem zq1(h:Gi n S)(r:Int):Gi n (rstS S r).1:=by
 unfold rstS
 cases hr:rpS S r with
 | none=>exact h
 | some R=>
  obtain⟨k,rfl,hk⟩:=zb5 hr
  obtain⟨L,hG⟩:=h
  obtain⟨bs,hL,hRS⟩:=hG.rep k R hk
  by_cases hst:R.st=2
  ·simp only [if_pos hst,Int.toNat_natCast];exact⟨L,hG.restart hk hL hRS hst⟩
  ·simp only [if_neg hst];exact⟨L,hG⟩
theorem gi_ask(h:Gi n S)(r t:Int):Gi n (askS S r t).1:=by
 unfold askS
 cases hr:rpS S r with
 | none=>exact h
 | some R=>
  obtain⟨k,rfl,hk⟩:=zb5 hr
  obtain⟨L,hG⟩:=h
  obtain⟨bs,hL,hRS⟩:=hG.rep k R hk
  by_cases hst:R.st=2
  ·simp only [if_pos hst];exact⟨L,hG⟩
  ·simp only [if_neg hst]
   by_cases ht:¬(0<=t∧t<S.reps.length)∨t=k
   ·simp only [if_pos ht];exact⟨L,hG⟩
   ·simp only [if_neg ht]
    have h1:0<=t∧t<S.reps.length:=Classical.byContradiction (fun q=>ht (Or.inl q))
    obtain⟨q,rfl⟩:=Int.eq_ofNat_of_zero_le h1.1
    have:=hG.rl
    exact⟨L,hG.ask hRS.rlt (by omega) hRS.cl⟩
theorem Gi.ms(h:Gi n S)(i:Int){f:Ms->Sto×Int}(hf:∀(k:Nat) m L,i=k->GI n S L->S.msgs[k]?=some m->∃L',GI n (f m).1 L'):Gi n (msS S i f).1:=by
 rcases zeq S i with q | ⟨k,m,e,q⟩
 ·rw [zd6 q];exact h
 ·rw [e,zgf q]
  obtain⟨L,hG⟩:=h
  exact hf k m L e hG q
theorem zzs(h:Gi n S)(i:Int):Gi n (dropS S i).1:=by
 refine h.ms i fun k m L _ hG hk=>⟨L,hG.msgs fun x hx=>hG.msg x (List.mem_of_mem_eraseIdx hx)⟩
theorem zxo(h:Gi n S)(i:Int):Gi n (zih S i).1:=by
 refine h.ms i fun k m L _ hG hk=>⟨L,hG.msgs fun x hx=> ?_⟩
 rcases zgt hx with q | q
 ·exact hG.msg x q
 ·rw [q];exact hG.msg m (List.mem_of_getElem? hk)
theorem zxp(h:Gi n S)(i j k:Int):Gi n (zim S i j k).1:=by
 refine h.ms i fun q m L e hG hk=> ?_
 subst e
 by_cases hb:m.sp=true∨(k<1∨k>255)∨(j<0∨j≥m.bs.length)
 ·simp only [if_pos hb];exact⟨L,hG⟩
 ·simp only [if_neg hb,Int.toNat_natCast]
  have h1:m.sp=false:=by cases hq:m.sp with | false=>rfl | true=>exact absurd (Or.inl hq) hb
  have h2:1<=k∧k<=255:=⟨by refine Int.not_lt.1 (fun g=>hb (Or.inr (Or.inl (Or.inl g)))),by refine Int.not_lt.1 (fun g=>hb (Or.inr (Or.inl (Or.inr g))))⟩
  have h3:0<=j∧j<m.bs.length:=⟨by refine Int.not_lt.1 (fun g=>hb (Or.inr (Or.inr (Or.inl g)))),by refine Int.not_le.1 (fun g=>hb (Or.inr (Or.inr (Or.inr g))))⟩
  exact⟨L,hG.spoil hk h1 (by omega) (by omega) (by omega)⟩
theorem zq2(h:Gi n S)(i:Int):Gi n (delS S i).1:=by
 refine h.ms i fun k m L e hG hk=> ?_
 subst e
 simp only [Int.toNat_natCast]
 cases hR:S.reps[m.t.toNat]? with
 | none=>exact⟨L,hG⟩
 | some R=>exact hG.deliver hk hR
theorem zuo(h:Gi n S)(r:Int):Gi n (comS S r).1:=by
 unfold comS
 cases hr:rpS S r with
 | none=>exact h
 | some R=>
  obtain⟨k,rfl,hk⟩:=zb5 hr
  obtain⟨L,hG⟩:=h
  obtain⟨bs,hL,hRS⟩:=hG.rep k R hk
  by_cases hst:R.st=2
  ·simp only [if_pos hst];exact⟨L,hG⟩
  ·simp only [if_neg hst,Int.toNat_natCast]
   by_cases h1:R.st=1
   ·simp only [h1,ne_eq,not_true,if_false]
    by_cases he:R.effs= []
    ·simp only [if_pos he]
     exact⟨L,hG.same hk hL (hRS.same hst (hRS.up hst).1.end rfl rfl rfl (Or.inl rfl)) (fun b hb=>hb)⟩
    ·simp only [if_neg he]
     exact⟨_,hG.commit hk hL hRS h1 he⟩
   ·simp only [h1,ne_eq,not_false_iff,if_true];exact⟨L,hG⟩
theorem zxq(n:Nat)(h2:2<=n)(h4:n<=4):Gi n ⟨(List.range n).map (fun r=>newR r n), []⟩:=⟨_,GI.new n h2 h4⟩
end
def St1(w:World)(own:Clr)(s:Nat)(S:Sto):Prop:=∃rg cc pp ch pv prs,StIn w own s rg cc pp ch pv prs S
def Zb(Z:List (Nat×Obj))(own:Clr)(w:World):Prop:=∀p∈Z,¬(1<=own p.1∧own p.1<=100)∧w.heap[p.1]?=some p.2
structure T2o(Z:List (Nat×Obj))(w0 w:World)(eb ef:Addr)(x:Nat)(X:Sto)(y:Nat)(Y:Sto)(ox oy:Clr):Prop where
 sx:St1 w ox x X
 sy:St1 w oy y Y
 ex:Env w0 w ox eb ef
 ey:Env w0 w oy eb ef
 dx:∀b,b<w.heap.size->1<=ox b->ox b<=100->oy b=700
 dy:∀b,b<w.heap.size->1<=oy b->oy b<=100->ox b=700
 zx:Zb Z ox w
 zy:Zb Z oy w
def T2(Z:List (Nat×Obj))(w0 w:World)(eb ef:Addr)(x:Nat)(X:Sto)(y:Nat)(Y:Sto):Prop:=∃ox oy,T2o Z w0 w eb ef x X y Y ox oy
theorem St1.keep{w w':World}{own own':Clr}{s:Nat}{S:Sto}(h:St1 w own s S)(hSm:∀d,d ≠ 700->Same own d w w')(he:Ext own own' w.heap.size):St1 w' own' s S:=by
 obtain⟨rg,cc,pp,ch,pv,prs,hS⟩:=h
 have hr:=hS.rlt
 exact⟨rg,cc,pp,ch,pv,prs,(hSm 900 (by omega) s hS.blk.lt hS.own1).trans hS.blk,fun r h1=>za8 (hS.row r h1) (hSm 900 (by omega) rg hr hS.own2),hS.len,hS.most,hS.least,(he s hS.blk.lt).trans hS.own1,(he rg hr).trans hS.own2,fun r h1 h2=>(hS.reps r h1 h2).keep (hSm 0 (by omega)) (fun d hd1 hd2=>hSm d (by have:=hS.most;have:=hS.len;omega)) he,hS.post.keep (hSm 100 (by omega)) he⟩
theorem Env.tchx{F:Nat->Prop}{w0 w w':World}{own own':Clr}{eb ef:Addr}(h:Env w0 w own eb ef)(hT:Tch F w w')(hF:∀k,k<w.heap.size->own k=0->¬F k)(hE:Ext own own' w.heap.size):Env w0 w' own' eb ef:=
 ⟨h.gl,h.pw,h.bel.trans (hT.toBelow h.bel.size (fun k hk=>hF k (Nat.lt_of_lt_of_le hk h.bel.size) (h.own0 k hk))),fun b hb=>(hE b (Nat.lt_of_lt_of_le hb h.bel.size)).trans (h.own0 b hb)⟩
theorem Zb.lt{Z:List (Nat×Obj)}{own:Clr}{w:World}(h:Zb Z own w){p:Nat×Obj}(hp:p∈Z):p.1<w.heap.size:=(Array.getElem?_eq_some_iff.1 (h p hp).2).1
theorem Zb.tch{Z:List (Nat×Obj)}{own own' ow:Clr}{w w':World}(h:Zb Z own w)(hw:Zb Z ow w)(hE:Ext own own' w.heap.size)(hT:Tch (fun k=>1<=ow k∧ow k<=100) w w'):Zb Z own' w':=fun p hp=>by
 have hl:=h.lt hp
 exact⟨by rw [hE _ hl];exact(h p hp).1,(hT.block p.1 hl (hw p hp).1).trans (h p hp).2⟩
theorem Zb.news{Y Z:List (Nat×Obj)}{own:Clr}{w w':World}(h:Zb Z own w)(hb:Below w.heap.size w w')(hY:∀p∈Y,w.heap.size<=p.1∧w'.heap[p.1]?=some p.2):Zb (Y++Z) (newTo own w.heap.size 700) w':=fun p hp=>by
 rcases List.mem_append.1 hp with q | q
 ·refine⟨?_,(hY p q).2⟩
  rw [zaf _ _ _ _ (hY p q).1]
  omega
 ·have hl:=h.lt q
  exact⟨by rw [zae _ _ _ _ hl];exact(h p q).1,(hb.block p.1 hl).trans (h p q).2⟩
theorem Zb.less{Y Z:List (Nat×Obj)}{own:Clr}{w:World}(h:Zb (Y++Z) own w):Zb Z own w:=fun p hp=>h p (List.mem_append.2 (.inr hp))
section
variable {Z V : List (Nat × Obj)} {w0 w w' : World} {eb ef : Addr} {x y : Nat} {X X' Y Y' : Sto}
theorem T2.swap(h:T2 Z w0 w eb ef x X y Y):T2 Z w0 w eb ef y Y x X:=by
 obtain⟨ox,oy,h⟩:=h
 exact⟨oy,ox,h.sy,h.sx,h.ey,h.ex,h.dy,h.dx,h.zy,h.zx⟩
theorem T2o.step{ox oy:Clr}(h:T2o Z w0 w eb ef x X y Y ox oy)(ho:StOk w0 w ox x X' eb ef w'):T2 Z w0 w' eb ef x X' y Y:=by
 obtain⟨ox',rg,cc,pp,ch,pv,prs,hE,hS,hen,hT⟩:=ho
 refine⟨ox',newTo oy w.heap.size 700,⟨_,_,_,_,_,_,hS⟩,h.sy.keep (fun d hd b hb hbd=>hT.block b hb (fun q=>hd (by rw [←hbd];exact h.dx b hb q.1 q.2))) (zab _ _ _),hen,h.ey.tchx hT (fun k hk q q2=>by have:=h.dx k hk q2.1 q2.2;omega) (zab _ _ _),fun b hb h1 h2=> ?_,fun b hb h1 h2=> ?_,h.zx.tch h.zx hE hT,h.zy.tch h.zx (zab _ _ _) hT⟩
 ·by_cases hbo:b<w.heap.size
  ·rw [zae _ _ _ _ hbo]
   rw [hE b hbo] at h1 h2
   exact h.dx b hbo h1 h2
  ·exact zaf _ _ _ _ (by omega)
 ·by_cases hbo:b<w.heap.size
  ·rw [zae _ _ _ _ hbo] at h1 h2
   rw [hE b hbo]
   exact h.dy b hbo h1 h2
  ·rw [zaf _ _ _ _ (by omega)] at h2
   omega
theorem T2.more(h:T2 Z w0 w eb ef x X y Y)(hb:Below w.heap.size w w')(hV:∀p∈V,w.heap.size<=p.1∧w'.heap[p.1]?=some p.2):T2 (V++Z) w0 w' eb ef x X y Y:=by
 obtain⟨ox,oy,h⟩:=h
 refine⟨newTo ox w.heap.size 700,newTo oy w.heap.size 700,h.sx.keep (fun d _ b hl _=>hb.block b hl) (zab _ _ _),h.sy.keep (fun d _ b hl _=>hb.block b hl) (zab _ _ _),h.ex.tchx (F:=fun _=>False) (Tch.below hb) (fun _ _ _ h=>h) (zab _ _ _),h.ey.tchx (F:=fun _=>False) (Tch.below hb) (fun _ _ _ h=>h) (zab _ _ _),fun b hb h1 h2=> ?_,fun b hb h1 h2=> ?_,h.zx.news hb hV,h.zy.news hb hV⟩
 ·by_cases hbo:b<w.heap.size
  ·rw [zae _ _ _ _ hbo] at h1 h2 ⊢
   exact h.dx b hbo h1 h2
  ·exact zaf _ _ _ _ (by omega)
 ·by_cases hbo:b<w.heap.size
  ·rw [zae _ _ _ _ hbo] at h1 h2 ⊢
   exact h.dy b hbo h1 h2
  ·exact zaf _ _ _ _ (by omega)
theorem T2.less(h:T2 (V++Z) w0 w eb ef x X y Y):T2 Z w0 w eb ef x X y Y:=by
 obtain⟨ox,oy,h⟩:=h
 exact⟨ox,oy,h.sx,h.sy,h.ex,h.ey,h.dx,h.dy,h.zx.less,h.zy.less⟩
theorem T2.kz(h:T2 Z w0 w eb ef x X y Y):∀p∈Z,w.heap[p.1]?=some p.2:=by
 obtain⟨ox,oy,h⟩:=h
 exact fun p hp=>(h.zx p hp).2
theorem T2.second{ox:Clr}(hen:Env w0 w' ox eb ef)(hS:St1 w' ox x X):Env w0 w' (newTo (fun _=>0) w0.heap.size 700) eb ef∧∀w2,StOk w0 w' (newTo (fun _=>0) w0.heap.size 700) y Y eb ef w2->T2 [] w0 w2 eb ef x X y Y:=by
 have hE0:Env w0 w' (newTo (fun _=>0) w0.heap.size 700) eb ef:=⟨hen.gl,hen.pw,hen.bel,fun b hb=>zae _ _ _ _ hb⟩
 refine⟨hE0,fun w2 h2=> ?_⟩
 obtain⟨oy,rg2,cc2,pp2,ch2,pv2,prs2,hE2,hS2,hen2,hT2⟩:=h2
 have hno:∀k,¬(1<=newTo (fun _=>0) w0.heap.size 700 k∧newTo (fun _=>0) w0.heap.size 700 k<=100):=fun k=>by
  unfold newTo
  split
  ·show¬(1<=0∧0<=100);omega
  ·omega
 have hb:Below w'.heap.size w' w2:=hT2.toBelow (Nat.le_refl _) (fun k hk=>hno k)
 refine⟨newTo ox w'.heap.size 700,oy,hS.keep (fun d _ b hl _=>hb.block b hl) (zab _ _ _),⟨_,_,_,_,_,_,hS2⟩,hen.tchx hT2 (fun k _ _=>hno k) (zab _ _ _),hen2,fun b hb h1 h2=> ?_,fun b hb h1 h2=> ?_,fun p hp=>(by cases hp),fun p hp=>(by cases hp)⟩
 ·by_cases hbo:b<w'.heap.size
  ·rw [zae _ _ _ _ hbo] at h1 h2
   rw [hE2 b hbo]
   by_cases h0:b<w0.heap.size
   ·have:=hen.own0 b h0
    omega
   ·exact zaf _ _ _ _ (by omega)
  ·rw [zaf _ _ _ _ (by omega)] at h2
   omega
 ·by_cases hbo:b<w'.heap.size
  ·rw [hE2 b hbo] at h1 h2
   exact absurd ⟨h1,h2⟩ (hno b)
  ·exact zaf _ _ _ _ (by omega)
end
def rdS(S:Sto)(r k:Int):List Int×Int:=match rpS S r with
 | none=>([],3)
 | some R=>if R.st=2 then([],4) else if 0<=k∧k<8 then(match R.obs[k.toNat]? with | none=>([],8) | some o=>((seeTo (pendB R) k.toNat o R.effs.length).tells,0)) else([],8)
def opsS:Ops Sto where
 bgn S r:=onS S r zbi
 abt S r:=onS S r zbw
 doo S r op ob a b:=onS S r (fun R=>doRR R op ob a b)
 com S r:=comS S r
 dlv S i:=delS S i
 drp S i:=dropS S i
 twc S i:=zih S i
 spl S i j k:=zim S i j k
 ask S r t:=askS S r t
 syn S r:=onS S r (fun R=>(syncR R,0))
 crs S r k:=onS S r (fun R=>(zb4 R k,0))
 fal S r k:=onS S r (fun R=>zha R k)
 rst S r:=rstS S r
 rd S r k:=rdS S r k
def Hosts(w0:World)(eb ef:Addr)(s:Nat)(Q:Sto->World->Prop):Prop:=∀S w,Q S w->∃own,Env w0 w own eb ef∧St1 w own s S∧∀S' w',StOk w0 w own s S' eb ef w'->Q S' w'
def S1(Z:List (Nat×Obj))(w0:World)(eb ef:Addr)(s:Nat)(S:Sto)(w:World):Prop:=∃own,Env w0 w own eb ef∧St1 w own s S∧Zb Z own w
theorem hosts1(Z:List (Nat×Obj))(w0:World)(eb ef:Addr)(s:Nat):Hosts w0 eb ef s (S1 Z w0 eb ef s):=by
 rintro S w ⟨own,h1,h2,h3⟩
 refine⟨own,h1,h2,fun S' w' h=> ?_⟩
 obtain⟨own',rg,cc,pp,ch,pv,prs,hE,hS,hen,hT⟩:=h
 exact⟨own',hen,⟨rg,cc,pp,ch,pv,prs,hS⟩,h3.tch h3 hE hT⟩
theorem zxl(Z:List (Nat×Obj))(w0:World)(eb ef:Addr)(x y:Nat)(Y:Sto):Hosts w0 eb ef x (fun X w=>T2 Z w0 w eb ef x X y Y):=by
 rintro X w ⟨ox,oy,h⟩
 exact⟨ox,h.ex,h.sx,fun S' w' ho=>h.step ho⟩
theorem zjd(Z:List (Nat×Obj))(w0:World)(eb ef:Addr)(x y:Nat)(X:Sto):Hosts w0 eb ef y (fun Y w=>T2 Z w0 w eb ef x X y Y):=by
 rintro Y w ⟨ox,oy,h⟩
 have h':T2o Z w0 w eb ef y Y x X oy ox:=⟨h.sy,h.sx,h.ey,h.ex,h.dy,h.dx,h.zy,h.zx⟩
 exact⟨oy,h.ey,h.sy,fun S' w' ho=>(h'.step ho).swap⟩
section
variable {w0 : World} {eb ef : Addr} {n : Nat}
theorem Hosts.cl{s:Nat}{Q:Sto->World->Prop}(hQ:Hosts w0 eb ef s Q){S:Sto}{w:World}{fn:Nat}(args:List Int){a:Sto×Int}(h:Gi n S∧Q S w)(hG:Gi n a.1)(hd:Doing w0 eb ef fn args S a.1 a.2):Cl (fun S w=>Gi n S∧Q S w) fn (#[sV s]++(args.map I).toArray) w a:=by
 obtain⟨own,hen,⟨rg,cc,pp,ch,pv,prs,hS⟩,hst⟩:=hQ S w h.2
 exact(hd own s rg cc pp ch pv prs w hen hS).mono (fun e w' hh=>⟨hh.1,hG,hst _ _ hh.2⟩)
theorem zd4(w':World)(b:Nat):w'.ownsRow b 3 1 (.slice none 0 0) ([]:List Int).length (([]:List Int).map I):=World.ownsRow_nil _ _ _ _
theorem znl{S:Sto}(hG:Gi n S)(own:Clr)(s rg cc pp ch:Nat)(pv:Value)(prs:List Nat)(w:World)(hS:StIn w own s rg cc pp ch pv prs S)(r k:Int):Rl 14 #[sV s,I r,I k] w (rdS S r k):=by
 unfold Rl rdS
 cases hr:rpS S r with
 | none=>
  refine(zkk k (zdr own s rg cc pp ch pv prs S r w hS (zel hr)).up).mono ?_
  rintro e w' ⟨rfl,rfl⟩
  exact⟨_,rfl,zd4 _ _,Below.refl _ _⟩
 | some R=>
  obtain⟨q,rfl,hq⟩:=zb5 hr
  by_cases hst:R.st=2
  ·simp only [if_pos hst]
   refine(zkk k (zc1 own s rg cc pp ch pv prs S q R hq hst w hS)).mono ?_
   rintro e w' ⟨rfl,rfl⟩
   exact⟨_,rfl,zd4 _ _,Below.refl _ _⟩
  ·simp only [if_neg hst]
   obtain⟨L,hG⟩:=hG
   obtain⟨bs,hL,hRS⟩:=hG.rep q R hq
   have hRU:=(hRS.up hst).1
   by_cases hk:0<=k∧k<8
   ·simp only [if_pos hk]
    obtain⟨j,rfl⟩:=Int.eq_ofNat_of_zero_le hk.1
    obtain⟨o,ho,_,_⟩:=hRU.obs j (by omega)
    simp only [Int.toNat_natCast,ho]
    exact zsu own s rg cc pp ch pv prs S q R j o w hS hq hRU.up ho
   ·simp only [if_neg hk]
    refine(zvp hS hq hRU.up k hk).mono ?_
    rintro e w' ⟨rfl,hb⟩
    exact⟨_,rfl,zd4 _ _,hb⟩
theorem zgs(hI:zai)(hg:Gd w0)(hgg:Gg w0){s:Nat}{Q:Sto->World->Prop}(hQ:Hosts w0 eb ef s Q):Api opsS (fun S w=>Gi n S∧Q S w) s where
 bel S w w' h hb:=by
  obtain⟨own,hen,⟨rg,cc,pp,ch,pv,prs,hS⟩,hst⟩:=hQ S w h.2
  exact⟨h.1,hst _ _ (StOk.below hS hen hb)⟩
 bgn S w r h:=hQ.cl [r] h (zxs h.1 r) (by obtain⟨L,hG⟩:=h.1;exact zot hG r)
 abt S w r h:=hQ.cl [r] h (zxt h.1 r) (by obtain⟨L,hG⟩:=h.1;exact zou hG r)
 doo S w r op ob a b h:=hQ.cl [r,op,ob,a,b] h (gi_do h.1 r op ob a b) (by obtain⟨L,hG⟩:=h.1;exact zx7 hG r op ob a b)
 com S w r h:=by
  obtain⟨own,hen,⟨rg,cc,pp,ch,pv,prs,hS⟩,hst⟩:=hQ S w h.2
  obtain⟨L,hG⟩:=h.1
  exact(zmm hI hG r own s rg cc pp ch pv prs w hen hS).mono (fun e w' hh=>⟨hh.1,zuo h.1 r,hst _ _ hh.2⟩)
 dlv S w i h:=hQ.cl [i] h (zq2 h.1 i) (by obtain⟨L,hG⟩:=h.1;exact zke hI hg hgg hG i)
 drp S w i h:=hQ.cl [i] h (zzs h.1 i) (zrl i)
 twc S w i h:=hQ.cl [i] h (zxo h.1 i) (zoq i)
 spl S w i j k h:=hQ.cl [i,j,k] h (zxp h.1 i j k) (by obtain⟨L,hG⟩:=h.1;exact zor hG i j k)
 ask S w r t h:=hQ.cl [r,t] h (gi_ask h.1 r t) (by obtain⟨L,hG⟩:=h.1;exact zu0 hG r t)
 syn S w r h:=hQ.cl [r] h (zzq h.1 r) (zrj r)
 crs S w r k h:=hQ.cl [r,k] h (zxr h.1 r k) (by obtain⟨L,hG⟩:=h.1;exact zos hG r k)
 fal S w r k h:=hQ.cl [r,k] h (zzr h.1 r k) (by obtain⟨L,hG⟩:=h.1;exact zrk hI hG r k)
 rst S w r h:=hQ.cl [r] h (zq1 h.1 r) (by obtain⟨L,hG⟩:=h.1;exact zkd hI hg hG r)
 rd S w r o h:=by
  obtain⟨own,hen,⟨rg,cc,pp,ch,pv,prs,hS⟩,hst⟩:=hQ S w h.2
  exact znl h.1 own s rg cc pp ch pv prs w hS r o
end
theorem beg2:BegOk opsS (newS 2):=⟨by rfl,by rfl,by rfl,by rfl,by rfl,by rfl,by rfl⟩
theorem beg3:BegOk opsS (newS 3):=⟨by rfl,by rfl,by rfl,by rfl,by rfl,by rfl,by rfl⟩
theorem beg4:BegOk opsS (newS 4):=⟨by rfl,by rfl,by rfl,by rfl,by rfl,by rfl,by rfl⟩
theorem beg_any(n:Nat)(h2:2<=n)(h4:n<=4):BegOk opsS (newS n):=by
 obtain rfl | rfl | rfl:n=2∨n=3∨n=4:=by omega
 ·exact beg2
 ·exact beg3
 ·exact beg4
theorem zgd{S:Sto}{r:Int}{f:Rp->Rp×Int}(h:rpS S r=none):onS S r f=(S,3):=by unfold onS;rw [h]
theorem bad_any{n:Nat}{S:Sto}(hn:S.reps.length=n)(hm:S.msgs.length<=40):Bad opsS n S:=by
 have h:∀r:Int,r<0∨n<=r->rpS S r=none:=fun r hr=>by
  unfold rpS
  split
  ·exact List.getElem?_eq_none (by omega)
  ·rfl
 have hi:∀i:Int,i<0∨40<=i->¬(0<=i∧i<S.msgs.length):=fun i hi=>by omega
 exact⟨fun r hr=>zgd (h r hr),fun r hr=>zgd (h r hr),fun r hr=>by show comS S r=_;unfold comS;rw [h r hr],fun r k hr=>by show rdS S r k=_;unfold rdS;rw [h r hr],fun r _ _ _ _ hr=>zgd (h r hr),fun r t hr=>by show askS S r t=_;unfold askS;rw [h r hr],fun r _ hr=>zgd (h r hr),fun r hr=>by show rstS S r=_;unfold rstS;rw [h r hr],fun r _ hr=>zgd (h r hr),
  fun i hq=>zd6 (hi i hq),fun i hq=>zd6 (hi i hq),fun i hq=>zd6 (hi i hq),fun i _ _ hq=>zd6 (hi i hq)⟩
theorem zvh{w0:World}{eb ef:Addr}{n s:Nat}{Q:Sto->World->Prop}(hQ:Hosts w0 eb ef s Q){S:Sto}{w:World}(h:Gi n S∧Q S w):Bad opsS n S:=by
 obtain⟨own,hen,⟨rg,cc,pp,ch,pv,prs,hS⟩,hst⟩:=hQ S w h.2
 obtain⟨L,hG⟩:=h.1
 exact bad_any hG.rl hS.post.most
theorem zs3{o:Ob}{N:Nat}(h:o.bound N)(h1:1<=N):o.tells.length<=N:=by
 cases o with
 | counter n=>exact h1
 | list ls=>
  show((zah ls).map El.v).length<=N
  rw [List.length_map]
  exact Nat.le_trans (List.length_filter_le _ _) h
 | set m=>
  show(compI (sortI (m.map (·.2)))).length<=N
  refine Nat.le_trans (zld _) ?_
  rw [(zd2 _).length_eq,List.length_map]
  exact h
 | reg m=>
  show(rvals m).length<=N
  unfold rvals
  rw [List.length_map,zdo,List.length_map]
  exact h
theorem zy9{n:Nat}{S:Sto}(hG:Gi n S)(r k:Int):(rdS S r k).1.length<=100000:=by
 unfold rdS
 cases hr:rpS S r with
 | none=>exact Nat.zero_le _
 | some R=>
  obtain⟨q,rfl,hq⟩:=zb5 hr
  obtain⟨L,hG⟩:=hG
  obtain⟨bs,hL,hRS⟩:=hG.rep q R hq
  by_cases hst:R.st=2
  ·simp only [if_pos hst];exact Nat.zero_le _
  ·simp only [if_neg hst]
   have hup:=(hRS.up hst).1.up
   split
   ·split
    ·exact Nat.zero_le _
    ·rename_i o ho
     exact zs3 (Ob.bound_mono (zci (b:=pendB R) (hup.ok.bd o (List.mem_of_getElem? ho)) hup.hv R.effs.length (Nat.le_refl _)) hup.hN) (by omega)
   ·exact Nat.zero_le _
def lgS(S:Sto)(r:Nat):List UInt8:=match S.reps[r]? with | none=> [] | some R=>R.log
def hdS(S:Sto)(r:Nat):Int:=match S.reps[r]? with | none=>0 | some R=>R.held.length
def ckS(S:Sto)(r:Nat):List Int:=match S.reps[r]? with | none=> [] | some R=>R.clock
section
variable {w0 : World} {eb ef : Addr} {n : Nat} {S : Sto} {w : World} {own : Clr} {s rg cc pp ch : Nat} {pv : Value} {prs : List Nat}
theorem zyo(hG:Gi n S)(hS:StIn w own s rg cc pp ch pv prs S):Asks n s w (lgS S) (hdS S) (ckS S) (fun r o=>rdS S r o) S.msgs.length (flat zas S.msgs):=by
 have hr:∀r:Nat,r<n->∃R,S.reps[r]?=some R∧R.clock.length<=1000:=fun r hr=>by
  obtain⟨L,hG⟩:=hG
  have hl:r<S.reps.length:=by rw [hG.rl];exact hr
  obtain⟨bs,hL,hRS⟩:=hG.rep r _ (List.getElem?_eq_getElem hl)
  exact⟨_,List.getElem?_eq_getElem hl,by rw [hRS.cl];have:=hRS.n4;omega⟩
 refine⟨fun r h=> ?_,fun r h=> ?_,fun r h=> ?_,fun r o=>znl hG own s rg cc pp ch pv prs w hS r o,zsv own s rg cc pp ch pv prs S w hS⟩
 ·obtain⟨R,h1,h2⟩:=hr r h
  unfold lgS;rw [h1];exact zvq hS h1
 ·obtain⟨R,h1,h2⟩:=hr r h
  unfold hdS;rw [h1];exact zsw own s rg cc pp ch pv prs S r R w hS h1
 ·obtain⟨R,h1,h2⟩:=hr r h
  unfold ckS;rw [h1];exact zpj own s rg cc pp ch pv prs S r R w hS h1 h2
theorem zz9(hG:Gi n S)(r:Nat):(ckS S r).length<=1000:=by
 unfold ckS
 cases h:S.reps[r]? with
 | none=>exact Nat.zero_le _
 | some R=>
  obtain⟨L,hG⟩:=hG
  obtain⟨bs,hL,hRS⟩:=hG.rep r _ h
  show R.clock.length<=1000
  rw [hRS.cl];have:=hRS.n4;omega
theorem zjy{Q:Sto->World->Prop}(hQ:Hosts w0 eb ef s Q)(h:Gi n S∧Q S w):Asks n s w (lgS S) (hdS S) (ckS S) (fun r o=>rdS S r o) S.msgs.length (flat zas S.msgs):=by
 obtain⟨own,hen,⟨rg,cc,pp,ch,pv,prs,hS⟩,hst⟩:=hQ S w h.2
 exact zyo h.1 hS
end
section
variable {w : World} {eb ef : Addr} {n : Nat}
theorem apz2(hI:zai)(hg:Gd w)(hgg:Gg w)(x y:Nat)(Y:Sto):Apz opsS (fun Z S w'=>Gi n S∧T2 Z w w' eb ef x S y Y) x where
 api Z:=zgs hI hg hgg (zxl Z w eb ef x y Y)
 kz _ _ _ h:=h.2.kz
 more _ _ _ _ _ h hb hV:=⟨h.1,h.2.more hb hV⟩
 less _ _ _ _ h:=⟨h.1,h.2.less⟩
theorem apz3(hI:zai)(hg:Gd w)(hgg:Gg w)(x y:Nat)(X:Sto):Apz opsS (fun Z S w'=>Gi n S∧T2 Z w w' eb ef x X y S) y where
 api Z:=zgs hI hg hgg (zjd Z w eb ef x y X)
 kz _ _ _ h:=h.2.kz
 more _ _ _ _ _ h hb hV:=⟨h.1,h.2.more hb hV⟩
 less _ _ _ _ h:=⟨h.1,h.2.less⟩
def Rr2(n:Nat)(w:World)(eb ef:Addr)(x y:Nat)(X Y:Sto)(w':World):Prop:=Gi n X∧Gi n Y∧T2 [] w w' eb ef x X y Y
theorem rf_any(hI:zai)(hg:Gd w)(hgg:Gg w)(hgl:Gl w eb ef)(hpw:Pw w)(h2:2<=n)(h4:n<=4):Rf opsS n w (begF opsS (newS n)) (Rr2 n w eb ef) where
 bel _ _ _ _ _ h:=by
  obtain⟨_,_,ox,oy,h⟩:=h
  exact h.ex.bel
 new _ _ _ _ _ _ h hb:=⟨h.1,h.2.1,h.2.2.more (V:= []) hb (fun p hp=>by cases hp)⟩
 beg:=by
  have hb:=beg_any n h2 h4
  have hen:Env w w (fun _=>0) eb ef:=⟨hgl,hpw,Below.refl _ _,fun _ _=>rfl⟩
  refine(zlj (P:=fun s S w'=>Gi n S∧S1 [] w eb ef s S w') (fun s=>zgs hI hg hgg (hosts1 [] w eb ef s)) hb w ((zmy (fun _=>0) n w w eb ef hen h2 h4).mono ?_)).mono ?_
  ·rintro e w' ⟨s,rfl,⟨own',rg,cc,pp,ch,pv,prs,hE,hS,hen',hT⟩,_⟩
   exact⟨s,rfl,zxq n h2 h4,own',hen',⟨_,_,_,_,_,_,hS⟩,fun p hp=>by cases hp⟩
  ·rintro e w' ⟨x,rfl,hGx,ox,hex,hSx,_⟩
   refine⟨x,rfl, ?_⟩
   obtain⟨hE0,hT⟩:=T2.second (y:=0) (Y:=newS n) hex hSx
   refine(zlj (P:=fun s S w2=>Gi n S∧T2 [] w w2 eb ef x (begF opsS (newS n)) s S) (fun s=>zgs hI hg hgg (zjd [] w eb ef x s (begF opsS (newS n)))) hb w' ((zmy _ n w' w eb ef hE0 h2 h4).mono ?_)).mono ?_
   ·rintro e w2 ⟨s,rfl,ho,_⟩
    exact⟨s,rfl,zxq n h2 h4,(T2.second hex hSx).2 w2 ho⟩
   ·rintro e w2 ⟨y,rfl,hGy,hT2⟩
    exact⟨y,rfl,hGx,hGy,hT2⟩
 dox x y _ Y w' o ho h:=(zov (apz2 hI hg hgg x y Y) o ho ⟨by omega,h4⟩ w' (Z:= []) ⟨h.1,h.2.2⟩).mono (fun e w2 hh=>⟨hh.1,hh.2.1,h.2.1,hh.2.2⟩)
 doy x y X _ w' o ho h:=(zov (apz3 hI hg hgg x y X) o ho ⟨by omega,h4⟩ w' (Z:= []) ⟨h.2.1,h.2.2⟩).mono (fun e w2 hh=>⟨hh.1,h.1,hh.2.1,hh.2.2⟩)
 wrg x y X _ w' v hv h:=(zst (P:=fun S w'=>Gi n S∧T2 [] w w' eb ef x X y S) (zgs hI hg hgg (zjd [] w eb ef x y X)) (fun S w1 hp=>zvh (zjd [] w eb ef x y X) hp) h4 v hv w' ⟨h.2.1,h.2.2⟩).mono (fun e w2 hh=>⟨hh.1,h.1,hh.2.1,hh.2.2⟩)
 alk x y X w' h:=by
  have hk:X.msgs.length<=40:=by
   obtain⟨_,_,ox,oy,h⟩:=h
   obtain⟨rg,cc,pp,ch,pv,prs,hS⟩:=h.sx
   exact hS.post.most
  have htwo:Two (fun w'=>Gi n X∧T2 [] w w' eb ef x X y X) n x y (lgS X) (hdS X) (ckS X) (fun r o=>rdS X r o) X.msgs.length (flat zas X.msgs):=by
   refine⟨fun w1 w2 hp hb=>⟨hp.1,hp.2.more (V:= []) hb (fun p hq=>by cases hq)⟩,fun w1 hp=>zjy (zxl [] w eb ef x y X) hp,fun w1 hp=>zjy (zjd [] w eb ef x y X) hp,fun r=>Nat.le_trans (zz9 h.1 r) (by omega),fun r o=>Nat.le_trans (zy9 h.1 r o) (by omega),hk,fun i hi=> ?_⟩
   have hg:=fun(j:Nat) (hj:j<4)=>zan zas 4 (fun _=>rfl) X.msgs i hi j hj
   exact⟨X.msgs[i].k,X.msgs[i].f,X.msgs[i].t,⟨X.msgs[i].bs.toArray⟩,(hg 0 (by omega)).trans rfl,(hg 1 (by omega)).trans rfl,(hg 2 (by omega)).trans rfl,(hg 3 (by omega)).trans rfl⟩
  exact(zvj htwo (fun xs ys a b ca cb w ha hb hl=>zux xs ys a b ca cb w ha hb hl) h4 w' ⟨h.1,h.2.2⟩).mono (fun e w2 hh=>⟨hh.1,h.1,h.1,hh.2.2⟩)
theorem znj(many v:Int)(hm:Rg many)(hv:Rg v)(hI:zai)(hg:Gd w)(hgg:Gg w)(hgl:Gl w eb ef)(hpw:Pw w)(aa:Option Addr)(ca:Nat)(raws:List Sp)(hat:SpAt w aa raws)(hok:∀o∈raws,SpOk o)(hll:raws.length<=9223372036854775807):
  Calls Tryz.prog 5 #[I many, .slice aa raws.length ca,I v] w fun e w'=>e= .returned (.bool true)∧Below w.heap.size w w':=by
 obtain⟨n0,n1⟩:=Wv.pk_lt many 3 (by decide)
 obtain⟨n,hn⟩:∃n:Nat,2+Wv.pk many 3=n:=Int.eq_ofNat_of_zero_le (by omega)
 exact zl5 many v hm hv hn.symm (rf_any (eb:=eb) (ef:=ef) hI hg hgg hgl hpw (by omega) (by omega)) aa ca raws hat hok hll
end
end Go.Proofs.YtfmcngncaffloabGreatDoor
