import Derived.Test.YtfmcngncaffloabGreatDoorJ49AgH
import Derived.Test.YtfmcngncaffloabGreatDoorJ21KgC
namespace Go.Proofs.YtfmcngncaffloabGreatDoor
open Go.RowKit Go.Proofs.Tryz Wv
set_option maxRecDepth 100000
section
variable {ls : List Int} {n : Nat} {S : Sto} {L : List (List Bt)}
theorem zrc{n:Nat}(kn:List Int):∀(bs:List Bt) (m:Nat) (acc:List (List UInt8)) (f:List UInt8),(∀b∈bs,Gb n b)->f∈ansL kn m (FrB bs) acc->f∈acc∨∃b∈bs,f=frameB b
 | [],m,acc,f,_,hf=>by
  rw [zgg,zis zhk] at hf;exact Or.inl hf
 | b::bs,m,acc,f,hb,hf=>by
  have hgb:=hb b (by simp);have e1:fstB (FrB (b::bs))=frameB b:=by rw [za3,zdm hgb.isB]
  have e2:dec (fstB (FrB (b::bs)))=some b:=by rw [e1];exact dec_frame b hgb.isB
  have e3:(FrB (b::bs)).drop (fstB (FrB (b::bs))).length=FrB bs:=by rw [e1,za3,List.drop_left]
  cases m with
  | zero=>exact Or.inl hf
  | succ m=>
   rw [ansL,e2] at hf;simp only [e3] at hf;rw [e1] at hf
   have hin:∀x,x∈(if b.s>kn.getD b.o.toNat 0 then acc++ [frameB b] else acc)->x∈acc∨x=frameB b:=fun x hx=>by
    split at hx
    ·rcases ao.1 hx with q | q
     ·exact Or.inl q
     ·exact Or.inr (aB.1 q)
    ·exact Or.inl hx
   generalize hac:(if b.s>kn.getD b.o.toNat 0 then acc++ [frameB b] else acc)=acc' at *
   have fin:f∈acc'->f∈acc∨∃c∈b::bs,f=frameB c:=fun q=>(hin f q).imp id (fun e=>⟨b,by simp,e⟩)
   split at hf
   ·exact fin hf
   ·rcases zrc kn bs m acc' f (fun x hx=>hb x (by simp [hx])) hf with q | ⟨c,q1,q2⟩
    ·exact fin q
    ·exact Or.inr ⟨c,by simp [q1],q2⟩
theorem GI.crash(h:GI ls n S L){r:Nat}{R:Rp}{bs:List Bt}(hR:S.reps[r]?=some R)(hL:L[r]?=some bs)(hS:RS n r R bs)(hu:R.st ≠ 2)(k:Int):∃L',GI ls n {S with reps:=S.reps.set r (zch R k)} L':=by
 obtain⟨g1,g2,g3,_,g5⟩:=hS.up hu;have hll:R.log.length<=9000000:=by have h1:=g1.ok.logl;have h2:=g1.ok.sum;omega
 obtain⟨i,h1,h2,h3⟩:=hS.cut hu (bs2:= []) (lg:=R.log) (fun b hb=>by cases hb) (by rw [List.append_nil];exact hS.due) (by rw [List.append_nil];exact g2) hll (by rw [List.append_nil];exact hS.lo) k;rw [List.append_nil] at h1 h2 h3;refine⟨_,h.set hR hL h2 h3 h1 (fun b hb=>(h.top bs (an hL) b (List.mem_of_mem_take hb)).up hL h3) (fun b hb=> ?_)⟩;cases hb
theorem GI.fail(h:GI ls n S L){r:Nat}{R:Rp}{bs:List Bt}(hR:S.reps[r]?=some R)(hL:L[r]?=some bs)(hS:RS n r R bs)(h1:R.st=1)(k:Int):∃L',GI ls n {S with reps:=S.reps.set r (failR R k)} L':=by
 have hu:R.st ≠ 2:=by omega
 unfold failR;by_cases he:R.effs= []
 ·rw [aA he];exact h.crash hR hL hS hu k
 ·rw [ap he]
  obtain⟨g1,g2,g3,_,g5⟩:=hS.up hu;obtain⟨hr2,_⟩:=af.1 hL;have hgb:=g1.gb h1 he;have hfl:=zbd hgb.isB;have hll:(R.log++frameB (pendB R)).length<=9000000:=by rw [ah];have h3:=g1.ok.logl;have h4:=g1.ok.sum;omega
  have hlg:R.log++frameB (pendB R)=FrB (bs++ [pendB R]):=by rw [g2,zfa];simp [FrB]
  obtain⟨i,c1,c2,c3⟩:=hS.cut hu (bs2:= [pendB R]) (fun b hb=>by rw [aB.1 hb];exact hgb) ((zcs _ _ _).2 ⟨hS.due,by rw [g3];exact⟨zkx (R:=R),trivial⟩⟩) hlg hll (hS.logc h1) k;refine⟨_,h.set hR hL c2 c3 c1 (fun b hb=> ?_) (fun b hb=>by cases hb)⟩;by_cases hi:i<=bs.length
  ·rw [List.take_append_of_le_length hi] at hb
   exact(h.top bs (an hL) b (List.mem_of_mem_take hb)).up hL c3
  ·have e:(bs++ [pendB R]).take i=bs++ [pendB R]:=aM (by simp;omega)
   rcases ao.1 (List.mem_of_mem_take hb) with q | q
   ·exact(h.top bs (an hL) b q).up hL c3
   ·rw [aB.1 q]
    refine⟨by rw [g1.p1];omega, ?_⟩;rw [g1.p1,aj,ai,List.getElem?_set_self hr2,e];show pendB R∈bs++ [pendB R]
    simp
theorem GI.restart(h:GI ls n S L){r:Nat}{R:Rp}{bs:List Bt}(hR:S.reps[r]?=some R)(hL:L[r]?=some bs)(hS:RS n r R bs)(hd:R.st=2):GI ls n {S with reps:=S.reps.set r (zb6 R)} L:=by
 have hS':=hS.restart hd;refine h.same hR hL hS' (fun b hb=> ?_)
 have e:(zb6 R).held= []:=by
  obtain⟨⟨tl,t1,t2⟩,_⟩:=hS.down hd;have hn:R.n.toNat=r:=by rw [hS.num,aj]
  obtain⟨_,_,_,_,g5,_⟩:=zh2 (r:=r) bs tl (newR r n) R.log.length hS.gb t2 hS.due (RU.new r n hS.rlt hS.n2 hS.n4) rfl rfl (by rw [t1];exact ac _);rw [←t1] at g5;show(zau R.log.length (newR R.n.toNat R.clock.length) R.log).held= []
  rw [hn,hS.cl];exact g5
 rw [e] at hb;cases hb
theorem zqv(cl:List Int):(digB cl).length=cl.length+4:=by unfold digB;rw [ah,zqu];rfl
theorem GI.ask(h:GI ls n S L){r t:Nat}{cl:List Int}(hr:r<n)(ht:t<n)(hcl:cl.length=n):GI ls n {S with msgs:=addM S.msgs ⟨2,r,t,digB cl,false⟩} L:=by
 have h4:=h.n4;refine h.msgs (fun m hm=> ?_);rcases zhx hm with q | q
 ·exact h.msg m q
 ·rw [q]
  refine⟨by show(0:Int)<=(t:Int);omega,by show(t:Int)<n;omega,by show(0:Int)<=(r:Int);omega,by show(r:Int)<n;omega,Or.inr rfl, ?_,fun e=>(by cases e),fun e=>(by cases e)⟩;show(digB cl).length<=70000;rw [zqv];omega
theorem GI.spoil(h:GI ls n S L){i j k:Nat}{m:Ms}(hi:S.msgs[i]?=some m)(hsp:m.sp=false)(hk0:1<=k)(hk1:k<=255)(hj:j<m.bs.length):GI ls n {S with msgs:=S.msgs.set i (zds m j k)} L:=by
 have hm:=h.msg m (an hi);refine h.msgs (fun x hx=> ?_);rcases List.mem_or_eq_of_mem_set hx with q | q
 ·exact h.msg x q
 ·rw [q]
  refine⟨hm.t0,hm.t1,hm.f0,hm.f1,hm.kind, ?_,fun _ e=>(by cases e),fun e _=> ?_⟩
  ·show(chg m.bs j (fun _=>UInt8.ofNat k) 1).length<=70000
   rw [chg_len];exact hm.len
  ·obtain⟨b,hb,_,hbs⟩:=hm.fr e hsp
   show dec (chg m.bs j (fun _=>UInt8.ofNat k) 1)=none;rw [hbs] at hj ⊢;rw [dec_chg b hb.isB j (fun _=>UInt8.ofNat k) 1 (by omega) (by unfold stopAt;split<;>omega)]
   have:chd (fun _=>UInt8.ofNat k) 1=true:=by
    show(false || UInt8.ofNat k !=0)=true;rw [Bool.false_or,bne_iff_ne];intro e;have:=aD UInt8.toNat e;rw [UInt8.toNat_ofNat_of_lt' (by show k<256;omega)] at this;simp at this;omega
   rw [this];rfl
theorem MG.ok{m:Ms}(h:MG n L m):MsOk n m:=by
 refine⟨h.t0,h.t1,h.kind,h.len,fun hk b hb=> ?_⟩;cases hs:m.sp with
 | true=>rw [h.sp hk hs] at hb;cases hb
 | false=>
  obtain⟨c,hc,_,e⟩:=h.fr hk hs;rw [e,dec_frame c hc.isB] at hb;cases hb
  exact hc.cl
theorem GI.deliver(h:GI ls n S L){i:Nat}{m:Ms}(hi:S.msgs[i]?=some m){R:Rp}(hR:S.reps[m.t.toNat]?=some R):∃L',GI ls n (zc0 S i m R) L':=by
 have hm:=h.msg m (an hi);have h1:GI ls n {S with msgs:=S.msgs.eraseIdx i} L:=h.msgs (fun x hx=>h.msg x (List.mem_of_mem_eraseIdx hx));obtain⟨bs,hL,hS⟩:=h.rep _ R hR;unfold zc0;by_cases hst:R.st=2
 ·rw [aA hst];exact⟨L,h1⟩
 ·rw [ap hst]
  rcases hm.kind with hk | hk
  ·rw [aA hk]
   refine GI.frame (S:={S with msgs:=S.msgs.eraseIdx i}) h1 hR hL hS hst ?_;cases hs:m.sp with
   | true=>exact Or.inl (hm.sp hk hs)
   | false=>exact Or.inr (hm.fr hk hs)
  ·rw [ap (by omega)]
   refine⟨L,GI.msgs (S:={S with msgs:=S.msgs.eraseIdx i}) h1 ?_⟩;obtain⟨g1,g2,g3,_,g5⟩:=hS.up hst
   have hmem:∀f∈answR R m.bs,∃b∈bs,f=frameB b:=fun f hf=>by
    unfold answR at hf;split at hf
    ·rw [g2] at hf
     rcases zrc (n:=n) _ bs _ [] f hS.gb hf with q | q
     ·cases q
     ·exact q
    ·cases hf
   have key:∀q,q<=(answR R m.bs).length->∀x∈sndA (S.msgs.eraseIdx i) m.t m.f (answR R m.bs) q,MG n L x:=by
    intro q;induction q with
    | zero=>intro _ x hx;exact h1.msg x hx
    | succ q ih=>
     intro hq x hx;rw [sndA] at hx;rcases zhx hx with y | y
     ·exact ih (by omega) x y
     ·have hg:(answR R m.bs).getD q []∈answR R m.bs:=by
       rw [ai,ag (by omega)];exact aU _
      obtain⟨b,hb,e⟩:=hmem _ hg;rw [y,e];exact⟨hm.f0,hm.f1,hm.t0,hm.t1,Or.inl rfl,zbd (hS.gb b hb).isB,fun _ _=>⟨b,hS.gb b hb,h.top bs (an hL) b hb,rfl⟩,fun _ e=>(by cases e)⟩
   exact key _ (ac _)
end
theorem GI.new(n:Nat)(h2:2<=n)(h4:n<=4):GI [] n ⟨(List.range n).map (fun r=>newR r n), []⟩ (List.replicate n []):=by
 refine⟨by simp,by simp,h2,h4,fun r R hR=> ?_,fun bs hb b hb'=> ?_,fun R hR b hb=> ?_,fun m hm=>(by cases hm),fun r=> ?_⟩
 ·have hR:((List.range n).map (fun r=>newR r n))[r]?=some R:=hR
  rw [List.getElem?_map] at hR
  have hrn:r<n:=by
   rcases Nat.lt_or_ge r n with q | q
   ·exact q
   ·rw [aF (by simpa using q)] at hR;cases hR
  rw [ag (by simpa using hrn)] at hR;have e:newR r n=R:=by simpa using hR
  subst e;have hru:=RU.new r n hrn h2 h4;exact⟨[],by simp [hrn],⟨fun b hb=>(by cases hb),trivial,h2,h4,hrn,rfl,hru.cl,fun _=>⟨hru,rfl,rfl,⟨0,ac _,rfl,fun b hb=>(by cases hb)⟩,fun b hb=>(by cases hb)⟩,fun e=>(by cases e),fun _=>rfl, .nil,fun _=>RefOk.none rfl,fun _ b hb=>(by cases hb)⟩⟩
 ·rw [(List.mem_replicate.1 hb).2] at hb'
  cases hb'
 ·obtain⟨r,_,rfl⟩:=aG.1 hR
  cases hb
 ·have e:(List.replicate n ([]:List Bt)).getD r []= []:=by
   rw [ai,List.getElem?_replicate];split<;>rfl
  rw [e];show(0:Int)<=(zer n).getD r 0;unfold zer;rw [ai,List.getElem?_replicate];split
  ·exact Int.le_refl _
  ·exact Int.le_refl _
def rpS(S:Sto)(r:Int):Option Rp:=if 0<=r then S.reps[r.toNat]? else none
def onS(S:Sto)(r:Int)(f:Rp->Rp×Int):Sto×Int:=match rpS S r with
 | none=>(S,3)
 | some R=>if R.st=2 then(S,4) else({S with reps:=S.reps.set r.toNat (f R).1},(f R).2)
def Doing(w0:World)(eb ef:Addr)(fn:Nat)(args:List Int)(S S':Sto)(z:Int):Prop:=∀(own:Clr) (s rg cc pp ch:Nat) (pv:Value) (prs:List Nat) (w:World),Env w0 w own eb ef->StIn w own s rg cc pp ch pv prs S->Calls prog fn (#[.pointer (some ⟨s,0,none⟩)]++(args.map I).toArray) w fun e w'=>e= .returned (I z)∧StOk w0 w own s S' eb ef w'
theorem zf1{S:Sto}{r:Nat}{R:Rp}(h:S.reps[r]?=some R):({S with reps:=S.reps.set r R}:Sto)=S:=by
 obtain⟨h1,h2⟩:=af.1 h;rw [←h2,List.set_getElem_self]
theorem zci{S:Sto}{r:Int}{R:Rp}(h:rpS S r=some R):∃k:Nat,r=k∧S.reps[k]?=some R:=by
 unfold rpS at h;split at h
 ·rename_i h0
  exact⟨r.toNat,by omega,h⟩
 ·cases h
theorem zfl{S:Sto}{r:Int}(h:rpS S r=none):¬(0<=r∧r<S.reps.length):=by
 unfold rpS at h;split at h
 ·rename_i h0
  rintro⟨_,h1⟩;rw [ag (by omega)] at h;cases h
 ·rename_i h0
  exact fun q=>h0 q.1
theorem zew{w0:World}{eb ef:Addr}{fn:Nat}{args:List Int}{S:Sto}{r:Int}{f:Rp->Rp×Int}
  (hbad:∀(w:World) (sv:Value) (z:Int),UpBad w sv r z->Calls prog fn (#[sv]++(args.map I).toArray) w fun e w'=>e= .returned (I z)∧w'=w)
  (hup:∀(k:Nat) (R:Rp),r=k->S.reps[k]?=some R->R.st ≠ 2->Doing w0 eb ef fn args S {S with reps:=S.reps.set k (f R).1} (f R).2):Doing w0 eb ef fn args S (onS S r f).1 (onS S r f).2:=by
 intro own s rg cc pp ch pv prs w hen h;unfold onS;cases hr:rpS S r with
 | none=>
  refine(hbad w (.pointer (some ⟨s,0,none⟩)) 3 (zem own s rg cc pp ch pv prs S r w h (zfl hr)).up).mono ?_;rintro e w' ⟨rfl,rfl⟩;exact⟨rfl,StOk.below h hen (Below.refl _ _)⟩
 | some R=>
  obtain⟨k,rfl,hk⟩:=zci hr;by_cases hst:R.st=2
  ·simp only [aA hst]
   refine(hbad w (.pointer (some ⟨s,0,none⟩)) 4 (zdp own s rg cc pp ch pv prs S k R hk hst w h)).mono ?_;rintro e w' ⟨rfl,rfl⟩;exact⟨rfl,StOk.below h hen (Below.refl _ _)⟩
  ·simp only [ap hst,aj]
   exact hup k R rfl hk hst own s rg cc pp ch pv prs w hen h
def doRR(R:Rp)(op ob a b:Int):Rp×Int:=
 if R.st ≠ 1 then(R,7)
 else if¬(0<=ob∧ob<8) then(R,8)
 else if¬(1<=op∧op<=6∧ob % 4=rKind op) then(R,9)
 else match R.obs[ob.toNat]? with
  | none=>(R,8)
  | some o=>
   if ((seeTo (pendB R) ob.toNat o R.effs.length).answer op a b).err ≠ 0 then(R,((seeTo (pendB R) ob.toNat o R.effs.length).answer op a b).err)
   else if (((seeTo (pendB R) ob.toNat o R.effs.length).answer op a b).ds.length:Int)<rLeastD op then(R,0)
   else if (((seeTo (pendB R) ob.toNat o R.effs.length).answer op a b).ds.length:Int)>rMostD op∨R.effs.length=5 then(R,12)
   else(putR R op ob.toNat a b o,0)
theorem doing_do{w0:World}{eb ef:Addr}{ls:List Int}{n:Nat}{S:Sto}{L:List (List Bt)}(hG:GI ls n S L)(r op ob a b:Int):Doing w0 eb ef 17 [r,op,ob,a,b] S (onS S r (fun R=>doRR R op ob a b)).1 (onS S r (fun R=>doRR R op ob a b)).2:=by
 refine zew (fun w sv z h=>wdo_bad op ob a b h) ?_;rintro k R rfl hk hst own s rg cc pp ch pv prs w hen hS;obtain⟨bs,hL,hRS⟩:=hG.rep k R hk;have hRU:=(hRS.up hst).1;have hup:=hRU.up;obtain⟨hr,cg,cc',hp,mv,hv,ev,hs,es,hrp⟩:=hS.prl hk;have hesl:es.length=R.effs.length:=by rw [hrp.effsE,av]
 have hsame:∀w1,Below w.heap.size w w1->StOk w0 w own s {S with reps:=S.reps.set k R} eb ef w1:=fun w1 hb=>by rw [zf1 hk];exact StOk.below hS hen hb
 show Calls prog 17 #[.pointer (some ⟨s,0,none⟩),I k,I op,I ob,I a,I b] w _;unfold doRR;by_cases h1:R.st=1
 ·simp only [h1,ne_eq,not_true,if_false]
  by_cases hob:0<=ob∧ob<8
  ·simp only [hob,and_self,not_true,if_false]
   obtain⟨q,rfl⟩:=aN hob.1;have hq8:q<8:=by omega
   obtain⟨v,hv1,hv2,hv3⟩:=hRU.obs q hq8;simp only [aj] at *
   by_cases hkd:1<=op∧op<=6∧(q:Int) % 4=rKind op
   ·simp only [hkd,and_self,not_true,if_false,hv1]
    obtain⟨o1,o6,hk4⟩:=hkd;by_cases her:((seeTo (pendB R) q v R.effs.length).answer op a b).err=0
    ·simp only [her,not_true,if_false]
     by_cases hls:(((seeTo (pendB R) q v R.effs.length).answer op a b).ds.length:Int)<rLeastD op
     ·simp only [hls,if_true]
      refine(zva own s rg cc pp ch pv prs S k R op a b q v w w0 eb ef hen hS hk hup h1 ⟨o1,o6⟩ hls hk4 her hv1).mono ?_;rintro y w1 ⟨rfl,hso⟩;rw [zf1 hk];exact⟨rfl,hso⟩
     ·simp only [hls,if_false]
      by_cases hbg:(((seeTo (pendB R) q v R.effs.length).answer op a b).ds.length:Int)>rMostD op∨R.effs.length=5
      ·simp only [aA hbg]
       refine(zg7 hS hr hk hst op q a b 12 (fun w1=>Below w.heap.size w w1) (do_big2 own (1+11*k) prs[k] R cg cc' hp mv hv ev hs es op a b q v w w0 eb ef hen hrp h1 ⟨o1,o6⟩ _ rfl hls (hbg.imp id (fun e=>hesl.trans e)) hk4 her hv1 hup.ok.obs8 hup.hl hup.n0 hup.n1 hup.hs0 hup.ok.time0 hup.ht1 (5*sumN R.clock) hup.hN (hup.ok.bd v (an hv1)) hup.hv)).mono ?_;rintro y w1 ⟨rfl,hb⟩;exact⟨rfl,hsame w1 hb⟩
      ·simp only [ap hbg]
       have hel:=hRU.el;exact wdo_put own s rg cc pp ch pv prs S k R op a b q v w w0 eb ef hen hS hk hup h1 ⟨o1,o6⟩ (by have:¬R.effs.length=5:=fun e=>hbg (Or.inr e);omega) hls (fun g=>hbg (Or.inl g)) hk4 her hv1
    ·simp only [her,not_false_iff,if_true]
     refine(zg7 hS hr hk hst op q a b _ (fun w1=>Below w.heap.size w w1) (do_err2 own (1+11*k) prs[k] R cg cc' hp mv hv ev hs es op a b q v w w0 eb ef hen hrp h1 ⟨o1,o6⟩ _ rfl hk4 her hv1 hup.ok.obs8 hup.hl hup.n0 hup.n1 hup.hs0 hup.ok.time0 hup.ht1 (5*sumN R.clock) hup.hN (hup.ok.bd v (an hv1)) hup.hv)).mono ?_;rintro y w1 ⟨rfl,hb⟩;exact⟨rfl,hsame w1 hb⟩
   ·simp only [hkd,not_false_iff,if_true]
    have hno:Calls prog 40 #[.pointer (some ⟨prs[k],0,none⟩),I op,I q,I a,I b] w fun e w'=>e= .returned (I 9)∧Below w.heap.size w w':=by
     by_cases hop6:1<=op∧op<=6
     ·exact zto own (1+11*k) prs[k] R cg cc' hp mv hv ev hs es op a b q v w w0 eb ef hen hrp h1 hop6 (fun g=>hkd ⟨hop6.1,hop6.2,g⟩) hv1 hup.ok.obs8 hup.hl hup.n0 hup.n1 hup.hs0 hup.ok.time0 hup.ht1 (5*sumN R.clock) hup.hN (hup.ok.bd v (an hv1)) hup.hv
     ·exact do_badop own (1+11*k) prs[k] R cg cc' hp mv hv ev hs es op a b q v w w0 eb ef hen hrp h1 hop6 hv1 hup.ok.obs8 hup.hl hup.n0 hup.n1 hup.hs0 hup.ok.time0 hup.ht1 (5*sumN R.clock) hup.hN (hup.ok.bd v (an hv1)) hup.hv
    refine(zg7 hS hr hk hst op q a b 9 (fun w1=>Below w.heap.size w w1) hno).mono ?_;rintro y w1 ⟨rfl,hb⟩;exact⟨rfl,hsame w1 hb⟩
  ·simp only [hob,not_false_iff,if_true]
   refine(zg7 hS hr hk hst op ob a b 8 (fun w1=>Below w.heap.size w w1) (do_none own (1+11*k) prs[k] R cg cc' hp mv hv ev hs es op ob a b w hrp h1 hup.ok.obs8 hob)).mono ?_;rintro y w1 ⟨rfl,hb⟩;exact⟨rfl,hsame w1 hb⟩
 ·simp only [h1,ne_eq,not_false_iff,if_true]
  refine(zg7 hS hr hk hst op ob a b 7 (fun w1=>w1=w) (do_idle own (1+11*k) prs[k] R cg cc' hp mv hv ev hs es op ob a b w hrp h1)).mono ?_;rintro y w1 ⟨rfl,rfl⟩;exact⟨rfl,hsame w1 (Below.refl _ _)⟩
section
variable {w0 : World} {eb ef : Addr} {ls : List Int} {n : Nat} {S : Sto} {L : List (List Bt)}
theorem zqs(hG:GI ls n S L)(r:Int):Doing w0 eb ef 16 [r] S (onS S r zbt).1 (onS S r zbt).2:=by
 refine zew (fun w sv z h=>zrj h) ?_;rintro k R rfl hk hst own s rg cc pp ch pv prs w hen hS;obtain⟨bs,hL,hRS⟩:=hG.rep k R hk;exact zrk own s rg cc pp ch pv prs S k R w w0 eb ef hen hS hk (hRS.up hst).1.up
theorem zqt(hG:GI ls n S L)(r:Int):Doing w0 eb ef 27 [r] S (onS S r zbe).1 (onS S r zbe).2:=by
 refine zew (fun w sv z h=>zrl h) ?_;rintro k R rfl hk hst own s rg cc pp ch pv prs w hen hS;obtain⟨bs,hL,hRS⟩:=hG.rep k R hk;exact zrm own s rg cc pp ch pv prs S k R w w0 eb ef hen hS hk (hRS.up hst).1.up
theorem ztl(r:Int):Doing w0 eb ef 31 [r] S (onS S r (fun R=>(syncR R,0))).1 (onS S r (fun R=>(syncR R,0))).2:=by
 refine zew (fun w sv z h=>zu4 h) ?_;rintro k R rfl hk hst own s rg cc pp ch pv prs w hen hS;obtain⟨hr,hrp⟩:=hS.prl hk;have hrp':RpAt w own (1+11*k) prs[k] R:=hrp;obtain⟨cg,cc',hp,mv,hv,ev,hs,es,hrp⟩:=hrp;exact zu3 hS hr hk hst _ ((zvy own (1+11*k) prs[k] R cg cc' hp mv hv ev hs es w (by omega) hrp).mono (fun e w' hh=>⟨hh.1,StOk.rep hS hen k hr (ROk.self hrp.own1 hh.2)⟩))
theorem zqr(hG:GI ls n S L)(r k:Int):Doing w0 eb ef 20 [r,k] S (onS S r (fun R=>(zch R k,0))).1 (onS S r (fun R=>(zch R k,0))).2:=by
 refine zew (fun w sv z h=>zrh k h) ?_;rintro q R rfl hk hst own s rg cc pp ch pv prs w hen hS;obtain⟨bs,hL,hRS⟩:=hG.rep q R hk;obtain⟨g1,g2,g3,⟨j,j1,j2,j3⟩,g5⟩:=hRS.up hst;obtain⟨hr,hrp⟩:=hS.prl hk;have hll:R.log.length<=9000000:=by have h1:=g1.ok.logl;have h2:=g1.ok.sum;omega
 have hy1:R.synced<=R.log.length:=by
  rw [j2,g2];have:FrB bs=FrB (bs.take j)++FrB (bs.drop j):=by rw [←zfa,aH]
  rw [this,ah];omega
 exact zrg hS hr hk hst k _ ((zgv own (1+11*q) prs[q] R k w (by omega) hrp (by rw [j2];omega) hy1 (by omega)).mono (fun e w' hh=>⟨hh.1,StOk.rep hS hen q hr hh.2⟩))
def zij(R:Rp)(k:Int):Rp×Int:=if R.st=1 then(failR R k,0) else(R,7)
theorem ztm(hI:zaj)(hG:GI ls n S L)(r k:Int):Doing w0 eb ef 19 [r,k] S (onS S r (fun R=>zij R k)).1 (onS S r (fun R=>zij R k)).2:=by
 refine zew (fun w sv z h=>zu8 k h) ?_;rintro q R rfl hk hst own s rg cc pp ch pv prs w hen hS;obtain⟨bs,hL,hRS⟩:=hG.rep q R hk;obtain⟨g1,g2,g3,⟨j,j1,j2,j3⟩,g5⟩:=hRS.up hst;have hup:=g1.up;obtain⟨hr,hrp⟩:=hS.prl hk;have hll:R.log.length<=9000000:=by have h1:=g1.ok.logl;have h2:=g1.ok.sum;omega
 have hy1:R.synced<=R.log.length:=by
  rw [j2,g2];have:FrB bs=FrB (bs.take j)++FrB (bs.drop j):=by rw [←zfa,aH]
  rw [this,ah];omega
 unfold zij;by_cases h1:R.st=1
 ·simp only [aA h1]
  refine zl2 hS hr hk hst k 0 _ ?_;by_cases he:R.effs= []
  ·exact(zrz own (1+11*q) prs[q] R k w (by omega) hrp h1 he hup.hl hup.n0 hup.n1 hup.hs0 hup.ok.time0 hup.ht1 (by rw [j2];omega) hy1 (by omega)).mono (fun e w' hh=>⟨hh.1,StOk.rep hS hen q hr hh.2⟩)
  ·have hfl:=zbd (g1.gb h1 he).isB
   exact(zry own (1+11*q) prs[q] R k w w0 eb ef hI hen (by omega) hrp h1 he hup.hl hup.n0 hup.n1 hup.hs0 hup.ok.time0 hup.ht1 (g1.head h1 he) (by rw [j2];omega) hy1 (by omega)).mono (fun e w' hh=>⟨hh.1,StOk.rep hS hen q hr hh.2⟩)
 ·simp only [ap h1]
  refine(zl2 hS hr hk hst k 7 (fun w1=>w1=w) (zr0 own (1+11*q) prs[q] R k w hrp h1)).mono ?_;rintro y w1 ⟨rfl,rfl⟩;rw [zf1 hk];exact⟨rfl,StOk.below hS hen (Below.refl _ _)⟩
def rstS(S:Sto)(r:Int):Sto×Int:=match rpS S r with
 | none=>(S,3)
 | some R=>if R.st=2 then({S with reps:=S.reps.set r.toNat (zb6 R)},0) else(S,5)
theorem zlu(hI:zaj)(hg:Gd w0)(hG:GI ls n S L)(r:Int):Doing w0 eb ef 32 [r] S (rstS S r).1 (rstS S r).2:=by
 intro own s rg cc pp ch pv prs w hen hS;unfold rstS;cases hr:rpS S r with
 | none=>
  refine(zm8 (zem own s rg cc pp ch pv prs S r w hS (zfl hr))).mono ?_;rintro e w' ⟨rfl,rfl⟩;exact⟨rfl,StOk.below hS hen (Below.refl _ _)⟩
 | some R=>
  obtain⟨k,rfl,hk⟩:=zci hr;obtain⟨bs,hL,hRS⟩:=hG.rep k R hk;obtain⟨hr',hrp⟩:=hS.prl hk;have hk4:k<4:=by have:=hRS.rlt;have:=hRS.n4;omega
  by_cases hst:R.st=2
  ·simp only [aA hst,aj]
   obtain⟨_,t3,_,_⟩:=hRS.down hst;exact zg5 hS hr' 0 _ ((zlq own (1+11*k) prs[k] R w w0 eb ef hI hg hen (by omega) (by omega) hrp hst (by rw [hRS.num];omega) (by rw [hRS.cl];exact hRS.n4) (by omega)).mono (fun e w' hh=>⟨hh.1,StOk.rep hS hen k hr' hh.2⟩))
  ·simp only [ap hst]
   refine(zg5 hS hr' 5 _ ((zo8 own (1+11*k) prs[k] R w hrp hst).mono (fun e w' hh=>⟨hh.1,StOk.rep hS hen k hr' hh.2⟩))).mono ?_;rintro y w1 ⟨rfl,h1⟩;rw [zf1 hk] at h1;exact⟨rfl,h1⟩
end
section
variable {w0 : World} {eb ef : Addr} {ls : List Int} {n : Nat} {S : Sto} {L : List (List Bt)}
def askS(S:Sto)(r t:Int):Sto×Int:=match rpS S r with
 | none=>(S,3)
 | some R=>if R.st=2 then(S,4) else if¬(0<=t∧t<S.reps.length)∨t=r then(S,3) else({S with msgs:=addM S.msgs ⟨2,r,t,digB R.clock,false⟩},0)
theorem zxj(hG:GI ls n S L)(r t:Int):Doing w0 eb ef 30 [r,t] S (askS S r t).1 (askS S r t).2:=by
 intro own s rg cc pp ch pv prs w hen hS;unfold askS;cases hr:rpS S r with
 | none=>
  refine(zoq t (zem own s rg cc pp ch pv prs S r w hS (zfl hr)).up).mono ?_;rintro e w' ⟨rfl,rfl⟩;exact⟨rfl,StOk.below hS hen (Below.refl _ _)⟩
 | some R=>
  obtain⟨k,rfl,hk⟩:=zci hr;obtain⟨bs,hL,hRS⟩:=hG.rep k R hk;by_cases hst:R.st=2
  ·simp only [aA hst]
   refine(zoq t (zdp own s rg cc pp ch pv prs S k R hk hst w hS)).mono ?_;rintro e w' ⟨rfl,rfl⟩;exact⟨rfl,StOk.below hS hen (Below.refl _ _)⟩
  ·simp only [ap hst]
   by_cases ht:¬(0<=t∧t<S.reps.length)∨t=k
   ·simp only [aA ht]
    refine(wask_to hS hk hst t ht).mono ?_;rintro e w' ⟨rfl,rfl⟩;exact⟨rfl,StOk.below hS hen (Below.refl _ _)⟩
   ·simp only [ap ht]
    have h1:0<=t∧t<S.reps.length:=Classical.byContradiction (fun q=>ht (Or.inl q));obtain⟨q,rfl⟩:=aN h1.1;exact zye hen hS hk hst (by rw [hRS.cl];exact hRS.n4) q (by omega) (fun e=>ht (Or.inr (by rw [e])))
def msS(S:Sto)(i:Int)(f:Ms->Sto×Int):Sto×Int:=if 0<=i then(match S.msgs[i.toNat]? with | none=>(S,14) | some m=>f m) else(S,14)
theorem zfp{S:Sto}{i:Int}{f:Ms->Sto×Int}(h:¬(0<=i∧i<S.msgs.length)):msS S i f=(S,14):=by
 unfold msS;split
 ·rw [aF (by omega)]
 ·rfl
theorem zc3{S:Sto}{i:Nat}{m:Ms}{f:Ms->Sto×Int}(h:S.msgs[i]?=some m):msS S i f=f m:=by
 unfold msS;rw [aA (by omega),aj,h]
theorem zen(S:Sto)(i:Int):¬(0<=i∧i<S.msgs.length)∨∃(k:Nat) (m:Ms),i=k∧S.msgs[k]?=some m:=by
 by_cases h:0<=i∧i<S.msgs.length
 ·exact Or.inr ⟨i.toNat,S.msgs[i.toNat]'(by omega),by omega,ag (by omega)⟩
 ·exact Or.inl h
def dropS(S:Sto)(i:Int):Sto×Int:=msS S i (fun _=>({S with msgs:=S.msgs.eraseIdx i.toNat},0))
def zjs(S:Sto)(i:Int):Sto×Int:=msS S i (fun m=>({S with msgs:=addM S.msgs m},0))
def zjx(S:Sto)(i j k:Int):Sto×Int:=msS S i (fun m=>if m.sp=true∨(k<1∨k>255)∨(j<0∨j≥m.bs.length) then(S,zgt m k) else({S with msgs:=S.msgs.set i.toNat (zds m j.toNat k.toNat)},0))
def delS(S:Sto)(i:Int):Sto×Int:=msS S i (fun m=>match S.reps[m.t.toNat]? with | none=>(S,0) | some R=>(zc0 S i.toNat m R,0))
theorem ztn(i:Int):Doing w0 eb ef 33 [i] S (dropS S i).1 (dropS S i).2:=by
 intro own s rg cc pp ch pv prs w hen hS;unfold dropS;rcases zen S i with h | ⟨k,m,rfl,h⟩
 ·rw [zfp h]
  exact zyd own s rg cc pp ch pv prs S i w w0 eb ef hen hS h
 ·rw [zc3 h,aj]
  exact zu9 own s rg cc pp ch pv prs S k m w w0 eb ef hen hS h
theorem zqp(i:Int):Doing w0 eb ef 45 [i] S (zjs S i).1 (zjs S i).2:=by
 intro own s rg cc pp ch pv prs w hen hS;unfold zjs;rcases zen S i with h | ⟨k,m,rfl,h⟩
 ·rw [zfp h]
  refine(zu2 own s rg cc pp ch pv prs S i w hS h).mono ?_;rintro e w' ⟨rfl,rfl⟩;exact⟨rfl,StOk.below hS hen (Below.refl _ _)⟩
 ·rw [zc3 h]
  exact zrd own s rg cc pp ch pv prs S k m w w0 eb ef hen hS h
theorem zqq(hG:GI ls n S L)(i j k:Int):Doing w0 eb ef 46 [i,j,k] S (zjx S i j k).1 (zjx S i j k).2:=by
 intro own s rg cc pp ch pv prs w hen hS;unfold zjx;rcases zen S i with h | ⟨q,m,rfl,h⟩
 ·rw [zfp h]
  refine(zu5 own s rg cc pp ch pv prs S i j k w hS h).mono ?_;rintro e w' ⟨rfl,rfl⟩;exact⟨rfl,StOk.below hS hen (Below.refl _ _)⟩
 ·rw [zc3 h,aj]
  have hm:=hG.msg m (an h);by_cases hb:m.sp=true∨(k<1∨k>255)∨(j<0∨j≥m.bs.length)
  ·rw [aA hb]
   refine(zrf own s rg cc pp ch pv prs S q j k m w hS h hb).mono ?_;rintro e w' ⟨rfl,rfl⟩;exact⟨rfl,StOk.below hS hen (Below.refl _ _)⟩
  ·rw [ap hb]
   have h1:m.sp=false:=by cases hq:m.sp with | false=>rfl | true=>exact absurd (Or.inl hq) hb
   have h2:1<=k∧k<=255:=⟨by refine Int.not_lt.1 (fun g=>hb (Or.inr (Or.inl (Or.inl g)))),by refine Int.not_lt.1 (fun g=>hb (Or.inr (Or.inl (Or.inr g))))⟩
   have h3:0<=j∧j<m.bs.length:=⟨by refine Int.not_lt.1 (fun g=>hb (Or.inr (Or.inr (Or.inl g)))),by refine Int.not_le.1 (fun g=>hb (Or.inr (Or.inr (Or.inr g))))⟩
   obtain⟨j',rfl⟩:=aN h3.1;obtain⟨k',rfl⟩:=aN (show 0<=k by omega);exact zre own s rg cc pp ch pv prs S q j' k' m w w0 eb ef hen hS h h1 (by omega) (by omega) (by omega) (by have:=hm.len;omega)
theorem zlv(hI:zaj)(hg:Gd w0)(hgg:Gg w0)(hG:GI ls n S L)(i:Int):Doing w0 eb ef 28 [i] S (delS S i).1 (delS S i).2:=by
 intro own s rg cc pp ch pv prs w hen hS;unfold delS;rcases zen S i with h | ⟨k,m,rfl,h⟩
 ·rw [zfp h]
  exact zoo own s rg cc pp ch pv prs S i w w0 eb ef hen hS h
 ·have hm:=hG.msg m (an h)
  have ht:m.t.toNat<S.reps.length:=by have:=hm.t0;have:=hm.t1;have:=hG.rl;omega
  obtain⟨R,hR⟩:∃R,S.reps[m.t.toNat]?=some R:=⟨_,ag ht⟩
  obtain⟨bs,hL,hRS⟩:=hG.rep _ R hR;rw [zc3 h,aj,hR];exact znc own s rg cc pp ch pv prs S n k m R w w0 eb ef hI hg hgg hen hS h hm.ok hR (fun hu=>hRS.rlg hu)
def comS(S:Sto)(r:Int):Sto×Int×Int:=match rpS S r with
 | none=>(S,0,3)
 | some R=>if R.st=2 then(S,0,4) else if R.st ≠ 1 then(S,0,7) else if R.effs= [] then({S with reps:=S.reps.set r.toNat (endR R)},0,0) else(⟨S.reps.set r.toNat (zcm R),sprA S.msgs r.toNat (frameB (pendB R)) S.reps.length⟩,(pendB R).s,0)
theorem zob(hI:zaj)(hG:GI ls n S L)(r:Int)(own:Clr)(s rg cc pp ch:Nat)(pv:Value)(prs:List Nat)(w:World)(hen:Env w0 w own eb ef)(hS:StIn w own s rg cc pp ch pv prs S):
  Calls prog 18 #[.pointer (some ⟨s,0,none⟩),I r] w fun e w'=>e= .returned (.tuple #[I (comS S r).2.1,I (comS S r).2.2])∧StOk w0 w own s (comS S r).1 eb ef w':=by
 unfold comS;cases hr:rpS S r with
 | none=>
  refine(zit (zem own s rg cc pp ch pv prs S r w hS (zfl hr)).up).mono ?_;rintro e w' ⟨rfl,rfl⟩;exact⟨rfl,StOk.below hS hen (Below.refl _ _)⟩
 | some R=>
  obtain⟨k,rfl,hk⟩:=zci hr;obtain⟨bs,hL,hRS⟩:=hG.rep k R hk;by_cases hst:R.st=2
  ·simp only [aA hst]
   refine(zit (zdp own s rg cc pp ch pv prs S k R hk hst w hS)).mono ?_;rintro e w' ⟨rfl,rfl⟩;exact⟨rfl,StOk.below hS hen (Below.refl _ _)⟩
  ·simp only [ap hst,aj]
   have g1:=(hRS.up hst).1;by_cases h1:R.st=1
   ·simp only [h1,ne_eq,not_true,if_false]
    by_cases he:R.effs= []
    ·simp only [aA he]
     exact znd own s rg cc pp ch pv prs S k R w w0 eb ef hen hS hk g1.up h1 he
    ·simp only [ap he]
     exact zop own s rg cc pp ch pv prs S k R w w0 eb ef hI hen hS hk g1.up h1 he (g1.head h1 he)
   ·simp only [h1,ne_eq,not_false_iff,if_true]
    refine(zne hS hk g1.up h1).mono ?_;rintro e w' ⟨rfl,hb⟩;exact⟨rfl,StOk.below hS hen hb⟩
end
section
variable {ls : List Int} {n : Nat} {S : Sto} {L : List (List Bt)}
theorem GI.logAt(h:GI ls n S L){r:Nat}(hr:r<n):∃R bs,S.reps[r]?=some R∧L[r]?=some bs∧RS n r R bs:=by
 have hl:r<S.reps.length:=by rw [h.rl];exact hr
 obtain⟨bs,h1,h2⟩:=h.rep r _ (ag hl);exact⟨_,bs,ag hl,h1,h2⟩
theorem Gb.lt{b:Bt}(h:Gb n b):0<=b.o∧b.o.toNat<n:=by
 obtain⟨p1,p2,p3,_⟩:=zal h.isB;have:=h.cl;omega
theorem GI.uniq(h:GI ls n S L){a b:Bt}(ga:Gb n a)(ha:Tp n L a)(hb:Tp n L b)(e1:a.o=b.o)(e2:a.s=b.s):a=b:=by
 obtain⟨R,bs,h1,h2,h3⟩:=h.logAt ga.lt.2;have h4:=ha.2;have h5:=hb.2;rw [←e1] at h5;rw [ai,h2] at h4 h5;exact zqm bs (zer n) h3.gb h3.due a h4 b h5 e1 e2
theorem zoa{n:Nat}:∀(ds:List Bt) (c:List Int),(∀b∈ds,Gb n b)->dueS c ds->∀b∈ds,∀j,j<n->b.clock.getD j 0<=(runC c ds).getD j 0
 | [],_,_,_,b,hb,_,_=>by cases hb
 | x::ds,c,hg,hd,b,hb,j,hj=>by
  rw [runC];rcases ar.1 hb with q | q
  ·subst q
   obtain⟨p1,p2,p3,_⟩:=zal (hg b (by simp)).isB;obtain⟨_,e2,_⟩:=zbf hd.1;have h1:=e2 j (by rw [(hg b (by simp)).cl];exact hj);have h2:=(zky hd.1 p2 p3).2 j;have h3:=zj4 (r:=j) ds (c.set b.o.toNat b.s) (fun x hx=>hg x (by simp [hx])) hd.2;omega
  ·exact zoa ds (c.set x.o.toNat x.s) (fun x hx=>hg x (by simp [hx])) hd.2 b q j hj
theorem znx{b:Bt}(h:Wv.isB b=true):∀(j:Nat) e,b.effs[j]?=some e->effOk b j e=true:=fun j e he=>by
 unfold Wv.isB at h;rw [ak] at h;obtain⟨hl,e1⟩:=af.1 he;have:=zga b b.effs.length j hl h.2;rw [ai,he] at this;exact this
theorem isB_own{b:Bt}(h:Wv.isB b=true):b.clock.getD b.o.toNat 0=b.s - 1:=by
 unfold Wv.isB at h;rw [ak] at h;exact(head_clock b h.1).2.2.2.2
theorem zef(n j:Nat):(zer n).getD j 0=0:=by
 unfold zer;rw [ai,List.getElem?_replicate];split<;>rfl
theorem GI.cb(h:GI ls n S L){pre:List Bt}{b:Bt}(hg:∀c∈pre,Gb n c)(gb:Gb n b)(hd:dueS (zer n) pre)(hdb:dueB (runC (zer n) pre) b=true)(hp:∀c∈pre,Tp n L c)(hb:Tp n L b):Cb pre b:=by
 obtain⟨p1,p2,p3,p4,_⟩:=zal gb.isB;obtain⟨e1,e2,e3⟩:=zbf hdb;have how:=isB_own gb.isB;obtain⟨_,hlt⟩:=gb.lt;obtain⟨Rw,bw,w1,w2,w3⟩:=h.logAt hlt;have hbw:b∈bw:=by have h4:=hb.2;rw [ai,w2] at h4;exact h4
 obtain⟨prew,postw,q1,q2,q3,q4⟩:=w3.lo.at hbw (by omega);have q2:runC (zer n) prew=b.clock:=q2;have hwg:∀c∈prew,Gb n c:=fun c hc=>w3.gb c (by rw [q1];simp [hc])
 have hwd:dueS (zer n) prew:=by have:=w3.due;rw [q1,zcs] at this;exact this.1
 have hwt:∀c∈prew,Tp n L c:=fun c hc=>h.top bw (an w2) c (by rw [q1];simp [hc])
 have hsub:∀c∈prew,c∈pre:=fun c hc=>by
  have g1:=hwg c hc;obtain⟨_,g2⟩:=g1.lt;have h1:=(zdj prew (zer n) hwg hwd c hc).2;rw [q2] at h1;have h2:=e2 c.o.toNat (by rw [gb.cl];exact g2);have h3:=(zal g1.isB).2.2.2.1;obtain⟨c',k1,k2,k3⟩:=ze7 pre (zer n) hg hd c.o.toNat c.s (by rw [zef];omega) (by omega);have:c=c':=h.uniq g1 (hwt c hc) (hp c' k1) (by omega) k3.symm;rw [this];exact k1
 have hnw:∀c∈pre,c.o=b.o->c.s<b.s:=fun c hc e=>by
  have h1:=(zdj pre (zer n) hg hd c hc).2;rw [e] at h1;omega
 refine⟨p2,p4,by omega,znx gb.isB,fun c hc e=>by have:=hnw c hc e;omega,fun c hc=>znx (hg c hc).isB,fun c hc=> ?_,fun c hc e=> ?_,fun j e he h5=> ?_⟩
 ·have:=zoa pre (zer n) hg hd c hc b.o.toNat hlt
  omega
 ·have h1:=hnw c hc e
  have h2:=(zal (hg c hc).isB).2.2.2.1;obtain⟨c',k1,k2,k3⟩:=ze7 prew (zer n) hwg hwd b.o.toNat c.s (by rw [zef];omega) (by rw [q2];omega);have:c=c':=h.uniq (hg c hc) (hp c hc) (hwt c' k1) (by omega) k3.symm;rw [this];exact q3 c' k1
 ·rcases q4 j e he h5 with q | ⟨p,r1,r2,r3⟩ | q
  ·exact Or.inl q
  ·refine Or.inr (Or.inl ⟨p,zke hsub r1,r2,r3, ?_⟩)
   obtain⟨c,k1,i,f,_,_,k2⟩:=(zbw _ _ _).1 r1;rw [k2];exact q3 c k1
  ·exact Or.inr (Or.inr q)
theorem GI.clTake(h:GI ls n S L){bs:List Bt}(hg:∀c∈bs,Gb n c)(hd:dueS (zer n) bs)(hp:∀c∈bs,Tp n L c):∀i,i<=bs.length->Cls (bs.take i)
 | 0,_=>by rw [List.take_zero];exact .nil
 | i+1,hi=>by
  have he:bs[i]?=some bs[i]:=ag (by omega);have et:bs.take (i+1)=bs.take i++ [bs[i]]:=by rw [List.take_add_one,he];rfl
  have h1:=zil hd (i+1);rw [et,zcs] at h1;rw [et];exact(GI.clTake h hg hd hp i (by omega)).snoc (h.cb (fun c hc=>hg c (List.mem_of_mem_take hc)) (hg _ (aU _)) h1.1 h1.2.1 (fun c hc=>hp c (List.mem_of_mem_take hc)) (hp _ (aU _)))
theorem GI.cl(h:GI ls n S L){r:Nat}{R:Rp}{bs:List Bt}(hL:L[r]?=some bs)(hS:RS n r R bs):Cls bs:=by
 have:=h.clTake hS.gb hS.due (fun c hc=>h.top bs (an hL) c hc) bs.length (ac _);rw [List.take_length] at this;exact this
theorem RS.pcb{r:Nat}{R:Rp}{bs:List Bt}(hS:RS n r R bs)(hu:R.st ≠ 2):Cb bs (pendB R):=by
 obtain⟨g1,g2,g3,_,_⟩:=hS.up hu;have h1:=g1.p1;have h2:=g1.p2;have h3:=(g1.ok.getD r).1;have ho:(pendB R).o.toNat=r:=by rw [h1,aj]
 refine⟨by omega,by omega, ?_,fun j e he=> ?_,fun c hc e=> ?_,fun c hc=>znx (hS.gb c hc).isB,fun c hc=> ?_,fun c hc _=> ?_,fun j e he h5=> ?_⟩
 ·rw [ho]
  show R.clock.getD r 0<_;omega
 ·obtain⟨hl,e1⟩:=af.1 he
  have:=g1.eff j hl;rw [←e1];exact this
 ·have h4:=(zdj bs (zer n) hS.gb hS.due c hc).2
  rw [g3,e,ho] at h4;omega
 ·have h4:=zoa bs (zer n) hS.gb hS.due c hc r hS.rlt
  rw [g3] at h4;rw [ho];omega
 ·have h4:=hS.tm hu c hc
  show c.t<R.time+1;omega
 ·rcases hS.tx hu j e he h5 with q | ⟨p,r1,r2,r3⟩ | q
  ·exact Or.inl q
  ·refine Or.inr (Or.inl ⟨p,r1,r2,r3, ?_⟩)
   obtain⟨c,k1,i,f,_,_,k2⟩:=(zbw _ _ _).1 r1;have h4:=hS.tm hu c k1;rw [k2];show c.t<R.time+1;omega
  ·exact Or.inr (Or.inr q)
theorem zt9(b:Bt)(k:Nat)(obs:List Ob)(o:Ob)(ho:obs[k]?=some o)(hb:∀(j:Nat) e,b.effs[j]?=some e->0<=e.ob):∀j,(obsTo b obs j)[k]?=some (seeTo b k o j)
 | 0=>ho
 | j+1=>by
  have ih:=zt9 b k obs o ho hb j;rw [obsTo,seeTo];cases he:b.effs[j]? with
  | none=>exact ih
  | some e=>
   simp only;have h0:=hb j e he;unfold zcg;by_cases hk:e.ob=k
   ·rw [aA hk,hk,aj,ih]
    simp only;exact List.getElem?_set_self (af.1 ih).1
   ·rw [ap hk]
    split
    ·exact ih
    ·rw [aK (by omega)];exact ih
theorem GI.put(h:GI ls n S L){r:Nat}{R:Rp}{bs:List Bt}(hL:L[r]?=some bs)(hS:RS n r R bs)(hu:R.st ≠ 2){op:Int}{k:Nat}{x y:Int}{o:Ob}(hk:k<8)(ho:R.obs[k]?=some o)(h1:1<=op)(h6:op<=6)(hkd:(k:Int) % 4=rKind op)(he:((seeTo (pendB R) k o R.effs.length).answer op x y).err=0):RefOk bs (pendB (putR R op k x y o)):=by
 have hT:=hS.tx hu;have hcl:=h.cl hL hS;have hcb:=hS.pcb hu;obtain⟨m1,o',a1,a2,a3⟩:=hcl.ov hk;rw [←hS.ob hu] at a1;obtain rfl:o'=o:=by rw [ho] at a1;exact(Option.some.inj a1).symm
 obtain⟨m2,o2,b1,b2,b3⟩:=hcb.ov a1 a2 m1 a3 R.effs.length (ac _);have hob:∀(j:Nat) e,(pendB R).effs[j]?=some e->0<=e.ob:=fun j e he=>(ze6 (hcb.eff j e he)).2.2.2.2.2.1
 rw [zt9 (pendB R) k R.obs o' a1 hob] at b1;obtain rfl:seeTo (pendB R) k o' R.effs.length=o2:=Option.some.inj b1
 have key:op=5->((seeTo (pendB R) k o' R.effs.length).answer op x y).ref=⟨0,0,0⟩∨∃p∈zbr k bs++mkTo k (pendB R) R.effs.length,p.m.e.op=5∧p.d=((seeTo (pendB R) k o' R.effs.length).answer op x y).ref:=fun h5=>by
  generalize seeTo (pendB R) k o' R.effs.length=o2 at *
  have hk3:o2.kind=3:=by
   subst h5;have:rKind 5=3:=rfl;rw [this] at hkd;omega
  cases o2 with
  | counter _=>cases hk3
  | set _=>cases hk3
  | reg _=>cases hk3
  | list lst=>
   have b3:lst=(treeT (zbr k bs++mkTo k (pendB R) R.effs.length) ⟨0,0,0⟩).map (elK (zbr k bs++mkTo k (pendB R) R.effs.length)):=b3
   have hcv:(Ob.list lst).cv (fun d=>∃p∈zbr k bs++mkTo k (pendB R) R.effs.length,p.m.e.op=5∧p.d=d):=fun el hel=>by
    rw [b3] at hel;obtain⟨m,hm,rfl⟩:=aG.1 hel;obtain⟨t1,t2⟩:=zcb m2 _ m hm;exact⟨m,t1,t2,rfl⟩
   exact(ans_cv hcv h1 h6 (by show((3:Nat):Int)=rKind op;rw [←hkd];omega) x y he).ref.imp (fun q=>q.1) (fun q=>q.1)
 have hpe:(pendB (putR R op k x y o')).effs=R.effs++ [syE op k ((seeTo (pendB R) k o' R.effs.length).answer op x y)]:=rfl;generalize (seeTo (pendB R) k o' R.effs.length).answer op x y=a at *
 intro j e hj h5;rw [hpe] at hj ⊢
 have hi:∀(i:Nat) f,R.effs[i]?=some f->(R.effs++ [syE op k a])[i]?=some f:=fun i f hf=>by
  rw [List.getElem?_append_left (af.1 hf).1];exact hf
 by_cases hlt:j<R.effs.length
 ·rw [List.getElem?_append_left hlt] at hj
  rcases hT j e hj h5 with q | q | ⟨i,f,q1,q2,q3⟩
  ·exact Or.inl q
  ·exact Or.inr (Or.inl q)
  ·exact Or.inr (Or.inr ⟨i,f,q1,hi i f q2,q3⟩)
 ·have hje:j=R.effs.length:=by
   have:=(af.1 hj).1;rw [ah] at this;simp only [aJ,List.length_nil] at this;omega
  subst hje;rw [List.getElem?_append_right (ac _),Nat.sub_self] at hj;have hj:syE op k a=e:=by simpa using hj
  subst hj;have hek:(syE op k a).ob.toNat=k:=aj k;rcases key h5 with q | ⟨p,q1,q2,q3⟩
  ·exact Or.inl q
  ·rw [hek]
   rcases ao.1 q1 with q | q
   ·exact Or.inr (Or.inl ⟨p,q,q2,q3⟩)
   ·obtain⟨i,f,z1,z2,z3,rfl⟩:=(zda _ _ _ _).1 q
    exact Or.inr (Or.inr ⟨i,f,z1,hi i f z2,q2,z3,q3⟩)
end
def Gk(ls:List Int)(n:Nat)(S:Sto):Prop:=∃L,GI ls n S L
section
variable {ls : List Int} {n : Nat} {S : Sto}
theorem Gk.onS(h:Gk ls n S)(r:Int){f:Rp->Rp×Int}(hf:∀(k:Nat) R L bs,rpS S r=some R->GI ls n S L->S.reps[k]?=some R->L[k]?=some bs->RS n k R bs->R.st ≠ 2->∃L',GI ls n {S with reps:=S.reps.set k (f R).1} L'):Gk ls n (onS S r f).1:=by
 unfold Go.Proofs.YtfmcngncaffloabGreatDoor.onS;cases hr:rpS S r with
 | none=>exact h
 | some R=>
  obtain⟨k,rfl,hk⟩:=zci hr;obtain⟨L,hG⟩:=h;obtain⟨bs,hL,hRS⟩:=hG.rep k R hk;by_cases hst:R.st=2
  ·simp only [aA hst];exact⟨L,hG⟩
  ·simp only [ap hst,aj];exact hf k R L bs hr hG hk hL hRS hst
theorem Gk.on1(h:Gk ls n S)(r:Int){f:Rp->Rp×Int}(hf:∀(k:Nat) R bs,RU n k R->RefOk bs (pendB R)->RU n k (f R).1∧(f R).1.log=R.log∧(f R).1.clock=R.clock∧(f R).1.held=R.held∧((f R).1.synced=R.synced∨(f R).1.synced=R.log.length)∧(f R).1.obs=R.obs∧(f R).1.time=R.time∧RefOk bs (pendB (f R).1)):Gk ls n (Go.Proofs.YtfmcngncaffloabGreatDoor.onS S r f).1:=by
 refine h.onS r fun k R L bs _ hG hk hL hRS hst=> ?_
 obtain⟨h1,h2,h3,h4,h5,h6,h7,h8⟩:=hf k R bs (hRS.up hst).1 (hRS.tx hst);exact⟨L,hG.same hk hL (hRS.same hst h1 h2 h3 h4 h5 h6 h7 h8) (fun b hb=>by rw [h4] at hb;exact hb)⟩
theorem zks(h:Gk ls n S)(r:Int):Gk ls n (onS S r zbt).1:=by
 refine h.on1 r fun k R bs hR hx=>⟨hR.begin, ?_⟩
 unfold zbt;split
 ·exact⟨rfl,rfl,rfl,Or.inl rfl,rfl,rfl,hx⟩
 ·split
  ·exact⟨rfl,rfl,rfl,Or.inl rfl,rfl,rfl,hx⟩
  ·exact⟨rfl,rfl,rfl,Or.inl rfl,rfl,rfl,hx.mono (fun _ q=>q) rfl rfl rfl⟩
theorem zkt(h:Gk ls n S)(r:Int):Gk ls n (onS S r zbe).1:=by
 refine h.on1 r fun k R bs hR hx=> ?_
 unfold zbe;split
 ·exact⟨hR.end,rfl,rfl,rfl,Or.inl rfl,rfl,rfl,RefOk.none rfl⟩
 ·exact⟨hR,rfl,rfl,rfl,Or.inl rfl,rfl,rfl,hx⟩
theorem zum(h:Gk ls n S)(r:Int):Gk ls n (onS S r (fun R=>(syncR R,0))).1:=
 h.on1 r fun _ _ _ hR hx=>⟨hR.sync,rfl,rfl,rfl,Or.inr rfl,rfl,rfl,hx.mono (fun _ q=>q) rfl rfl rfl⟩
theorem gk_do(h:Gk ls n S)(r op ob a b:Int):Gk ls n (onS S r (fun R=>doRR R op ob a b)).1:=by
 refine h.onS r fun k R L bs _ hG hk hL hRS hst=> ?_
 have hR:=(hRS.up hst).1;have hs:∃L',GI ls n {S with reps:=S.reps.set k R} L':=⟨L,by rw [zf1 hk];exact hG⟩
 unfold doRR;split
 ·exact hs
 ·rename_i h1
  split
  ·exact hs
  ·rename_i h2
   split
   ·exact hs
   ·rename_i h3
    split
    ·exact hs
    ·rename_i o ho
     split
     ·exact hs
     ·rename_i h4
      split
      ·exact hs
      ·rename_i h5
       split
       ·exact hs
       ·rename_i h6
        have h2:=Classical.byContradiction h2;have h3:=Classical.byContradiction h3;have he:=hR.el;have hkd:((ob.toNat:Nat):Int) % 4=rKind op:=by rw [Int.toNat_of_nonneg h2.1];exact h3.2.2
        have h4:=Classical.byContradiction h4;have hP:=hR.put (Classical.byContradiction h1) (by have:¬R.effs.length=5:=fun q=>h6 (Or.inr q);omega) op ob.toNat a b o (by omega) h3.1 h3.2.1 hkd ho h4 h5 (fun q=>h6 (Or.inl q));exact⟨L,hG.same hk hL (hRS.same hst hP rfl rfl rfl (Or.inl rfl) rfl rfl (hG.put hL hRS hst (by omega) ho h3.1 h3.2.1 hkd h4)) (fun b hb=>hb)⟩
theorem zqb(h:Gk ls n S)(r k:Int):Gk ls n (onS S r (fun R=>(zch R k,0))).1:=
 h.onS r fun _ _ _ _ _ hG hk hL hRS hst=>hG.crash hk hL hRS hst k
theorem zun(h:Gk ls n S)(r k:Int):Gk ls n (onS S r (fun R=>zij R k)).1:=by
 refine h.onS r fun q R L bs _ hG hk hL hRS hst=> ?_
 unfold zij;by_cases h1:R.st=1
 ·simp only [aA h1];exact hG.fail hk hL hRS h1 k
 ·simp only [ap h1]
  rw [zf1 hk];exact⟨L,hG⟩
theorem zgz(h:Gk ls n S)(r:Int):Gk ls n (rstS S r).1:=by
 unfold rstS;cases hr:rpS S r with
 | none=>exact h
 | some R=>
  obtain⟨k,rfl,hk⟩:=zci hr;obtain⟨L,hG⟩:=h;obtain⟨bs,hL,hRS⟩:=hG.rep k R hk;by_cases hst:R.st=2
  ·simp only [aA hst,aj];exact⟨L,hG.restart hk hL hRS hst⟩
  ·simp only [ap hst];exact⟨L,hG⟩
theorem zs2(h:Gk ls n S)(r t:Int):Gk ls n (askS S r t).1:=by
 unfold askS;cases hr:rpS S r with
 | none=>exact h
 | some R=>
  obtain⟨k,rfl,hk⟩:=zci hr;obtain⟨L,hG⟩:=h;obtain⟨bs,hL,hRS⟩:=hG.rep k R hk;by_cases hst:R.st=2
  ·simp only [aA hst];exact⟨L,hG⟩
  ·simp only [ap hst]
   by_cases ht:¬(0<=t∧t<S.reps.length)∨t=k
   ·simp only [aA ht];exact⟨L,hG⟩
   ·simp only [ap ht]
    have h1:0<=t∧t<S.reps.length:=Classical.byContradiction (fun q=>ht (Or.inl q));obtain⟨q,rfl⟩:=aN h1.1;have:=hG.rl;exact⟨L,hG.ask hRS.rlt (by omega) hRS.cl⟩
theorem Gk.ms(h:Gk ls n S)(i:Int){f:Ms->Sto×Int}(hf:∀(k:Nat) m L,i=k->GI ls n S L->S.msgs[k]?=some m->∃L',GI ls n (f m).1 L'):Gk ls n (msS S i f).1:=by
 rcases zen S i with q | ⟨k,m,e,q⟩
 ·rw [zfp q];exact h
 ·rw [e,zc3 q]
  obtain⟨L,hG⟩:=h;exact hf k m L e hG q
theorem zn3(h:Gk ls n S)(i:Int):Gk ls n (dropS S i).1:=by
 refine h.ms i fun k m L _ hG hk=>⟨L,hG.msgs fun x hx=>hG.msg x (List.mem_of_mem_eraseIdx hx)⟩
theorem zp9(h:Gk ls n S)(i:Int):Gk ls n (zjs S i).1:=by
 refine h.ms i fun k m L _ hG hk=>⟨L,hG.msgs fun x hx=> ?_⟩
 rcases zhx hx with q | q
 ·exact hG.msg x q
 ·rw [q];exact hG.msg m (an hk)
theorem zqa(h:Gk ls n S)(i j k:Int):Gk ls n (zjx S i j k).1:=by
 refine h.ms i fun q m L e hG hk=> ?_
 subst e;by_cases hb:m.sp=true∨(k<1∨k>255)∨(j<0∨j≥m.bs.length)
 ·simp only [aA hb];exact⟨L,hG⟩
 ·simp only [ap hb,aj]
  have h1:m.sp=false:=by cases hq:m.sp with | false=>rfl | true=>exact absurd (Or.inl hq) hb
  have h2:1<=k∧k<=255:=⟨by refine Int.not_lt.1 (fun g=>hb (Or.inr (Or.inl (Or.inl g)))),by refine Int.not_lt.1 (fun g=>hb (Or.inr (Or.inl (Or.inr g))))⟩
  have h3:0<=j∧j<m.bs.length:=⟨by refine Int.not_lt.1 (fun g=>hb (Or.inr (Or.inr (Or.inl g)))),by refine Int.not_le.1 (fun g=>hb (Or.inr (Or.inr (Or.inr g))))⟩
  exact⟨L,hG.spoil hk h1 (by omega) (by omega) (by omega)⟩
theorem zcz(h:Gk ls n S)(i:Int):Gk ls n (delS S i).1:=by
 refine h.ms i fun k m L e hG hk=> ?_
 subst e;simp only [aj];cases hR:S.reps[m.t.toNat]? with
 | none=>exact⟨L,hG⟩
 | some R=>exact hG.deliver hk hR
theorem zih(h:Gk ls n S)(r:Int):Gk ls n (comS S r).1:=by
 unfold comS;cases hr:rpS S r with
 | none=>exact h
 | some R=>
  obtain⟨k,rfl,hk⟩:=zci hr;obtain⟨L,hG⟩:=h;obtain⟨bs,hL,hRS⟩:=hG.rep k R hk;by_cases hst:R.st=2
  ·simp only [aA hst];exact⟨L,hG⟩
  ·simp only [ap hst,aj]
   by_cases h1:R.st=1
   ·simp only [h1,ne_eq,not_true,if_false]
    by_cases he:R.effs= []
    ·simp only [aA he]
     exact⟨L,hG.same hk hL (hRS.same hst (hRS.up hst).1.end rfl rfl rfl (Or.inl rfl) rfl rfl (RefOk.none rfl)) (fun b hb=>hb)⟩
    ·simp only [ap he]
     exact⟨_,hG.commit hk hL hRS h1 he⟩
   ·simp only [h1,ne_eq,not_false_iff,if_true];exact⟨L,hG⟩
theorem gk_new(n:Nat)(h2:2<=n)(h4:n<=4):Gk [] n ⟨(List.range n).map (fun r=>newR r n), []⟩:=⟨_,GI.new n h2 h4⟩
end
abbrev Gi (n:Nat) (S:Sto):Prop:=Gk [] n S
def St1(w:World)(own:Clr)(s:Nat)(S:Sto):Prop:=∃rg cc pp ch pv prs,StIn w own s rg cc pp ch pv prs S
theorem St1.keep{w w':World}{own own':Clr}{s:Nat}{S:Sto}(h:St1 w own s S)(hSm:∀d,d ≠ 700->Same own d w w')(he:Ext own own' w.heap.size):St1 w' own' s S:=by
 obtain⟨rg,cc,pp,ch,pv,prs,hS⟩:=h;have hr:=hS.rlt;exact⟨rg,cc,pp,ch,pv,prs,(hSm 900 (by omega) s hS.blk.lt hS.own1).trans hS.blk,fun r h1=>zbb (hS.row r h1) (hSm 900 (by omega) rg hr hS.own2),hS.len,hS.most,hS.least,(he s hS.blk.lt).trans hS.own1,(he rg hr).trans hS.own2,fun r h1 h2=>(hS.reps r h1 h2).keep (hSm 0 (by omega)) (fun d hd1 hd2=>hSm d (by have:=hS.most;have:=hS.len;omega)) he,hS.post.keep (hSm 100 (by omega)) he⟩
theorem Env.tchx{F:Nat->Prop}{w0 w w':World}{own own':Clr}{eb ef:Addr}(h:Env w0 w own eb ef)(hT:Tch F w w')(hF:∀k,k<w.heap.size->own k=0->¬F k)(hE:Ext own own' w.heap.size):Env w0 w' own' eb ef:=
 ⟨h.gl,h.pw,h.bel.trans (hT.toBelow h.bel.size (fun k hk=>hF k (Nat.lt_of_lt_of_le hk h.bel.size) (h.own0 k hk))),fun b hb=>(hE b (Nat.lt_of_lt_of_le hb h.bel.size)).trans (h.own0 b hb)⟩
def Zb(Z:List (Nat×Obj))(own:Clr)(w:World):Prop:=∀p∈Z,own p.1=700∧w.heap[p.1]?=some p.2
theorem Zb.lt{Z:List (Nat×Obj)}{own:Clr}{w:World}(h:Zb Z own w){p:Nat×Obj}(hp:p∈Z):p.1<w.heap.size:=(am.1 (h p hp).2).1
theorem Zb.tch{Z:List (Nat×Obj)}{own own':Clr}{w w':World}(h:Zb Z own w)(hE:Ext own own' w.heap.size)(hT:Tch (fun k=>1<=own k∧own k<=100) w w'):Zb Z own' w':=fun p hp=>by
 have hl:=h.lt hp;have h7:=(h p hp).1;exact⟨by rw [hE _ hl];exact h7,(hT.block p.1 hl (by omega)).trans (h p hp).2⟩
theorem Zb.news{Y Z:List (Nat×Obj)}{own:Clr}{w w':World}(h:Zb Z own w)(hb:Below w.heap.size w w')(hY:∀p∈Y,w.heap.size<=p.1∧w'.heap[p.1]?=some p.2):Zb (Y++Z) (newTo own w.heap.size 700) w':=fun p hp=>by
 rcases ao.1 hp with q | q
 ·exact⟨zaf _ _ _ _ (hY p q).1,(hY p q).2⟩
 ·have hl:=h.lt q
  exact⟨by rw [zae _ _ _ _ hl];exact(h p q).1,(hb.block p.1 hl).trans (h p q).2⟩
def rdS(S:Sto)(r k:Int):List Int×Int:=match rpS S r with
 | none=>([],3)
 | some R=>if R.st=2 then([],4) else if 0<=k∧k<8 then(match R.obs[k.toNat]? with | none=>([],8) | some o=>((seeTo (pendB R) k.toNat o R.effs.length).tells,0)) else([],8)
def opsS:Ops Sto where
 bgn S r:=onS S r zbt
 abt S r:=onS S r zbe
 doo S r op ob a b:=onS S r (fun R=>doRR R op ob a b)
 com S r:=comS S r
 dlv S i:=delS S i
 drp S i:=dropS S i
 twc S i:=zjs S i
 spl S i j k:=zjx S i j k
 ask S r t:=askS S r t
 syn S r:=onS S r (fun R=>(syncR R,0))
 crs S r k:=onS S r (fun R=>(zch R k,0))
 fal S r k:=onS S r (fun R=>zij R k)
 rst S r:=rstS S r
 rd S r k:=rdS S r k
def Hosts(w0:World)(eb ef:Addr)(s:Nat)(Q:Sto->World->Prop):Prop:=∀S w,Q S w->∃own,Env w0 w own eb ef∧St1 w own s S∧∀S' w',StOk w0 w own s S' eb ef w'->Q S' w'
def ckS(S:Sto)(r:Nat):List Int:=match S.reps[r]? with | none=> [] | some R=>R.clock
def S1(Z:List (Nat×Obj))(w0:World)(eb ef:Addr)(s:Nat)(S:Sto)(w:World):Prop:=∃own,Env w0 w own eb ef∧St1 w own s S∧Zb Z own w
theorem hosts1(Z:List (Nat×Obj))(w0:World)(eb ef:Addr)(s:Nat):Hosts w0 eb ef s (S1 Z w0 eb ef s):=by
 rintro S w ⟨own,h1,h2,h3⟩;refine⟨own,h1,h2,fun S' w' h=> ?_⟩;obtain⟨own',rg,cc,pp,ch,pv,prs,hE,hS,hen,hT⟩:=h;exact⟨own',hen,⟨rg,cc,pp,ch,pv,prs,hS⟩,h3.tch hE hT⟩
theorem S1.more{Z V:List (Nat×Obj)}{w0 w w':World}{eb ef:Addr}{s:Nat}{S:Sto}(h:S1 Z w0 eb ef s S w)(hb:Below w.heap.size w w')(hV:∀p∈V,w.heap.size<=p.1∧w'.heap[p.1]?=some p.2):S1 (V++Z) w0 eb ef s S w':=by
 obtain⟨own,h1,h2,h3⟩:=h;exact⟨newTo own w.heap.size 700,h1.tchx (F:=fun _=>False) (Tch.below hb) (fun _ _ _ h=>h) (zab _ _ _),h2.keep (fun d _ b hl _=>hb.block b hl) (zab _ _ _),h3.news hb hV⟩
theorem S1.put{w0 w w':World}{eb ef:Addr}{s g:Nat}{S:Sto}{ob ob':Obj}(h:S1 [(g,ob)] w0 eb ef s S w)(hT:Tch (fun k=>k=g) w w')(hg:w'.heap[g]?=some ob'):S1 [(g,ob')] w0 eb ef s S w':=by
 obtain⟨own,h1,h2,h3⟩:=h;have h7:own g=700:=(h3 (g,ob) (by simp)).1;refine⟨own,h1.tchx hT (fun k _ h0 e=> ?_) (Ext.refl _ _),h2.keep (fun d hd b hl hbd=>hT.block b hl (fun e=>hd ?_)) (Ext.refl _ _),fun p hp=> ?_⟩
 ·have e:k=g:=e
  subst e;omega
 ·have e:b=g:=e
  subst e;rw [←hbd,h7]
 ·rw [aB.1 hp]
  exact⟨h7,hg⟩
section
variable {w0 : World} {eb ef : Addr} {n : Nat}
theorem Hosts.cl{s:Nat}{Q:Sto->World->Prop}(hQ:Hosts w0 eb ef s Q){S:Sto}{w:World}{fn:Nat}(args:List Int){a:Sto×Int}(h:Gi n S∧Q S w)(hG:Gi n a.1)(hd:Doing w0 eb ef fn args S a.1 a.2):Cl (fun S w=>Gi n S∧Q S w) fn (#[sV s]++(args.map I).toArray) w a:=by
 obtain⟨own,hen,⟨rg,cc,pp,ch,pv,prs,hS⟩,hst⟩:=hQ S w h.2;exact(hd own s rg cc pp ch pv prs w hen hS).mono (fun e w' hh=>⟨hh.1,hG,hst _ _ hh.2⟩)
theorem ze2(w':World)(b:Nat):w'.ownsRow b 3 1 (.slice none 0 0) ([]:List Int).length (([]:List Int).map I):=World.ownsRow_nil _ _ _ _
theorem zy3{S:Sto}(hG:Gi n S)(own:Clr)(s rg cc pp ch:Nat)(pv:Value)(prs:List Nat)(w:World)(hS:StIn w own s rg cc pp ch pv prs S)(r k:Int):Rl 14 #[sV s,I r,I k] w (rdS S r k):=by
 unfold Rl rdS;cases hr:rpS S r with
 | none=>
  refine(zl1 k (zem own s rg cc pp ch pv prs S r w hS (zfl hr)).up).mono ?_;rintro e w' ⟨rfl,rfl⟩;exact⟨_,rfl,ze2 _ _,Below.refl _ _⟩
 | some R=>
  obtain⟨q,rfl,hq⟩:=zci hr;by_cases hst:R.st=2
  ·simp only [aA hst]
   refine(zl1 k (zdp own s rg cc pp ch pv prs S q R hq hst w hS)).mono ?_;rintro e w' ⟨rfl,rfl⟩;exact⟨_,rfl,ze2 _ _,Below.refl _ _⟩
  ·simp only [ap hst]
   obtain⟨L,hG⟩:=hG;obtain⟨bs,hL,hRS⟩:=hG.rep q R hq;have hRU:=(hRS.up hst).1;by_cases hk:0<=k∧k<8
   ·simp only [aA hk]
    obtain⟨j,rfl⟩:=aN hk.1;obtain⟨o,ho,_,_⟩:=hRU.obs j (by omega);simp only [aj,ho];exact zu6 own s rg cc pp ch pv prs S q R j o w hS hq hRU.up ho
   ·simp only [ap hk]
    refine(zyb hS hq hRU.up k hk).mono ?_;rintro e w' ⟨rfl,hb⟩;exact⟨_,rfl,ze2 _ _,hb⟩
theorem zuw(hI:zaj)(hg:Gd w0)(hgg:Gg w0){s:Nat}{Q:Sto->World->Prop}(hQ:Hosts w0 eb ef s Q):Api opsS (fun S w=>Gi n S∧Q S w) s where
 bel S w w' h hb:=by
  obtain⟨own,hen,⟨rg,cc,pp,ch,pv,prs,hS⟩,hst⟩:=hQ S w h.2;exact⟨h.1,hst _ _ (StOk.below hS hen hb)⟩
 bgn S w r h:=hQ.cl [r] h (zks h.1 r) (by obtain⟨L,hG⟩:=h.1;exact zqs hG r)
 abt S w r h:=hQ.cl [r] h (zkt h.1 r) (by obtain⟨L,hG⟩:=h.1;exact zqt hG r)
 doo S w r op ob a b h:=hQ.cl [r,op,ob,a,b] h (gk_do h.1 r op ob a b) (by obtain⟨L,hG⟩:=h.1;exact doing_do hG r op ob a b)
 com S w r h:=by
  obtain⟨own,hen,⟨rg,cc,pp,ch,pv,prs,hS⟩,hst⟩:=hQ S w h.2;obtain⟨L,hG⟩:=h.1;exact(zob hI hG r own s rg cc pp ch pv prs w hen hS).mono (fun e w' hh=>⟨hh.1,zih h.1 r,hst _ _ hh.2⟩)
 dlv S w i h:=hQ.cl [i] h (zcz h.1 i) (by obtain⟨L,hG⟩:=h.1;exact zlv hI hg hgg hG i)
 drp S w i h:=hQ.cl [i] h (zn3 h.1 i) (ztn i)
 twc S w i h:=hQ.cl [i] h (zp9 h.1 i) (zqp i)
 spl S w i j k h:=hQ.cl [i,j,k] h (zqa h.1 i j k) (by obtain⟨L,hG⟩:=h.1;exact zqq hG i j k)
 ask S w r t h:=hQ.cl [r,t] h (zs2 h.1 r t) (by obtain⟨L,hG⟩:=h.1;exact zxj hG r t)
 syn S w r h:=hQ.cl [r] h (zum h.1 r) (ztl r)
 crs S w r k h:=hQ.cl [r,k] h (zqb h.1 r k) (by obtain⟨L,hG⟩:=h.1;exact zqr hG r k)
 fal S w r k h:=hQ.cl [r,k] h (zun h.1 r k) (by obtain⟨L,hG⟩:=h.1;exact ztm hI hG r k)
 rst S w r h:=hQ.cl [r] h (zgz h.1 r) (by obtain⟨L,hG⟩:=h.1;exact zlu hI hg hG r)
 rd S w r o h:=by
  obtain⟨own,hen,⟨rg,cc,pp,ch,pv,prs,hS⟩,hst⟩:=hQ S w h.2;exact zy3 h.1 own s rg cc pp ch pv prs w hS r o
end
theorem be4_four(z:Int):(be4 z).length=4:=rfl
theorem zk1(cl:List Int):Wv.body (digB cl)=digN cl∧tail4 (digB cl)=be4 (Wv.sum (digN cl):Nat):=by
 have hl:(digB cl).length - 4=(digN cl).length:=by unfold digB;rw [ah,be4_four];omega
 unfold Wv.body tail4;rw [hl];unfold digB;exact⟨List.take_left,List.drop_left⟩
theorem dig_ok(cl:List Int):digOk (digB cl) cl.length=true:=by
 unfold digOk;rw [aq,(zk1 cl).1,(zk1 cl).2,zqv];exact⟨rfl,rfl⟩
theorem dig_in(cl:List Int)(h:∀z∈cl,0<=z∧z<=30):digI (digB cl)=cl:=by
 unfold digI;rw [(zk1 cl).1];unfold digN;induction cl with
 | nil=>rfl
 | cons z cl ih=>
  have hz:=h z (by simp);rw [List.flatMap_cons,aO,ih (fun y hy=>h y (by simp [hy]))];show((UInt8.ofNat (z % 256).toNat).toNat:Int)::cl=z::cl;have e:(UInt8.ofNat (z % 256).toNat).toNat=(z % 256).toNat:=UInt8.toNat_ofNat_of_lt' (by show(z % 256).toNat<256;omega);rw [e];have:(((z % 256).toNat:Nat):Int)=z:=by omega
  rw [this]
theorem zoh{n:Nat}(kn:List Int):∀(bs:List Bt) (m:Nat) (acc:List (List UInt8)),(∀b∈bs,Gb n b)->acc.length<3->bs.length<=m->ansL kn m (FrB bs) acc=acc++((bs.filter (fun b=>decide (b.s>kn.getD b.o.toNat 0))).take (3 - acc.length)).map frameB
 | [],m,acc,_,_,_=>by
  rw [zgg,zis zhk];simp
 | b::bs,0,acc,_,_,hm=>by simp at hm
 | b::bs,m+1,acc,hb,ha,hm=>by
  have hgb:=hb b (by simp);have e1:fstB (FrB (b::bs))=frameB b:=by rw [za3,zdm hgb.isB]
  have e2:dec (fstB (FrB (b::bs)))=some b:=by rw [e1];exact dec_frame b hgb.isB
  have e3:(FrB (b::bs)).drop (fstB (FrB (b::bs))).length=FrB bs:=by rw [e1,za3,List.drop_left]
  have hm:bs.length<=m:=by simpa using hm
  rw [ansL,e2];simp only [e3];rw [e1];by_cases hk:b.s>kn.getD b.o.toNat 0
  ·simp only [aA hk]
   rw [List.filter_cons_of_pos (by simpa using hk)];obtain⟨q,hq⟩:∃q,3 - acc.length=q+1:=⟨3 - acc.length - 1,by omega⟩
   rw [hq,List.take_succ_cons,List.map_cons];by_cases h3:(acc++ [frameB b]).length=3
   ·rw [aA h3]
    rw [ah] at h3;have:q=0:=by simp only [aJ,List.length_nil] at h3;omega
    subst this;simp
   ·rw [ap h3,zoh kn bs m _ (fun x hx=>hb x (by simp [hx])) (by rw [ah] at h3 ⊢;simp only [aJ,List.length_nil] at h3 ⊢;omega) hm]
    have:3 - (acc++ [frameB b]).length=q:=by rw [ah];simp only [aJ,List.length_nil];omega
    rw [this,au];rfl
  ·simp only [ap hk]
   rw [List.filter_cons_of_neg (by simpa using hk),ap (by omega)];exact zoh kn bs m acc (fun x hx=>hb x (by simp [hx])) ha hm
theorem due_up{cl:List Int}{b:Bt}(h:dueB cl b=true)(j:Nat):cl.getD j 0<=(cl.set b.o.toNat b.s).getD j 0:=by
 obtain⟨_,_,e3⟩:=zbf h;by_cases hl:b.o.toNat<cl.length
 ·rw [zbz _ _ _ _ hl]
  split
  ·rename_i e;rw [e];omega
  ·exact Int.le_refl _
 ·rw [List.set_eq_of_length_le (by omega)]
  exact Int.le_refl _
theorem zkr:∀(m:Nat) (R:Rp) (j:Nat),R.clock.getD j 0<=(heldR m R).clock.getD j 0
 | 0,_,_=>Int.le_refl _
 | m+1,R,j=>by
  rw [heldR];split
  ·exact Int.le_refl _
  ·rename_i x l e
   have e1:(takeP zah (dueB R.clock) R.held).1=some x:=by rw [e]
   have h1:=due_up (zgr e1).1 j;have h2:=zkr m (zam R x (frameB x) (takeP zah (likeB x) l).2) j;exact Int.le_trans h1 h2
theorem zw6(R:Rp)(l:List UInt8)(j:Nat):R.clock.getD j 0<=(za4 R l).clock.getD j 0:=by
 unfold za4;split
 ·exact Int.le_refl _
 ·split
  ·exact Int.le_refl _
  ·split
   ·rename_i hd
    exact Int.le_trans (due_up hd j) (zkr _ (zam R _ l _) j)
   ·split<;>exact Int.le_refl _
theorem zs5{R:Rp}{b:Bt}(hb:Wv.isB b=true)(hd:dueB R.clock b=true):R.clock.getD b.o.toNat 0<(za4 R (frameB b)).clock.getD b.o.toNat 0:=by
 obtain⟨e1,_,e3⟩:=zbf hd;obtain⟨_,p2,p3,_⟩:=zal hb;unfold za4;rw [dec_frame b hb];simp only;rw [ap (by rintro(q | q);exact q e1;omega),aA hd];refine Int.lt_of_lt_of_le ?_ (zkr _ (zam R b (frameB b) _) _);show _<(R.clock.set b.o.toNat b.s).getD b.o.toNat 0;rw [zbz _ _ _ _ (by omega),aA rfl];omega
theorem zml:∀(m:Nat) (R:Rp),(heldR m R).clock.length=R.clock.length
 | 0,_=>rfl
 | m+1,R=>by
  rw [heldR];split
  ·rfl
  ·rw [zml m];exact aE ..
theorem zs4(R:Rp)(l:List UInt8):(za4 R l).clock.length=R.clock.length:=by
 unfold za4;split
 ·rfl
 ·split
  ·rfl
  ·split
   ·rw [zml];exact aE ..
   ·split<;>rfl
theorem zp5:∀(m:Nat) (R:Rp),(heldR m R).st=R.st
 | 0,_=>rfl
 | m+1,R=>by
  rw [heldR];split
  ·rfl
  ·rw [zp5 m];rfl
theorem zw7(R:Rp)(b:List UInt8):(za4 R b).st=R.st:=by
 unfold za4;split
 ·rfl
 ·split
  ·rfl
  ·split
   ·rw [zp5];rfl
   ·split<;>rfl
theorem zjh:∀(a b:List Int),a.length=b.length->(∀j,a.getD j 0<=b.getD j 0)->sumN a<=sumN b∧(∀j,a.getD j 0<b.getD j 0->0<=a.getD j 0->sumN a<sumN b)
 | [], [],_,_=>⟨ac _,fun j h=>absurd h (by simp)⟩
 | [],_::_,h,_=>by simp at h
 | _::_, [],h,_=>by simp at h
 | x::a,y::b,h,hj=>by
  have h0:x<=y:=hj 0;obtain⟨i1,i2⟩:=zjh a b (by simpa using h) (fun j=>hj (j+1));have e1:sumN (x::a)=x.toNat+sumN a:=rfl;have e2:sumN (y::b)=y.toNat+sumN b:=rfl;refine⟨by omega,fun j hlt h0'=> ?_⟩;rcases j with _ | j
  ·have hlt:x<y:=hlt
   have h0':0<=x:=h0';omega
  ·have:=i2 j hlt h0'
   omega
def Gr(S S':Sto):Prop:=∀(q:Nat) R,S.reps[q]?=some R->∃R',S'.reps[q]?=some R'∧R'.st=R.st∧R'.clock.length=R.clock.length∧(∀j,R.clock.getD j 0<=R'.clock.getD j 0)∧R'.clock.getD q 0=R.clock.getD q 0
theorem Gr.refl{S S':Sto}(e:S'.reps=S.reps):Gr S S':=fun q R hR=>⟨R,by rw [e];exact hR,rfl,rfl,fun _=>Int.le_refl _,rfl⟩
theorem Gr.trans{A B C:Sto}(h:Gr A B)(k:Gr B C):Gr A C:=fun q R hR=>by
 obtain⟨R1,a1,a2,a3,a4,a5⟩:=h q R hR;obtain⟨R2,b1,b2,b3,b4,b5⟩:=k q R1 a1;exact⟨R2,b1,b2.trans a2,b3.trans a3,fun j=>Int.le_trans (a4 j) (b4 j),b5.trans a5⟩
def Calm(S:Sto):Prop:=S.msgs= []∧∀(q:Nat) R,S.reps[q]?=some R->R.st=0
def dlN(S:Sto):Nat->Sto
 | 0=>S
 | k+1=>(delS (dlN S k) 0).1
section
variable {ls : List Int} {n : Nat} {S : Sto} {L : List (List Bt)} {r t : Nat}
theorem zc2(S:Sto)(r:Nat):rpS S r=S.reps[r]?:=by unfold rpS;rw [aA (by omega),aj]
theorem znk{l:List Rp}{r:Nat}{R R':Rp}(h:l[r]?=some R):(l.set r R')[r]?=some R':=List.getElem?_set_self (af.1 h).1
theorem GI.own(_:GI ls n S L){R:Rp}{bs:List Bt}(hL:L[r]?=some bs)(hS:RS n r R bs)(hu:R.st ≠ 2){l:List UInt8}(hl:dec l=none∨∃b,Gb n b∧Tp n L b∧l=frameB b):(za4 R l).clock.getD r 0=R.clock.getD r 0:=by
 obtain⟨g1,g2,g3,_,g5⟩:=hS.up hu;rcases hl with hn | ⟨b,hgb,htp,rfl⟩
 ·rw [zfv hn]
 ·have hbo:b.o ≠ r∨b.s<=R.clock.getD r 0:=by
   by_cases e:b.o=r
   ·right
    replace htp:=htp.2;rw [e,aj,ai,hL] at htp;have htp:b∈bs:=htp;have h7:=(zdj bs (zer n) hS.gb hS.due b htp).2;rw [g3,e,aj] at h7;exact h7
   ·exact Or.inl e
  obtain⟨ds,d1,d2,d3⟩:=zku (n:=n) (r:=r) (R:=R) (Gb n) b hgb hbo hgb (fun x hx=>⟨g5 x hx,g1.held x hx⟩);rw [d1.clk];exact zj5 ds _ d2 d1.no
theorem zs1(h:GI ls n S L)(i:Int):Gr S (delS S i).1:=by
 unfold delS;rcases zen S i with q | ⟨k,m,e,q⟩
 ·rw [zfp q];exact Gr.refl rfl
 ·rw [e,zc3 q]
  have hm:=h.msg m (an q);split
  ·exact Gr.refl rfl
  ·rename_i R hR
   show Gr S (zc0 S (k:Int).toNat m R);unfold zc0;split
   ·exact Gr.refl rfl
   ·rename_i hst
    split
    ·rename_i hk
     obtain⟨bs,hL,hS⟩:=h.rep _ R hR
     have hl:dec m.bs=none∨∃b,Gb n b∧Tp n L b∧m.bs=frameB b:=by
      cases hs:m.sp with
      | true=>exact Or.inl (hm.sp hk hs)
      | false=>exact Or.inr (hm.fr hk hs)
     intro q Q hQ;show∃R',(S.reps.set m.t.toNat (za4 R m.bs))[q]?=some R'∧_;by_cases hq:m.t.toNat=q
     ·subst hq
      obtain rfl:R=Q:=by rw [hR] at hQ;exact Option.some.inj hQ
      exact⟨_,znk hR,zw7 _ _,zs4 _ _,zw6 _ _,h.own hL hS hst hl⟩
     ·exact⟨Q,by rw [aK hq];exact hQ,rfl,rfl,fun _=>Int.le_refl _,rfl⟩
    ·exact Gr.refl rfl
theorem Gk.gr(h:Gk ls n S)(i:Int):Gr S (delS S i).1:=by
 obtain⟨L,hG⟩:=h;exact zs1 hG i
theorem zk2(h:Gk ls n S)(hf:∀m∈S.msgs,m.k=1):(delS S 0).1.msgs=S.msgs.tail:=by
 obtain⟨L,hG⟩:=h;unfold delS;cases hms:S.msgs with
 | nil=>rw [zfp (by rw [hms];simp)];exact hms
 | cons m ms=>
  have hq:S.msgs[0]?=some m:=by rw [hms];rfl
  have hm:=hG.msg m (an hq);have h1:m.t.toNat<S.reps.length:=by rw [hG.rl];have:=hm.t0;have:=hm.t1;omega
  show(msS S ((0:Nat):Int) _).1.msgs=ms;rw [zc3 hq];show(match S.reps[m.t.toNat]? with | none=>_ | some Q=>_:Sto×Int).1.msgs=_;rw [ag h1];show(zc0 S 0 m S.reps[m.t.toNat]).msgs=ms;have he:S.msgs.eraseIdx 0=ms:=by rw [hms];rfl
  unfold zc0;split
  ·exact he
  ·rw [aA (hf m (an hq))];exact he
theorem zo4(t f:Int)(fs:List (List UInt8))(hl:fs.length<=40):∀k,k<=fs.length->sndA [] t f fs k=(fs.take k).map (fun x=>(⟨1,t,f,x,false⟩:Ms))
 | 0,_=>rfl
 | k+1,hk=>by
  have he:fs[k]?=some fs[k]:=ag (by omega);rw [sndA,zo4 t f fs hl k (by omega),List.take_add_one,he];unfold addM;rw [aA (by rw [av,al];omega),ai,he,aO];rfl
theorem FrB_le{n:Nat}:∀(bs:List Bt),(∀b∈bs,Gb n b)->bs.length<=(FrB bs).length
 | [],_=>ac _
 | b::bs,h=>by
  have h1:=FrB_le bs (fun x hx=>h x (by simp [hx]));have h2:=(h b (by simp)).isB;have h3:0<(frameB b).length:=by have:=frame_len b h2;omega
  rw [za3,ah,aJ];omega
theorem exch(h:Gk ls n S)(hc:Calm S)(hr:r<n)(ht:t<n)(hne:r ≠ t):(askS S r t).2=0∧Gk ls n (dlN (askS S r t).1 4)∧Calm (dlN (askS S r t).1 4)∧Gr S (dlN (askS S r t).1 4)∧((∀j,(ckS S t).getD j 0<=(ckS (dlN (askS S r t).1 4) r).getD j 0)∨sumN (ckS S r)<sumN (ckS (dlN (askS S r t).1 4) r)):=by
 have gA:=zs2 h r t;obtain⟨L,hG⟩:=h;obtain⟨R,bs,hR,hL,hS⟩:=hG.logAt hr;obtain⟨T,bt,hT,hLt,hSt⟩:=hG.logAt ht;have s0:=hc.2 r R hR;have t0:=hc.2 t T hT;obtain⟨g1,g2,g3,_,g5⟩:=hS.up (by omega);obtain⟨u1,u2,u3,_,u5⟩:=hSt.up (by omega);have hln:S.reps.length=n:=hG.rl
 have eA:askS S r t=({S with msgs:= [⟨2,r,t,digB R.clock,false⟩]},0):=by
  unfold askS;rw [zc2,hR];simp only;rw [ap (by omega),ap (by rintro(q | q);exact q ⟨by omega,by omega⟩;omega),hc.1];rfl
 rw [eA] at gA ⊢;obtain⟨fs,hfs⟩:∃fs,fs=((bt.filter (fun b=>decide (b.s>R.clock.getD b.o.toNat 0))).take 3).map frameB:=⟨_,rfl⟩
 have hfl:fs.length<=3:=by rw [hfs,av,al];omega
 have hans:answR T (digB R.clock)=fs:=by
  unfold answR;have hcl:T.clock.length=R.clock.length:=by rw [hSt.cl,hS.cl]
  rw [hcl,aA (dig_ok _),dig_in _ g1.ok.clk,u2,zoh (n:=n) _ bt _ [] hSt.gb (by simp) (FrB_le bt hSt.gb),hfs];simp
 have e1:dlN {S with msgs:= [⟨2,r,t,digB R.clock,false⟩]} 1={S with msgs:=fs.map (fun x=>(⟨1,t,r,x,false⟩:Ms))}:=by
  show(delS {S with msgs:= [⟨2,r,t,digB R.clock,false⟩]} ((0:Nat):Int)).1=_;unfold delS;rw [zc3 (S:={S with msgs:= [⟨2,r,t,digB R.clock,false⟩]}) (m:=⟨2,r,t,digB R.clock,false⟩) rfl];show(match S.reps[((t:Nat):Int).toNat]? with | none=>_ | some Q=>_:Sto×Int).1=_;rw [aj,hT];show zc0 {S with msgs:= [⟨2,r,t,digB R.clock,false⟩]} ((0:Nat):Int).toNat ⟨2,r,t,digB R.clock,false⟩ T=_;unfold zc0;rw [ap (by omega),ap (show¬(2:Int)=1 by decide)];show({S with msgs:=sndA [] t r (answR T (digB R.clock)) (answR T (digB R.clock)).length}:Sto)=_;rw [hans,zo4 _ _ fs (by omega) _ (ac _),List.take_length]
 obtain⟨S1,hS1⟩:∃S1:Sto,S1={S with msgs:=fs.map (fun x=>(⟨1,t,r,x,false⟩:Ms))}:=⟨_,rfl⟩
 rw [←hS1] at e1;have k1:Gk ls n S1:=by rw [←e1];exact zcz gA 0
 have e4:dlN {S with msgs:= [⟨2,r,t,digB R.clock,false⟩]} 4=(delS (delS (delS S1 0).1 0).1 0).1:=by rw [←e1];rfl
 rw [e4]
 have f1:∀m∈S1.msgs,m.k=1:=fun m hm=>by
  rw [hS1] at hm;obtain⟨x,_,rfl⟩:=aG.1 hm;rfl
 have m1:=zk2 k1 f1;have k2:=zcz k1 0;have f2:∀m∈(delS S1 0).1.msgs,m.k=1:=fun m hm=>by rw [m1] at hm;exact f1 m (List.mem_of_mem_tail hm)
 have m2:=zk2 k2 f2;have k3:=zcz k2 0;have f3:∀m∈(delS (delS S1 0).1 0).1.msgs,m.k=1:=fun m hm=>by rw [m2] at hm;exact f2 m (List.mem_of_mem_tail hm)
 have m3:=zk2 k3 f3;have k4:=zcz k3 0;have r1:Gr S S1:=Gr.refl (by rw [hS1]);have r2:=k1.gr 0;have r3:=(k2.gr 0).trans (k3.gr 0);have rA:=r1.trans (r2.trans r3);refine⟨rfl,k4,⟨?_,fun q Q hQ=> ?_⟩,rA, ?_⟩
 ·rw [m3,m2,m1,hS1]
  apply aw;simp only [List.length_tail,av];omega
 ·obtain⟨L4,hG4⟩:=k4
  have hq:q<S.reps.length:=by rw [hln,←hG4.rl];exact(af.1 hQ).1
  obtain⟨R',a1,a2,_⟩:=rA q _ (ag hq);rw [a1] at hQ;rw [←Option.some.inj hQ,a2];exact hc.2 q _ (ag hq)
 ·obtain⟨R',a1,a2,a3,a4,a5⟩:=rA r R hR
  have c1:ckS S r=R.clock:=by unfold ckS;rw [hR]
  have c2:ckS S t=T.clock:=by unfold ckS;rw [hT]
  have c3:ckS (delS (delS (delS S1 0).1 0).1 0).1 r=R'.clock:=by unfold ckS;rw [a1]
  rw [c1,c2,c3];cases hfq:bt.filter (fun b=>decide (b.s>R.clock.getD b.o.toNat 0)) with
  | nil=>
   left;intro j;refine Int.le_trans ?_ (a4 j);have hno:=List.filter_eq_nil_iff.1 hfq;by_cases hj:1<=T.clock.getD j 0
   ·obtain⟨b,b1,b2,b3⟩:=ze7 bt (zer n) hSt.gb hSt.due j (T.clock.getD j 0) (by rw [zef];omega) (by rw [u3];exact Int.le_refl _)
    have:=hno b b1;simp only [aq] at this;rw [b2,aj,b3] at this;omega
   ·have:=(g1.ok.getD j).1
    omega
  | cons u us=>
   right;obtain⟨pre,post,q1,q2,q3,q4⟩:=List.filter_eq_cons_iff.1 hfq;have hu3:u.s>R.clock.getD u.o.toNat 0:=by simpa using q3
   have hug:Gb n u:=hSt.gb u (by rw [q1];simp);have hpg:∀c∈pre,Gb n c:=fun c hc=>hSt.gb c (by rw [q1];simp [hc])
   have hdd:=hSt.due;rw [q1,zcs] at hdd;obtain⟨d1,d2,_⟩:=hdd;obtain⟨e1,e2,e3⟩:=zbf d2
   have hrun:∀j,(runC (zer n) pre).getD j 0<=R.clock.getD j 0:=fun j=>by
    by_cases hj:1<=(runC (zer n) pre).getD j 0
    ·obtain⟨b,b1,b2,b3⟩:=ze7 pre (zer n) hpg d1 j _ (by rw [zef];omega) (Int.le_refl _)
     have:=q2 b b1;simp only [aq] at this;rw [b2,aj,b3] at this;omega
    ·have:=(g1.ok.getD j).1
     omega
   have hdue:dueB R.clock u=true:=by
    have hlen:u.clock.length=R.clock.length:=by rw [hug.cl,hS.cl]
    rw [zn9 R.clock u hlen (fun j hj=>Int.le_trans (e2 j hj) (hrun j)),aq];have:=hrun u.o.toNat;omega
   have hst:=zs5 hug.isB hdue;have hf0:∃fr,fs=frameB u::fr:=by rw [hfs,hfq];exact⟨_,rfl⟩
   obtain⟨fr,hfr⟩:=hf0
   have hS2:(delS S1 0).1.reps=S.reps.set r (za4 R (frameB u)):=by
    rw [hS1,hfr];show(delS _ ((0:Nat):Int)).1.reps=_;unfold delS;rw [zc3 (m:=⟨1,t,r,frameB u,false⟩) rfl];show(match S.reps[((r:Nat):Int).toNat]? with | none=>_ | some Q=>_:Sto×Int).1.reps=_;rw [aj,hR];show(zc0 _ _ ⟨1,t,r,frameB u,false⟩ R).reps=_;unfold zc0;rw [ap (by omega),aA rfl];show S.reps.set ((r:Nat):Int).toNat _=_;rw [aj]
   obtain⟨R4,z1,z2,z3,z4,z5⟩:=r3 r (za4 R (frameB u)) (by rw [hS2];exact znk hR);rw [a1] at z1;obtain rfl:R'=R4:=Option.some.inj z1;have w1:=zjh R.clock R'.clock a3.symm a4;refine w1.2 u.o.toNat ?_ (g1.ok.getD _).1;exact Int.lt_of_lt_of_le hst (z4 _)
end
theorem getD_ext{a b:List Int}(hl:a.length=b.length)(h:∀j,j<a.length->a.getD j 0=b.getD j 0):a=b:=by
 refine List.ext_getElem hl fun j h1 h2=> ?_
 have:=h j h1;rw [ai,ai,ag h1,ag h2] at this;exact this
section
variable {ls : List Int} {n : Nat} {S A X : Sto} {r t : Nat}
structure Atc(n r:Nat)(S:Sto)(L:List (List Bt))(R:Rp)(bs:List Bt):Prop where
 rep:S.reps[r]?=some R
 log:L[r]?=some bs
 rs:RS n r R bs
 ru:RU n r R
 st:R.st=0
 ck:ckS S r=R.clock
 run:runC (zer n) bs=R.clock
theorem GI.at0{L:List (List Bt)}(h:GI ls n S L)(hc:Calm S)(hr:r<n):∃R bs,Atc n r S L R bs:=by
 obtain⟨R,bs,h1,h2,h3⟩:=h.logAt hr;have h0:=hc.2 r R h1;obtain⟨g1,_,g3,_⟩:=h3.up (by omega);exact⟨R,bs,h1,h2,h3,g1,h0,by unfold ckS;rw [h1],g3⟩
theorem Gr.ck(h:Gk ls n S)(hg:Gr S X)(hr:r<n):(∀j,(ckS S r).getD j 0<=(ckS X r).getD j 0)∧(ckS X r).length=(ckS S r).length∧(ckS X r).getD r 0=(ckS S r).getD r 0∧sumN (ckS S r)<=sumN (ckS X r):=by
 obtain⟨L,hG⟩:=h;obtain⟨R,bs,h1,_⟩:=hG.logAt hr;obtain⟨R',a1,a2,a3,a4,a5⟩:=hg r R h1;have e1:ckS S r=R.clock:=by unfold ckS;rw [h1]
 have e2:ckS X r=R'.clock:=by unfold ckS;rw [a1]
 rw [e1,e2];exact⟨a4,a3,a5,(zjh _ _ a3.symm a4).1⟩
def Dn(A S:Sto)(r t:Nat):Prop:=(∀j,(ckS A t).getD j 0<=(ckS S r).getD j 0)∨sumN (ckS A r)<sumN (ckS S r)
def Jr(ls:List Int)(n:Nat)(A:Sto)(r t:Nat)(S:Sto):Prop:=Gk ls n A∧Gk ls n S∧Calm S∧Gr A S∧∀r' t',r'<n->t'<n->r' ≠ t'->(r'<r∨(r'=r∧t'<t))->Dn A S r' t'
theorem zz4(h:Gk ls n A)(hc:Calm A):Jr ls n A 0 0 A:=⟨h,h,hc,Gr.refl rfl,fun r' t' _ _ _ q=>by omega⟩
theorem jr_skip(h:Jr ls n A r r S):Jr ls n A r (r+1) S:=⟨h.1,h.2.1,h.2.2.1,h.2.2.2.1,fun r' t' a b c q=>h.2.2.2.2 r' t' a b c (by omega)⟩
theorem jr_next(h:Jr ls n A r n S):Jr ls n A (r+1) 0 S:=⟨h.1,h.2.1,h.2.2.1,h.2.2.2.1,fun r' t' a b c q=>h.2.2.2.2 r' t' a b c (by omega)⟩
theorem jr_step(h:Jr ls n A r t S)(hr:r<n)(ht:t<n)(hne:r ≠ t):(askS S r t).2=0∧Jr ls n A r (t+1) (dlN (askS S r t).1 4):=by
 obtain⟨h0,h1,h2,h3,h4⟩:=h;obtain⟨e1,e2,e3,e4,e5⟩:=exch h1 h2 hr ht hne;refine⟨e1,h0,e2,e3,h3.trans e4,fun r' t' a b c q=> ?_⟩;by_cases hq:r'=r∧t'=t
 ·obtain⟨rfl,rfl⟩:=hq
  rcases e5 with q | q
  ·exact Or.inl fun j=>Int.le_trans ((h3.ck h0 b).1 j) (q j)
  ·exact Or.inr (Nat.lt_of_le_of_lt (h3.ck h0 a).2.2.2 q)
 ·rcases h4 r' t' a b c (by omega) with q | q
  ·exact Or.inl fun j=>Int.le_trans (q j) ((e4.ck h1 a).1 j)
  ·exact Or.inr (Nat.lt_of_lt_of_le q (e4.ck h1 a).2.2.2)
def Mx(ls:List Int)(n i:Nat)(S:Sto):Prop:=Gk ls n S∧Calm S∧∀r,r<n->(∀o,o<n->(ckS S o).getD o 0<=(ckS S r).getD o 0)∨i<=sumN (ckS S r)
theorem zzl(h:Gk ls n S)(hc:Calm S):Mx ls n 0 S:=⟨h,hc,fun _ _=>Or.inr (az _)⟩
theorem mx_step{i:Nat}(h:Mx ls n i A)(hj:Jr ls n A n 0 S):Mx ls n (i+1) S:=by
 obtain⟨h0,h1,h2,h3,h4⟩:=hj;refine⟨h1,h2,fun r hr=> ?_⟩;have own:∀o,o<n->(ckS S o).getD o 0=(ckS A o).getD o 0:=fun o ho=>(h3.ck h0 ho).2.2.1
 by_cases hs:i+1<=sumN (ckS S r)
 ·exact Or.inr hs
 ·left
  intro o ho;rcases h.2.2 r hr with q | q
  ·rw [own o ho]
   exact Int.le_trans (q o ho) ((h3.ck h0 hr).1 o)
  ·by_cases e:r=o
   ·rw [e];exact Int.le_refl _
   ·rcases h4 r o hr ho e (Or.inl hr) with z | z
    ·rw [own o ho];exact z o
    ·omega
theorem GI.most{L:List (List Bt)}(h:GI ls n S L)(hc:Calm S)(hr:r<n){o:Nat}(ho:o<n):(ckS S r).getD o 0<=(ckS S o).getD o 0:=by
 obtain⟨R,bs,a⟩:=h.at0 hc hr;obtain⟨Q,cs,b⟩:=h.at0 hc ho;rw [a.ck,b.ck];by_cases hz:1<=R.clock.getD o 0
 ·obtain⟨x,x1,x2,x3⟩:=ze7 bs (zer n) a.rs.gb a.rs.due o _ (by rw [zef];exact hz) (by rw [a.run];exact Int.le_refl _)
  have hx:=(h.top bs (an a.log) x x1).2;rw [x2,aj,ai,b.log] at hx;have:=(zdj cs (zer n) b.rs.gb b.rs.due x hx).2;rw [b.run,x2,aj,x3] at this;exact this
 ·have:=(b.ru.ok.getD o).1
  omega
def Lvl(n:Nat)(S:Sto):Prop:=∀r,r<n->ckS S r=ckS S 0
theorem mx_end(h:Mx ls n 120 S):Lvl n S:=by
 obtain⟨⟨L,hG⟩,hc,h3⟩:=h;have n2:=hG.n2;have n4:=hG.n4
 have key:∀r,r<n->∀o,o<n->(ckS S r).getD o 0=(ckS S o).getD o 0:=fun r hr o ho=>by
  refine Int.le_antisymm (hG.most hc hr ho) ?_;rcases h3 r hr with q | q
  ·exact q o ho
  ·obtain⟨R,bs,a⟩:=hG.at0 hc hr
   obtain⟨Q,cs,b⟩:=hG.at0 hc ho;rw [a.ck] at q ⊢;rw [b.ck];have h30:=(b.ru.ok.getD o).2;rcases Int.lt_or_le (R.clock.getD o 0) 30 with z | z
   ·exfalso
    have hl:R.clock.length=(List.replicate n (30:Int)).length:=by rw [List.length_replicate];exact a.ru.cl
    have hrep:∀j,(List.replicate n (30:Int)).getD j 0=if j<n then 30 else 0:=fun j=>by
     rw [ai,List.getElem?_replicate];split<;>rfl
    have hup:∀j,R.clock.getD j 0<=(List.replicate n (30:Int)).getD j 0:=fun j=>by
     rw [hrep];split
     ·exact(a.ru.ok.getD j).2
     ·rw [ai,aF (by rw [a.ru.cl];omega)]
      exact Int.le_refl _
    have h1:=(zjh R.clock _ hl hup).2 o (by rw [hrep,aA ho];exact z) (a.ru.ok.getD o).1;have h2:=zh0 30 (List.replicate n (30:Int)) (fun z hz=>by rw [(List.mem_replicate.1 hz).2];omega);rw [List.length_replicate] at h2;omega
   ·omega
 intro r hr;obtain⟨R,bs,a⟩:=hG.at0 hc hr;obtain⟨Q,cs,b⟩:=hG.at0 hc (show 0<n by omega);refine getD_ext (by rw [a.ck,b.ck,a.ru.cl,b.ru.cl]) fun j hj=> ?_
 have hj:j<n:=by rw [a.ck,a.ru.cl] at hj;exact hj
 rw [key r hr j hj,key 0 (by omega) j hj]
theorem zt2(h:Gk ls n S)(hc:Calm S)(hl:Lvl n S)(hr:r<n){k:Nat}(hk:k<8):∃v,rdS S 0 k=(v,0)∧rdS S r k=(v,0):=by
 obtain⟨L,hG⟩:=h;obtain⟨R,bs,a⟩:=hG.at0 hc hr;obtain⟨Q,cs,b⟩:=hG.at0 hc (show 0<n by omega);have hck:R.clock=Q.clock:=by rw [←a.ck,←b.ck];exact hl r hr
 have sub:∀(xs ys:List Bt),(∀x∈xs,Gb n x∧Tp n L x)->(∀x∈ys,Gb n x∧Tp n L x)->dueS (zer n) xs->dueS (zer n) ys->runC (zer n) xs=runC (zer n) ys->∀x∈xs,x∈ys:=fun xs ys gx gy dx dy e x hx=>by
  have h1:=(zdj xs (zer n) (fun z hz=>(gx z hz).1) dx x hx).2;rw [e] at h1;have h2:=(zal (gx x hx).1.isB).2.2.2.1;have h3:=(gx x hx).1.lt;obtain⟨y,y1,y2,y3⟩:=ze7 ys (zer n) (fun z hz=>(gy z hz).1) dy x.o.toNat x.s (by rw [zef];omega) h1;have:x=y:=hG.uniq (gx x hx).1 (gx x hx).2 (gy y y1).2 (by omega) y3.symm;rw [this];exact y1
 have ta:∀x∈bs,Gb n x∧Tp n L x:=fun x hx=>⟨a.rs.gb x hx,hG.top bs (an a.log) x hx⟩
 have tb:∀x∈cs,Gb n x∧Tp n L x:=fun x hx=>⟨b.rs.gb x hx,hG.top cs (an b.log) x hx⟩
 have er:runC (zer n) bs=runC (zer n) cs:=by rw [a.run,b.run,hck]
 obtain⟨o,o',p1,p2,p3⟩:=cl_agree (hG.cl a.log a.rs) (hG.cl b.log b.rs) (fun x=>⟨sub bs cs ta tb a.rs.due b.rs.due er x,sub cs bs tb ta b.rs.due a.rs.due er.symm x⟩) hk
 have red:∀(q:Nat) (R:Rp) (bs:List Bt) (o:Ob),Atc n q S L R bs->(obsL obN bs)[k]?=some o->rdS S q k=(o.tells,0):=fun q R bs o z ho=>by
  rw [←z.rs.ob (by rw [z.st];decide)] at ho;unfold rdS;rw [zc2,z.rep];simp only;rw [ap (by rw [z.st];decide),aA (by omega),aj,ho,z.ru.idle z.st];rfl
 exact⟨o'.tells,red 0 Q cs o' b p2,by rw [red r R bs o a p1,p3]⟩
theorem zt3(h:Gk ls n S)(hc:Calm S)(hl:Lvl n S)(hr:r<n):ls.getD r 0<=(ckS S 0).getD r 0∧(ckS S 0).length=n:=by
 obtain⟨L,hG⟩:=h;obtain⟨R,bs,a⟩:=hG.at0 hc hr;have h1:=hG.lst r;rw [ai (l:=L),a.log] at h1;have h1:ls.getD r 0<=topB n r bs:=h1;rw [a.rs.top (by rw [a.st];decide),←a.ck,hl r hr] at h1;exact⟨h1,by rw [←hl r hr,a.ck];exact a.ru.cl⟩
end
def Wa(n:Nat)(l:List Int)(S:Sto):Prop:=Gk l n S∧l.length=4
section
variable {n : Nat} {l : List Int} {S : Sto} {r : Nat} {R : Rp} {f : Rp -> Rp × Int}
theorem onS_up(h:S.reps[r]?=some R)(hu:R.st ≠ 2):onS S r f=({S with reps:=S.reps.set r (f R).1},(f R).2):=by unfold onS;rw [zc2,h];simp only [ap hu,aj]
theorem zzj(h:S.reps[r]?=some R)(hd:R.st=2):onS S r f=(S,4):=by unfold onS;rw [zc2,h];simp only [aA hd]
theorem zwf{q:Nat}(hq:q ≠ r):(onS S r f).1.reps[q]?=S.reps[q]?:=by
 unfold onS;split
 ·rfl
 ·split
  ·rfl
  ·show(S.reps.set (r:Int).toNat (f _).1)[q]?=_
   rw [aj,aK (fun e=>hq e.symm)]
theorem wa_com(h:Wa n l S)(hr:r<n):Wa n (if 0<(if (comS S r).2.2=0 then(comS S r).2.1 else 0) then l.set r (if (comS S r).2.2=0 then(comS S r).2.1 else 0) else l) (comS S r).1:=by
 have gC:=zih h.1 r;obtain⟨L,hG⟩:=h.1;obtain⟨R,bs,hR,hL,hS⟩:=hG.logAt hr
 have hno:(if (comS S r).2.2=0 then(comS S r).2.1 else 0)=0->Wa n (if 0<(if (comS S r).2.2=0 then(comS S r).2.1 else 0) then l.set r (if (comS S r).2.2=0 then(comS S r).2.1 else 0) else l) (comS S r).1:=fun e=>by
  rw [e,ap (by omega)];exact⟨gC,h.2⟩
 by_cases h2:R.st=2
 ·refine hno ?_
  have e:comS S r=(S,0,4):=by unfold comS;rw [zc2,hR];simp only [aA h2]
  rw [e];rfl
 ·by_cases h1:R.st=1
  ·by_cases he:R.effs= []
   ·refine hno ?_
    have e:comS S r=({S with reps:=S.reps.set (r:Int).toNat (endR R)},0,0):=by
     unfold comS;rw [zc2,hR];show(if R.st=2 then _ else if R.st ≠ 1 then _ else if R.effs= [] then _ else _)=_;rw [ap h2,ap (fun q=>q h1),aA he]
    rw [e];rfl
   ·have e:comS S r=(⟨S.reps.set r (zcm R),sprA S.msgs r (frameB (pendB R)) S.reps.length⟩,(pendB R).s,0):=by
     unfold comS;rw [zc2,hR];show(if R.st=2 then _ else if R.st ≠ 1 then _ else if R.effs= [] then _ else _)=_;rw [ap h2,ap (fun q=>q h1),ap he,aj]
    rw [e];obtain⟨g1,g2,g3,_,g5⟩:=hS.up h2;have hC:=hG.commit hR hL hS h1 he;obtain⟨hr2,_⟩:=af.1 hL
    have htop:topB n r (bs++ [pendB R])=(pendB R).s:=by
     unfold topB;rw [zc5,g3];show(R.clock.set (pendB R).o.toNat (pendB R).s).getD r 0=_;rw [g1.p1,aj,zbz _ _ _ _ (by rw [hS.cl];exact hS.rlt),aA rfl]
    have hpos:0<(pendB R).s:=by have:=g1.p2;have:=(g1.ok.getD r).1;omega
    show Wa n (if 0<(if (0:Int)=0 then(pendB R).s else 0) then l.set r (if (0:Int)=0 then(pendB R).s else 0) else l) _;rw [aA rfl,aA hpos];exact⟨⟨_,hC.bump (r:=r) (List.getElem?_set_self hr2) (by rw [htop];exact Int.le_refl _) (by rw [h.2];have:=hS.n4;omega)⟩,by rw [aE];exact h.2⟩
  ·refine hno ?_
   have e:comS S r=(S,0,7):=by
    unfold comS;rw [zc2,hR];show(if R.st=2 then _ else if R.st ≠ 1 then _ else if R.effs= [] then _ else _)=_;rw [ap h2,aA h1]
   rw [e];rfl
theorem wa_does(h:Wa n l S)(o:Sp)(hr:Wv.pk o.r n=r)(hrn:r<n):Wa n (if 0<(doesX opsS n S o).2 then l.set r (doesX opsS n S o).2 else l) (doesX opsS n S o).1:=by
 have z:∀S',Gk l n S'->Wa n (if 0<((S',(0:Int)):Sto×Int).2 then l.set r ((S',(0:Int)):Sto×Int).2 else l) ((S',(0:Int)):Sto×Int).1:=fun S' hG=>⟨hG,h.2⟩
 suffices key:∀d,doesX opsS n S o=d->Wa n (if 0<d.2 then l.set r d.2 else l) d.1 from key _ rfl
 intro d hd;unfold doesX at hd;split at hd
 ·subst hd;exact z _ (gk_do (zks h.1 _) _ _ _ _ _)
 ·split at hd
  ·subst hd;rw [hr];exact wa_com h hrn
  ·split at hd
   ·subst hd;exact z _ (zkt h.1 _)
   ·split at hd
    ·subst hd;exact z _ (zcz h.1 _)
    ·split at hd
     ·subst hd
      refine z (ze4 opsS S (Wv.pk o.a 40) o.b o.c) ?_;unfold ze4;split
      ·exact zn3 h.1 _
      ·split
       ·exact zp9 h.1 _
       ·exact zqa h.1 _ _ _
     ·split at hd
      ·subst hd;exact z _ (zs2 h.1 _ _)
      ·split at hd
       ·subst hd;exact z _ (zum h.1 _)
       ·split at hd
        ·split at hd
         ·subst hd;exact z _ (zqb h.1 _ _)
         ·subst hd;exact z _ (zun h.1 _ _)
        ·subst hd;exact z _ (zgz h.1 _)
def C1(n:Nat)(l:List Int)(r:Nat)(S:Sto):Prop:=Wa n l S∧∀q,q<r->∀R,S.reps[q]?=some R->R.st=0
theorem zl7:∀(m:Nat) (R:Rp) (b:List UInt8),(zau m R b).st=R.st
 | 0,_,_=>rfl
 | m+1,R,b=>by
  rw [zau];split
  ·rfl
  ·split
   ·rw [zl7 m];rfl
   ·rfl
theorem c1_step(h:C1 n l r S)(hr:r<n):((rstS (onS S r zbe).1 r).2=0∨(rstS (onS S r zbe).1 r).2=5)∧C1 n l (r+1) (rstS (onS S r zbe).1 r).1:=by
 have gT:=zkt h.1.1 r;have gX:=zgz gT r;obtain⟨L,hG⟩:=h.1.1;obtain⟨R,bs,hR,hL,hS⟩:=hG.logAt hr
 obtain⟨R',hR',hcs⟩:∃R',(onS S r zbe).1.reps[r]?=some R'∧(R'.st=2∨R'.st=0):=by
  by_cases h2:R.st=2
  ·rw [zzj hR h2];exact⟨R,hR,Or.inl h2⟩
  ·rw [onS_up hR h2]
   refine⟨_,znk hR,Or.inr ?_⟩;have hu:=(hS.up h2).1.st;unfold zbe;split
   ·rfl
   ·rename_i q
    exact hu.resolve_right q
 have hoth:∀q,q ≠ r->(onS S r zbe).1.reps[q]?=S.reps[q]?:=fun q hq=>zwf hq
 generalize (onS S r zbe).1=T at *
 rcases hcs with h2 | h0
 ·have e:rstS T r=({T with reps:=T.reps.set r (zb6 R')},0):=by
   unfold rstS;rw [zc2,hR'];simp only [aA h2,aj]
  rw [e] at gX ⊢;refine⟨Or.inl rfl,⟨gX,h.1.2⟩,fun q hq Q hQ=> ?_⟩;have hQ:(T.reps.set r (zb6 R'))[q]?=some Q:=hQ;by_cases hqr:q=r
  ·subst hqr
   rw [znk hR'] at hQ;cases hQ
   show(zau _ _ _).st=0;rw [zl7];rfl
  ·rw [aK (fun e=>hqr e.symm),hoth q hqr] at hQ
   exact h.2 q (by omega) Q hQ
 ·have e:rstS T r=(T,5):=by
   unfold rstS;rw [zc2,hR'];simp only [ap (show¬R'.st=2 by omega)]
  rw [e] at gX ⊢;refine⟨Or.inr rfl,⟨gX,h.1.2⟩,fun q hq Q hQ=> ?_⟩;have hQ:T.reps[q]?=some Q:=hQ;by_cases hqr:q=r
  ·subst hqr
   rw [hR'] at hQ;cases hQ
   exact h0
  ·rw [hoth q hqr] at hQ
   exact h.2 q (by omega) Q hQ
def C2(n:Nat)(l:List Int)(i:Nat)(S:Sto):Prop:=Wa n l S∧(∀(q:Nat) R,S.reps[q]?=some R->R.st=0)∧S.msgs.length<=40 - i
theorem c2_start(h:C1 n l n S)(hm:S.msgs.length<=40):C2 n l 0 S:=by
 obtain⟨L,hG⟩:=h.1.1;exact⟨h.1,fun q R hR=>h.2 q (by rw [←hG.rl];exact(af.1 hR).1) R hR,hm⟩
theorem c2_step{i:Nat}(h:C2 n l i S):C2 n l (i+1) (dropS S 0).1:=by
 refine⟨⟨zn3 h.1.1 0,h.1.2⟩, ?_⟩;have h3:=h.2.2;unfold dropS;cases hm:S.msgs with
 | nil=>
  rw [zfp (by rw [hm];simp)];exact⟨h.2.1,by rw [hm];simp⟩
 | cons m ms=>
  show(∀(q:Nat) R,(msS S ((0:Nat):Int) _).1.reps[q]?=some R->_)∧(msS S ((0:Nat):Int) _).1.msgs.length<=_;rw [zc3 (m:=m) (by rw [hm];rfl)];refine⟨h.2.1, ?_⟩;show((m::ms).eraseIdx 0).length<=_;rw [hm] at h3;simp only [aJ,List.eraseIdx_zero,List.tail_cons] at h3 ⊢;omega
theorem c2_end(h:C2 n l 40 S):Mx l n 0 S:=zzl h.1.1 ⟨aw (by have:=h.2.2;omega),h.2.1⟩
end
theorem beg2:BegOk opsS (newS 2):=⟨by rfl,by rfl,by rfl,by rfl,by rfl,by rfl,by rfl⟩
theorem beg3:BegOk opsS (newS 3):=⟨by rfl,by rfl,by rfl,by rfl,by rfl,by rfl,by rfl⟩
theorem beg4:BegOk opsS (newS 4):=⟨by rfl,by rfl,by rfl,by rfl,by rfl,by rfl,by rfl⟩
theorem beg_any(n:Nat)(h2:2<=n)(h4:n<=4):BegOk opsS (newS n):=by
 obtain rfl | rfl | rfl:n=2∨n=3∨n=4:=by omega
 ·exact beg2
 ·exact beg3
 ·exact beg4
theorem begF_st(n:Nat)(h2:2<=n)(h4:n<=4):(begF opsS (newS n)).reps.map (·.st)=List.replicate n 0:=by
 obtain rfl | rfl | rfl:n=2∨n=3∨n=4:=by omega
 ·rfl
 ·rfl
 ·rfl
theorem begF_clk(n:Nat)(h2:2<=n)(h4:n<=4):((begF opsS (newS n)).reps[0]?).map (fun R=>R.clock.getD 0 0)=some 1:=by
 obtain rfl | rfl | rfl:n=2∨n=3∨n=4:=by omega
 ·rfl
 ·rfl
 ·rfl
theorem GI.relst{ls ls':List Int}{n:Nat}{S:Sto}{L:List (List Bt)}(h:GI ls n S L)(hl:∀r,ls'.getD r 0<=topB n r (L.getD r [])):GI ls' n S L:=⟨h.rl,h.ll,h.n2,h.n4,h.rep,h.top,h.held,h.msg,hl⟩
theorem wa_new(n:Nat)(h2:2<=n)(h4:n<=4):Wa n [1,0,0,0] (begF opsS (newS n)):=by
 have hst:∀(q:Nat) R,(begF opsS (newS n)).reps[q]?=some R->R.st=0:=fun q R hR=>by
  have h1:=begF_st n h2 h4;have h3:R.st∈(begF opsS (newS n)).reps.map (·.st):=aG.2 ⟨R,an hR,rfl⟩;rw [h1] at h3;exact(List.mem_replicate.1 h3).2
 have hF:Gk [] n (begF opsS (newS n)):=zih (gk_do (gk_do (gk_do (zks (gk_new n h2 h4) 0) 0 5 3 0 9) 0 1 0 5 0) 0 1 4 5 0) 0;obtain⟨L,hG⟩:=hF;refine⟨⟨L,hG.relst fun r=> ?_⟩,rfl⟩;have h0:=hG.lst r;have h0:0<=topB n r (L.getD r []):=h0;rcases r with _ | r
 ·have hl:0<(begF opsS (newS n)).reps.length:=by rw [hG.rl];omega
  have hR:=ag hl;obtain⟨bs,hL,hRS⟩:=hG.rep 0 _ hR;have h1:=begF_clk n h2 h4;rw [hR,Option.map_some] at h1;have h3:=Option.some.inj h1;have h5:=hRS.top (by rw [hst 0 _ hR];decide);show(1:Int)<=topB n 0 (L.getD 0 []);rw [ai,hL];show(1:Int)<=topB n 0 bs;rw [h5,h3];exact Int.le_refl _
 ·have e: [(1:Int),0,0,0].getD (r+1) 0=0:=by
   rcases r with _ | _ | _ | r
   ·rfl
   ·rfl
   ·rfl
   ·rfl
  rw [e];exact h0
theorem zvh{o:Ob}{N:Nat}(h:o.bound N)(h1:1<=N):o.tells.length<=N:=by
 cases o with
 | counter n=>exact h1
 | list ls=>
  show((stands ls).map El.v).length<=N;rw [av];exact aQ (List.length_filter_le _ _) h
 | set m=>
  show(compI (sortI (m.map (·.2)))).length<=N;refine aQ (zmy _) ?_;rw [(zdt _).length_eq,av];exact h
 | reg m=>
  show(rvals m).length<=N;unfold rvals;rw [av,zek,av];exact h
theorem rdS_len{n:Nat}{S:Sto}(hG:Gi n S)(r k:Int):(rdS S r k).1.length<=100000:=by
 unfold rdS;cases hr:rpS S r with
 | none=>exact az _
 | some R=>
  obtain⟨q,rfl,hq⟩:=zci hr;obtain⟨L,hG⟩:=hG;obtain⟨bs,hL,hRS⟩:=hG.rep q R hq;by_cases hst:R.st=2
  ·simp only [aA hst];exact az _
  ·simp only [ap hst]
   have hup:=(hRS.up hst).1.up;split
   ·split
    ·exact az _
    ·rename_i o ho
     exact zvh (Ob.bound_mono (zcu (b:=pendB R) (hup.ok.bd o (an ho)) hup.hv R.effs.length (ac _)) hup.hN) (by omega)
   ·exact az _
theorem dlX_eq(S:Sto):∀k,dlX opsS S k=dlN S k
 | 0=>rfl
 | k+1=>by rw [dlX,dlN,dlX_eq S k];rfl
section
variable {w : World} {eb ef : Addr} {n : Nat}
theorem zxx{S:Sto}(hG:Gi n S){own:Clr}{s rg cc pp ch:Nat}{pv:Value}{prs:List Nat}{w':World}(hS:StIn w' own s rg cc pp ch pv prs S)(r:Nat)(hr:r<n):Rl 13 #[sV s,I r] w' (ckS S r,0):=by
 obtain⟨L,hG⟩:=hG;have hl:r<S.reps.length:=by rw [hG.rl];exact hr
 have hR:=ag hl;obtain⟨bs,hL,hRS⟩:=hG.rep r _ hR;unfold ckS;rw [hR];exact zri own s rg cc pp ch pv prs S r _ w' hS hR (by rw [hRS.cl];have:=hRS.n4;omega)
theorem af_any(hI:zaj)(hg:Gd w)(hgg:Gg w)(hgl:Gl w eb ef)(hpw:Pw w)(h2:2<=n)(h4:n<=4):Af opsS n w (begF opsS (newS n)) ckS (fun s Z S w'=>Gi n S∧S1 Z w eb ef s S w') (Wa n) (C1 n) (C2 n) (fun l i S=>Mx l n i S) (fun l A r t S=>Jr l n A r t S) where
 apz s:=⟨fun Z=>zuw hI hg hgg (hosts1 Z w eb ef s),fun Z S w' h p hp=>by
   obtain⟨_,own,_,_,h3⟩:=h
   exact(h3 p hp).2,fun Z V S w1 w2 h hb hV=>⟨h.1,h.2.more hb hV⟩,fun V Z S w' h=>⟨h.1,by
   obtain⟨_,own,q1,q2,q3⟩:=h
   exact⟨own,q1,q2,fun p hp=>q3 p (ao.2 (.inr hp))⟩⟩⟩
 put s S g ob ob' w1 w2 h hT hg':=⟨h.1,h.2.put hT hg'⟩
 bel s Z S w' h:=by
  obtain⟨_,own,q1,_⟩:=h;exact q1.bel
 beg:=by
  have hen:Env w w (fun _=>0) eb ef:=⟨hgl,hpw,Below.refl _ _,fun _ _=>rfl⟩
  refine zx3 (P:=fun s S w'=>Gi n S∧S1 [] w eb ef s S w') (fun s=>zuw hI hg hgg (hosts1 [] w eb ef s)) (beg_any n h2 h4) w ((zyc (fun _=>0) n w w eb ef hen h2 h4).mono ?_);rintro e w' ⟨s,rfl,⟨own',rg,cc,pp,ch,pv,prs,hE,hS,hen',hT⟩,_⟩;exact⟨s,rfl,gk_new n h2 h4,own',hen',⟨_,_,_,_,_,_,hS⟩,fun p hp=>by cases hp⟩
 w0:=wa_new n h2 h4
 fck s Z S w' r hr h:=by
  obtain⟨hG,own,_,⟨rg,cc,pp,ch,pv,prs,hS⟩,_⟩:=h;exact zxx hG hS r hr
 fms s Z S w' l i h hM:=by
  obtain⟨_,own,_,⟨rg,cc,pp,ch,pv,prs,hS⟩,_⟩:=h;refine(zu7 own s rg cc pp ch pv prs S w' hS).mono ?_;rintro e w2 ⟨v,rfl,h1,h2⟩;obtain⟨a,c,rfl⟩:=sl_of h1;have h0:S.msgs= []:=hM.2.1.1;rw [h0];exact⟨a,c,rfl,h2⟩
 fds l S o r h hr hrn:=wa_does h o hr hrn
 fc0 l S h:=⟨h,fun q hq=>by omega⟩
 fc1 l r S h hr:=c1_step h hr
 fc2 s Z w' l S h hC:=by
  obtain⟨_,own,_,⟨rg,cc,pp,ch,pv,prs,hS⟩,_⟩:=h;exact c2_start hC hS.post.most
 fc3 l i S h:=c2_step h
 fc4 l S h:=c2_end h
 fj0 l i A h:=zz4 h.1 h.2.1
 fj1 l A r S h:=jr_skip h
 fj2 l A r t S h hr ht hne:=by rw [dlX_eq];exact jr_step h hr ht hne
 fj3 l A r S h:=jr_next h
 fj4 l i A S h hj:=mx_step h hj
 fm1 l S h:=mx_end h
 fm2 l i S h r hr:=by
  obtain⟨⟨L,hG⟩,hc,_⟩:=h;obtain⟨R,bs,a⟩:=hG.at0 hc hr;rw [a.ck];exact a.ru.cl
 fm3 l i S h hl r hr:=(zt3 h.1 h.2.1 hl hr).1
 fm4 l i S h hl r hr k hk:=zt2 h.1 h.2.1 hl hr hk
 frl s Z S w' r o h:=aQ (rdS_len h.1 r o) (by omega)
theorem zx5(many:Int)(hm:Rg many)(hI:zaj)(hg:Gd w)(hgg:Gg w)(hgl:Gl w eb ef)(hpw:Pw w)(aa:Option Addr)(ca:Nat)(raws:List Sp)(hat:SpAt w aa raws)(hok:∀o∈raws,SpOk o)(hll:raws.length<=9223372036854775807):
  Calls prog 3 #[I many, .slice aa raws.length ca] w fun e w'=>e= .returned (.bool true)∧Below w.heap.size w w':=by
 obtain⟨n0,n1⟩:=pk_lt many 3 (by decide);obtain⟨n,hn⟩:∃n:Nat,2+Wv.pk many 3=n:=aN (by omega);exact zt1 many hm hn.symm (af_any (eb:=eb) (ef:=ef) hI hg hgg hgl hpw (by omega) (by omega)) (fun xs ys a b ca cb w ha hb hl=>zxg xs ys a b ca cb w ha hb hl) aa ca raws hat hok hll
end
