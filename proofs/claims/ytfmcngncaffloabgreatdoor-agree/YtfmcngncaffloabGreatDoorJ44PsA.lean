import Derived.Test.YtfmcngncaffloabGreatDoorJ43MgB
import Derived.Test.YtfmcngncaffloabGreatDoorJ38CrA
set_option maxHeartbeats 1600000
namespace Go.Proofs.YtfmcngncaffloabGreatDoor
open Go.RowKit Go.Proofs.Tryz Wv
set_option maxRecDepth 100000
structure Md where
 sums:List Int
 sets:List (List Bool)
 regs:List Int
 lists:List (List Int)
def ObRel(r s i:Int)(m:Md)(k:Nat):Ob->Prop
 | .counter n=>k % 4=0∧n=m.sums.getD (k / 4) 0
 | .set l=>k % 4=1∧LvO r s i l∧SetRel l (m.sets.getD (k / 4) [])
 | .reg l=>k % 4=2∧LvO r s i l∧((0<=m.regs.getD (k / 4) 0∧∃d,l= [(d,m.regs.getD (k / 4) 0)])∨(m.regs.getD (k / 4) 0<0∧l= []))
 | .list l=>k % 4=3∧LsO r s i l∧(stands l).map El.v=m.lists.getD (k / 4) []
structure MdOk(m:Md):Prop where
 sums:m.sums.length=2
 sets:m.sets.length=2
 sets0:∀l∈m.sets,l.length=256
 regs:m.regs.length=2
 lists:m.lists.length=2
structure Can(m:Md)(op:Int)(ix:Nat)(a b:Int):Prop where
 op1:1<=op
 op6:op<=6
 lt2:ix<2
 add:op=1-> -1000<=a∧a<=1000
 val:op=2∨op=3∨op=4->0<=a∧a<=255
 put:op=5->0<=a∧a<=(m.lists.getD ix []).length∧0<=b∧b<=255
 era:op=6->0<=a∧a<(m.lists.getD ix []).length
 b0:op ≠ 5->b=0
structure Bq(b:Bt)(r s:Int):Prop where
 o:b.o=r
 sq:b.s=s
 r0:0<=r
 r1:r<b.clock.length
 c:b.clock.getD r.toNat 0=s - 1
def LvC(C:Dt->Prop)(m:Lv):Prop:=(m.map (·.1)).Nodup∧∀p∈m,C p.1
def Ob.cv(C:Dt->Prop):Ob->Prop
 | .counter _=>True
 | .set m=>LvC C m
 | .reg m=>LvC C m
 | .list ls=>∀e∈ls,C e.s.d
theorem LvC.mono{C D:Dt->Prop}{m:Lv}(h:LvC C m)(hcd:∀d,C d->D d):LvC D m:=⟨h.1,fun p hp=>hcd _ (h.2 p hp)⟩
theorem Ob.cv.mono{C D:Dt->Prop}{o:Ob}(h:o.cv C)(hcd:∀d,C d->D d):o.cv D:=by
 cases o with
 | counter n=>trivial
 | set m=>exact LvC.mono (m:=m) h hcd
 | reg m=>exact LvC.mono (m:=m) h hcd
 | list ls=>exact fun e he=>hcd _ (h e he)
theorem zwt{m:Lv}{d:Dt}(h:idxD d m=none):d∉m.map (·.1):=by
 unfold idxD at h;rw [List.findIdx?_eq_none_iff] at h;intro hd;obtain⟨x,hx,rfl⟩:=aG.1 hd;have:=h x hx;rw [(zba _ _).2 rfl] at this;cases this
theorem LvC.put{C:Dt->Prop}{m:Lv}(h:LvC C m)(d:Dt)(v:Int)(hd:C d):LvC C (putD m d v):=by
 unfold putD;cases hq:idxD d m with
 | none=>
  refine⟨?_,fun p hp=> ?_⟩
  ·show((m++ [(d,v)]).map (·.1)).Nodup
   rw [aO,List.nodup_append];refine⟨h.1,by simp,fun a ha b hb=> ?_⟩;have hb:b=d:=by simpa using hb
   rintro rfl;exact zwt hq (hb ▸ ha)
  ·rcases ao.1 hp with q | q
   ·exact h.2 p q
   ·rw [aB.1 q];exact hd
 | some i=>
  obtain⟨hil,hu⟩:=zie hq
  have e:(m.set i (d,v)).map (·.1)=m.map (·.1):=by
   rw [List.map_set];have:(m.map (·.1))[i]?=some d:=by rw [List.getElem?_map,ag hil];exact aD some hu
   obtain⟨hl,he⟩:=af.1 this;exact(aD _ he.symm).trans (List.set_getElem_self hl)
  refine⟨by show((m.set i (d,v)).map (·.1)).Nodup;rw [e];exact h.1,fun p hp=> ?_⟩;have hp:p∈m.set i (d,v):=hp;rcases List.mem_or_eq_of_mem_set hp with q | q
  ·exact h.2 p q
  ·rw [q];exact hd
theorem LvC.dels{C:Dt->Prop}{m:Lv}(h:LvC C m)(ds:List Dt):LvC C (delsD m ds):=by
 rw [zdk ds h.1];exact⟨zdi _ h.1,fun p hp=>h.2 p (List.mem_filter.1 hp).1⟩
theorem Ob.cv.take{C:Dt->Prop}{o:Ob}(h:o.cv C)(s:Stp)(e:Ef)(hs:C s.d):(o.take s e).cv C:=by
 cases o with
 | counter n=>trivial
 | set m=>
  show LvC C (takeS m s e);have h:LvC C m:=h;unfold takeS;split
  ·exact h.put _ _ hs
  ·split
   ·exact h.dels _
   ·exact h
 | reg m=>
  have h:LvC C m:=h;exact(h.dels _).put _ _ hs
 | list ls=>
  have h:∀e∈ls,C e.s.d:=h;show∀x∈takeL ls s e,C x.s.d;unfold takeL;split
  ·unfold putL insL
   intro x hx;rw [ao,ar] at hx;rcases hx with q | q | q
   ·exact h x (List.mem_of_mem_take q)
   ·rw [q];exact hs
   ·exact h x (List.mem_of_mem_drop q)
  ·split
   ·intro x hx
    obtain⟨y,hy,rfl⟩:=aG.1 hx;unfold markE;split<;>exact h y hy
   ·exact h
structure AnsC(C:Dt->Prop)(op:Int)(a:Sya):Prop where
 dots:∀d∈a.ds,C d
 rise:Rise a.ds
 ref:(a.ref=⟨0,0,0⟩∧rRef op ≠ 2)∨(C a.ref∧rRef op ≠ 0)
 val:rLeast op<=a.va∧a.va<=rGreat op
theorem zhf:Rise []:=List.Pairwise.nil
theorem ans_cv{C:Dt->Prop}{o:Ob}{op:Int}(h:o.cv C)(h1:1<=op)(h6:op<=6)(hkd:(o.kind:Int)=rKind op)(x y:Int)(he:(o.answer op x y).err=0):AnsC C op (o.answer op x y):=by
 have hop:op=1∨op=2∨op=3∨op=4∨op=5∨op=6:=by omega
 have hval:∀z:Int,valE z=0->0<=z∧z<=255:=by
  intro z hz;unfold valE at hz;split at hz
  ·cases hz
  ·omega
 cases o with
 | counter n=>
  have hq:op=1:=by
   rcases hop with rfl | rfl | rfl | rfl | rfl | rfl<;>first | rfl | exact absurd hkd (aS rfl)
  subst hq;have he:(addE x).2=0:=he
  have hv:(addE x).1=x∧ -1000<=x∧x<=1000:=by
   unfold addE at he ⊢;split at he
   ·cases he
   ·rename_i hn
    rw [ap hn];exact⟨rfl,by omega,by omega⟩
  refine⟨fun d hd=>(by cases hd),zhf, .inl ⟨rfl,aS rfl⟩, ?_⟩;show rLeast 1<=(addE x).1∧(addE x).1<=rGreat 1;rw [hv.1];exact hv.2
 | set m=>
  have hq:op=2∨op=3:=by
   rcases hop with rfl | rfl | rfl | rfl | rfl | rfl<;>first | exact .inl rfl | exact .inr rfl | exact absurd hkd (aS rfl)
  have h:LvC C m:=h;have he:(setE m op x).2.2=0:=he
  have hv:valE x=0:=by
   unfold setE at he;by_cases hz:valE x=0
   ·exact hz
   ·rw [aA hz] at he
    exact he
  have e1:setE m op x=if op=3 then(0,remD m x,0) else(x, [],0):=by unfold setE;rw [ap (by rw [hv];exact fun q=>q rfl)]
  have hx:=hval x hv;rcases hq with rfl | rfl
  ·rw [ap (by omega)] at e1
   have e2:Ob.answer (.set m) 2 x y=⟨x,⟨0,0,0⟩, [],0⟩:=by show(⟨(setE m 2 x).1,_,(setE m 2 x).2.1,(setE m 2 x).2.2⟩:Sya)=_;rw [e1]
   rw [e2];exact⟨fun d hd=>(by cases hd),zhf, .inl ⟨rfl,aS rfl⟩,hx⟩
  ·rw [aA rfl] at e1
   have e2:Ob.answer (.set m) 3 x y=⟨0,⟨0,0,0⟩,remD m x,0⟩:=by show(⟨(setE m 3 x).1,_,(setE m 3 x).2.1,(setE m 3 x).2.2⟩:Sya)=_;rw [e1]
   rw [e2];refine⟨fun d hd=> ?_,zv4 h.1 x, .inl ⟨rfl,aS rfl⟩,⟨aS rfl,aS rfl⟩⟩;exact h.2 _ ((zy1 h.1 x d).1 hd)
 | reg m=>
  have hq:op=4:=by
   rcases hop with rfl | rfl | rfl | rfl | rfl | rfl<;>first | rfl | exact absurd hkd (aS rfl)
  subst hq;have h:LvC C m:=h;have he:(regE m x).2.2=0:=he
  have hv:valE x=0:=by
   unfold regE at he;by_cases hz:valE x=0
   ·exact hz
   ·rw [aA hz] at he
    exact he
  have e1:regE m x=(x,sortD (m.map (·.1)),0):=by unfold regE;rw [ap (by rw [hv];exact fun q=>q rfl)]
  have e2:Ob.answer (.reg m) 4 x y=⟨x,⟨0,0,0⟩,sortD (m.map (·.1)),0⟩:=by show(⟨(regE m x).1,_,(regE m x).2.1,(regE m x).2.2⟩:Sya)=_;rw [e1]
  rw [e2];refine⟨fun d hd=> ?_,zgu h.1, .inl ⟨rfl,aS rfl⟩,hval x hv⟩;have hd:d∈sortD (m.map (·.1)):=hd;rw [(zb5 _).mem_iff] at hd;obtain⟨p,hp,rfl⟩:=aG.1 hd;exact h.2 p hp
 | list ls=>
  have h:∀e∈ls,C e.s.d:=h
  have hel:∀(j:Nat) (hj:j<(stands ls).length),C (stands ls)[j].s.d:=by
   intro j hj;have hm:(stands ls)[j]∈stands ls:=aU hj;unfold stands at hm;exact h _ (List.mem_filter.1 hm).1
  have hq:op=5∨op=6:=by
   rcases hop with rfl | rfl | rfl | rfl | rfl | rfl<;>first | exact .inl rfl | exact .inr rfl | exact absurd hkd (aS rfl)
  have he:(listE ls op x y).2.2=0:=he;rcases hq with rfl | rfl
  ·unfold listE at he
   rw [ap (by omega)] at he
   have hv:valE y=0:=by
    by_cases hz:valE y=0
    ·exact hz
    ·rw [aA hz] at he
     exact he
   rw [ap (by rw [hv];exact fun q=>q rfl)] at he;have e1:listE ls 5 x y=putA ls x y:=by unfold listE;rw [ap (by omega),ap (by rw [hv];exact fun q=>q rfl)]
   have e2:Ob.answer (.list ls) 5 x y=⟨(putA ls x y).1,(putA ls x y).2.1, [],(putA ls x y).2.2⟩:=by show(⟨(listE ls 5 x y).1,(listE ls 5 x y).2.1, [],(listE ls 5 x y).2.2⟩:Sya)=_;rw [e1]
   rw [e2];unfold putA at he ⊢;by_cases h0:x=0
   ·rw [aA h0]
    exact⟨fun d hd=>(by cases hd),zhf, .inl ⟨rfl,aS rfl⟩,hval y hv⟩
   ·rw [ap h0] at he ⊢
    by_cases hj:0<x∧(x - 1).toNat<(stands ls).length
    ·rw [dif_pos hj]
     exact⟨fun d hd=>(by cases hd),zhf, .inr ⟨hel _ hj.2,aS rfl⟩,hval y hv⟩
    ·rw [dif_neg hj] at he
     cases he
  ·have e1:listE ls 6 x y=(0,(zbs ls x).1,(zbs ls x).2):=by unfold listE;rw [aA rfl]
   have e2:Ob.answer (.list ls) 6 x y=⟨0,(zbs ls x).1, [],(zbs ls x).2⟩:=by show(⟨(listE ls 6 x y).1,(listE ls 6 x y).2.1, [],(listE ls 6 x y).2.2⟩:Sya)=_;rw [e1]
   rw [e2];rw [e1] at he;have he:(zbs ls x).2=0:=he;unfold zbs at he ⊢;by_cases hj:0<=x∧x.toNat<(stands ls).length
   ·rw [dif_pos hj]
    exact⟨fun d hd=>(by cases hd),zhf, .inr ⟨hel _ hj.2,aS rfl⟩,⟨aS rfl,aS rfl⟩⟩
   ·rw [dif_neg hj] at he
    cases he
theorem obs_see{b:Bt}{obs:List Ob}(hob:∀e∈b.effs,0<=e.ob)(k:Nat)(o:Ob)(hk:obs[k]?=some o):∀n,(obsTo b obs n)[k]?=some (seeTo b k o n)
 | 0=>hk
 | n+1=>by
  have ih:=obs_see hob k o hk n;rw [obsTo,seeTo];cases he:b.effs[n]? with
  | none=>exact ih
  | some e=>
   have h0:=hob e (an he);simp only;unfold zcg;by_cases hq:e.ob=k
   ·have hq':e.ob.toNat=k:=by omega
    rw [aA hq,hq',ih];simp only;rw [List.getElem?_set_self (af.1 ih).1]
   ·rw [ap hq]
    split
    ·exact ih
    ·rw [aK (by omega)];exact ih
theorem zus{b b':Bt}(ho:b'.o=b.o)(hs:b'.s=b.s)(hc:b'.clock=b.clock)(d:Dt)(i:Int):cov b' d i=cov b d i:=by
 unfold cov inD;rw [ho,hs,hc]
theorem zk0{b b':Bt}(ho:b'.o=b.o)(hs:b'.s=b.s)(hc:b'.clock=b.clock)(i:Int)(ds:List Dt):∀n,dotsTo b' i ds n=dotsTo b i ds n
 | 0=>rfl
 | n+1=>by
  rw [dotsTo,dotsTo,zk0 ho hs hc i ds n];unfold dOk;rw [zus ho hs hc]
theorem zmv{b b':Bt}(ho:b'.o=b.o)(hs:b'.s=b.s)(hc:b'.clock=b.clock)(i:Int)(e:Ef):effOk b' i e=effOk b i e:=by
 unfold effOk refOk dotsOk;rw [zus ho hs hc,zk0 ho hs hc]
def owClk(n r seq:Nat):List Int:=(List.replicate n 0).set r (seq:Int)
structure OwR(n r seq:Nat)(R:Rp)(now done:Md):Prop where
 n2:2<=n
 n4:n<=4
 rlt:r<n
 num:R.n=r
 clk:R.clock=owClk n r seq
 time:R.time=seq
 ok:Rok R
 el:R.effs.length<=4
 eff:∀j (h:j<R.effs.length),effOk (pendB R) j R.effs[j]=true
 obs:∀k,k<8->∃o,R.obs[k]?=some o∧ObRel r (seq+1) 0 done k o∧ObRel r (seq+1) R.effs.length now k (seeTo (pendB R) k o R.effs.length)
 now:MdOk now
 done:MdOk done
section
variable {n r seq : Nat} {R : Rp} {now done : Md}
theorem effOk_op{b:Bt}{i:Int}{e:Ef}(h:effOk b i e=true):1<=e.op∧e.op<=6∧0<=e.ob∧e.ob<=7∧ -1000<=e.va∧e.va<=1000∧(e.dots.length:Int)<=150:=by
 unfold effOk isOp at h;simp only [ak,aq] at h;obtain⟨⟨⟨⟨⟨⟨h1,h2⟩,⟨⟨h3,h4⟩,_⟩⟩,h5,h6⟩,_⟩,h7,h8⟩,_⟩:=h;have hop:e.op=1∨e.op=2∨e.op=3∨e.op=4∨e.op=5∨e.op=6:=by omega
 refine⟨h1,h2,h3,h4, ?_, ?_, ?_⟩
 ·rcases hop with q | q | q | q | q | q<;>(rw [q] at h5;exact Int.le_trans (aS rfl) h5)
 ·rcases hop with q | q | q | q | q | q<;>(rw [q] at h6;exact Int.le_trans h6 (aS rfl))
 ·rcases hop with q | q | q | q | q | q<;>(rw [q] at h8;exact Int.le_trans h8 (aS rfl))
end
theorem do_small(own:Clr)(c p:Nat)(R:Rp)(cg cc hp:Nat)(mv hv ev:Value)(hs:List Bm)(es:List Em)(op x y:Int)(k:Nat)(o:Ob)(w w0:World)(eb ef:Addr)(hen:Env w0 w own eb ef)(h:RpIn w own c p R cg cc hp mv hv ev hs es)(h1:R.st=1)(hop:1<=op∧op<=6)(sy:Sya)(hsy:(seeTo (pendB R) k o R.effs.length).answer op x y=sy)(hls:(sy.ds.length:Int)<rLeastD op)(hkd:(k:Int) % 4=rKind op)(her:sy.err=0)
  (hk:R.obs[k]?=some o) (hobs:R.obs.length=8)
  (hl:R.clock.length<=1000) (hn0:0<=R.n) (hn1:R.n<R.clock.length) (hs0:∀z∈R.clock,0<=z∧z<=1000000) (ht0:0<=R.time) (ht1:R.time<=1000000000)
  (N:Nat) (hN:N+R.effs.length<=100000) (hbd:o.bound N) (hval:∀e∈R.effs, -1000<=e.va∧e.va<=1000∧e.dots.length<=1048576):
  Calls prog 40 #[.pointer (some ⟨p,0,none⟩),I op,I k,I x,I y] w fun e w'=>e= .returned (I 0)∧Below w.heap.size w w':=by
 have HLS:Hid ((sy.ds.length:Int)<rLeastD op):=hls;clear hls;have HRW:Hid (RpIn w own c p R cg cc hp mv hv ev hs es):=h;have c1:w.cell? ⟨p,1,none⟩=some (I R.st):=h.blk.cell 1;have hb:(R.st==1)=true:=by simp [h1]
 have HC:Hid (Calls prog 66 #[.pointer (some ⟨p,0,none⟩),I k] w fun e w'=>SeeOk own (seeTo (pendB R) k o R.effs.length) w e w'):=zez own c p R cg cc hp mv hv ev hs es k o w h hk hobs hl hn0 hn1 hs0 ht0 ht1 N hN hbd hval;have HEN:Hid (Env w0 w own eb ef):=hen;have HOP:Hid (1<=op∧op<=6):=hop;have hA1:(0:Int)<=k:=by omega
 have hA2:(k:Int)<=7:=by
  obtain⟨h,_⟩:=af.1 hk;omega
 have hB:(rKind op !=(k:Int) % 4)=false:=by simpa using hkd.symm
 have HSM:Hid ((seeTo (pendB R) k o R.effs.length).bound 100000):=Ob.bound_mono (zcu (b:=pendB R) hbd hval R.effs.length (ac _)) hN;have HSY:Hid ((seeTo (pendB R) k o R.effs.length).answer op x y=sy):=hsy;have HER:Hid (sy.err=0):=her;clear h h1 hen hk hobs hl hn0 hn1 hs0 ht0 ht1 hN hbd hval hop hkd her hsy;generalize seeTo (pendB R) k o R.effs.length=o2 at *
 go_enter func40,ntmps40;go_wp2_with fail
 refine HC.out.mono ?_;rintro e w1 ⟨v,d,own',rfl,hE,hO,hB⟩;have HB:Hid (Below w.heap.size w w1):=hB;obtain⟨tw,pw,hvf⟩:=ObAt.face hO;subst hvf;have HO:Hid (ObAt w1 own' d (.iface tw pw) o2):=hO;clear hE hO hB HC;go_wp2_with fail
 refine(zbg op w1 eb ef (HEN.out.below HB.out) HOP.out).mono ?_;rintro e w2 ⟨rfl,hB2⟩;unfold ruleV;have HBX:Hid (Below w1.heap.size w1 w2):=hB2;have HB2:Hid (Below w.heap.size w w2):=HB.out.trans (hB2.mono HB.out.size);clear hB2;go_wp2_with fail
 go_quiet (first | (go_at_call 68;exact Calls.quiet_of_same (zb7 _ hA1 hA2 _)))
 obtain⟨w3,hw3⟩:∃w3,w3=(w2.alloc (.cells #[I (rKind op),I (rLeast op),I (rGreat op),I (rRef op),I (rLeastD op),I (rMostD op)] 118)).drewN nq:=⟨_,rfl⟩
 have HB13:Hid (Below w1.heap.size w1 w3):=by rw [hw3];exact za7 (HBX.out.alloc HBX.out.size _) nq
 have HRU3:Hid (Blk w3 w2.heap.size #[I (rKind op),I (rLeast op),I (rGreat op),I (rRef op),I (rLeastD op),I (rMostD op)] 118):=by rw [hw3];exact heap_alloc_new w2 _
 change Exit.then _ _ Exit.normal _ ((w2.alloc (.cells #[I (rKind op),I (rLeast op),I (rGreat op),I (rRef op),I (rLeastD op),I (rMostD op)] 118)).drewN nq);rw [←hw3];clear hw3;have HO3:Hid (ObAt w3 own' d (.iface tw pw) o2):=HO.out.keep (fun b hl _=>HB13.out.block b hl) (Ext.refl _ _)
 go_wp2_with (first
  | (refine zbm rfl _ _ _ _ _ rfl (.iface tw pw) o2 op x y own' d (by simp [Act.eval]) (by simp [Act.eval]) (by simp [Act.eval]) (by simp [Act.eval]) HO3.out HSM.out ?_;rw [HSY.out];intro a1 c1 w4 hA4 hq4 hB4;have HA4:Hid (At w4 a1 (flat zac sy.ds)):=hA4;have HQ4:Hid (∀p,a1=some p->w3.heap.size<=p.block):=hq4;have HB4:Hid (Below w3.heap.size w3 w4):=hB4;clear hB4 hA4 hq4;rw [HER.out];have HRU4:Hid (Blk w4 w2.heap.size #[I (rKind op),I (rLeast op),I (rGreat op),I (rRef op),I (rLeastD op),I (rMostD op)] 118):=HRU3.out.kept HB4.out HRU3.out.lt;have hlt4:w2.heap.size<w4.heap.size:=HRU4.out.lt;have r0:w4.cell? ⟨w2.heap.size,0,none⟩=some (I (rKind op)):=HRU4.out.cell 0;have r1:w4.cell? ⟨w2.heap.size,1,none⟩=some (I (rLeast op)):=HRU4.out.cell 1;have r2:w4.cell? ⟨w2.heap.size,2,none⟩=some (I (rGreat op)):=HRU4.out.cell 2;have r3:w4.cell? ⟨w2.heap.size,3,none⟩=some (I (rRef op)):=HRU4.out.cell 3;have r4:w4.cell? ⟨w2.heap.size,4,none⟩=some (I (rLeastD op)):=HRU4.out.cell 4;have r5:w4.cell? ⟨w2.heap.size,5,none⟩=some (I (rMostD op)):=HRU4.out.cell 5)
  | fail)
 have hB3:Below w.heap.size w w3:=HB.out.trans (HB13.out.mono HB.out.size);have hB4:Below w.heap.size w w4:=hB3.trans (HB4.out.mono hB3.size);have HB5:Hid (Below w.heap.size w (w4.alloc (.cells (efC ⟨syE op k sy,a1,c1⟩) 128))):=hB4.alloc hB4.size _;clear hB3 hB4;refine(zx6 p ⟨syE op k sy,a1,c1⟩ (rKind op) (rLeast op) (rGreat op) (rRef op) (rLeastD op) (rMostD op) (w4.alloc (.cells (efC ⟨syE op k sy,a1,c1⟩) 128)) HLS.out).mono ?_;rintro e w6 ⟨rfl,hA⟩;have HA:Hid (Below w.heap.size w w6):=HB5.out.trans (hA.mono HB5.out.size);clear hA HB5;go_wp2;go_ret;exact⟨rfl,HA.out⟩
theorem zva(own:Clr)(s rg cc pp ch:Nat)(pv:Value)(prs:List Nat)(S:Sto)(r:Nat)(R:Rp)(op x y:Int)(k:Nat)(o:Ob)(w w0:World)(eb ef:Addr)(hen:Env w0 w own eb ef)(h:StIn w own s rg cc pp ch pv prs S)(hR:S.reps[r]?=some R)(hup:Rup R)(h1:R.st=1)(hop:1<=op∧op<=6)(hls:(((seeTo (pendB R) k o R.effs.length).answer op x y).ds.length:Int)<rLeastD op)(hkd:(k:Int) % 4=rKind op)(her:((seeTo (pendB R) k o R.effs.length).answer op x y).err=0)(hk:R.obs[k]?=some o):
  Calls prog 17 #[.pointer (some ⟨s,0,none⟩),I r,I op,I k,I x,I y] w fun e w'=>e= .returned (I 0)∧StOk w0 w own s S eb ef w':=by
 obtain⟨hr,cg,cc',hp,mv,hv,ev,hs,es,hrp⟩:=h.prl hR;have HU:Hid (Calls prog 37 #[.pointer (some ⟨s,0,none⟩),I r] w fun e w'=>e= .returned (.tuple #[.pointer (some ⟨prs[r],0,none⟩),I 0])∧w'=w):=zbn own s rg cc pp ch pv prs S r hr R hR hup.up w h;have HC:Hid (Calls prog 40 #[.pointer (some ⟨prs[r],0,none⟩),I op,I k,I x,I y] w fun e w'=>e= .returned (I 0)∧StOk w0 w own s S eb ef w'):=(do_small own (1+11*r) prs[r] R cg cc' hp mv hv ev hs es op x y k o w w0 eb ef hen hrp h1 hop _ rfl hls hkd her hk hup.ok.obs8 hup.hl hup.n0 hup.n1 hup.hs0 hup.ok.time0 hup.ht1 (5*sumN R.clock) hup.hN (hup.ok.bd o (an hk)) hup.hv).mono (fun e w' hh=>⟨hh.1,StOk.below h hen hh.2⟩);clear h hrp hup hen hR her hk hls hkd hop h1;generalize prs[r]=p at *
 go_enter func17,ntmps17;go_wp2_with fail
 refine HU.out.mono ?_;rintro e w1 ⟨rfl,hw1⟩;subst hw1;go_wp2_with fail
 refine HC.out.mono ?_;rintro e w2 ⟨rfl,h2⟩;have HE:Hid (StOk w0 w1 own s S eb ef w2):=h2;clear h2;go_wp2;go_ret;exact⟨rfl,HE.out⟩
theorem zop(own:Clr)(s rg cc pp ch:Nat)(pv:Value)(prs:List Nat)(S:Sto)(r:Nat)(R:Rp)(w w0:World)(eb ef:Addr)(hI:zaj)(hen:Env w0 w own eb ef)(h:StIn w own s rg cc pp ch pv prs S)(hR:S.reps[r]?=some R)(hup:Rup R)(h1:R.st=1)(he:R.effs ≠ [])(hisb:Wv.isB (pendB R)=true):
  Calls prog 18 #[.pointer (some ⟨s,0,none⟩),I r] w fun e w'=>e= .returned (.tuple #[I (pendB R).s,I 0])∧StOk w0 w own s ⟨S.reps.set r (zcm R),sprA S.msgs r (frameB (pendB R)) S.reps.length⟩ eb ef w':=by
 obtain⟨hr,cg,cc',hp,mv,hv,ev,hs,es,hrp⟩:=h.prl hR;have HU:Hid (Calls prog 37 #[.pointer (some ⟨s,0,none⟩),I r] w fun e w'=>e= .returned (.tuple #[.pointer (some ⟨prs[r],0,none⟩),I 0])∧w'=w):=zbn own s rg cc pp ch pv prs S r hr R hR hup.up w h;have hhs:hs.length<=1000:=by have:=hup.ok.most;rw [hrp.heldB,av] at this;omega
 have hlg:R.log.length+(frameB (pendB R)).length<=100000000:=by have:=hup.ok.logl;have:=hup.ok.sum;have:=zbd hisb;omega
 have hcm:zjk R ((takeP lessM (fun m=>likeB (pendB R) m.b) hs).2.map (·.b))=zcm R:=by
  unfold zcm;rw [hrp.heldB,zf0 (likeB (pendB R)) hs]
 have HC:Hid (Calls prog 41 #[.pointer (some ⟨prs[r],0,none⟩)] w fun e w'=>e= .returned (.tuple #[I (pendB R).s, .string ⟨(frameB (pendB R)).toArray⟩,I 0])∧StOk w0 w own s {S with reps:=S.reps.set r (zcm R)} eb ef w'):=(zq2 own (1+11*r) prs[r] R cg cc' hp mv hv ev hs es w w0 eb ef hI hen (by omega) hrp h1 he hup.hl hup.n0 hup.n1 hup.hs0 hup.ok.time0 hup.ht1 hisb hhs hlg hup.ok.obs8 (5*sumN R.clock) hup.hN hup.ok.bd hup.ev).mono (fun e w' hh=>⟨hh.1,StOk.rep h hen r hr (by rw [←hcm];exact ROk.cm hh.2)⟩);have hpos:(0:Int)<(pendB R).s:=by have:=(zal hisb).2.2.2.1;omega
 clear h hrp hup hen hR hcm hhs hlg h1 he hisb;generalize prs[r]=p at *
 generalize hSQ:(pendB R).s=sq at *
 generalize zcm R=R' at *
 obtain⟨fr,HF⟩:∃fr,Hid (frameB (pendB R)=fr):=⟨_,rfl⟩
 rw [HF.out] at HC ⊢;clear hSQ;go_enter func18,ntmps18;go_wp2_with fail
 refine HU.out.mono ?_;rintro e w1 ⟨rfl,hw1⟩;subst hw1;go_wp2_with fail
 refine HC.out.mono ?_;rintro e w2 ⟨rfl,h2⟩;obtain⟨own2,rg2,cc2,pp2,ch2,pv2,prs2,hE2,hS2,hen2,hT2⟩:=h2;have HS2:Hid (StIn w2 own2 s rg2 cc2 pp2 ch2 pv2 prs2 {S with reps:=S.reps.set r R'}):=hS2;have HEN2:Hid (Env w0 w2 own2 eb ef):=hen2;have HE2:Hid (Ext own own2 w1.heap.size):=hE2;have HT2:Hid (Tch (fun k=>1<=own k∧own k<=100) w1 w2):=hT2;clear hE2 hS2 hen2 hT2 HC HU;go_wp2_with fail
 refine(zom own2 s rg2 cc2 pp2 ch2 pv2 prs2 {S with reps:=S.reps.set r R'} r fr w2 w0 eb ef HEN2.out HS2.out).mono ?_;rintro e w3 ⟨rfl,h3⟩
 have HE:Hid (StOk w0 w1 own s ⟨S.reps.set r R',sprA S.msgs r fr S.reps.length⟩ eb ef w3):=by
  have h4:=StOk.from HE2.out HT2.out h3;have e:(S.reps.set r R').length=S.reps.length:=aE;rw [show sprA S.msgs r fr ({S with reps:=S.reps.set r R'}:Sto).reps.length=sprA S.msgs r fr S.reps.length from by rw [←e]] at h4;exact h4
 clear h3;go_wp2;go_ret2;exact⟨rfl,HE.out⟩
theorem zrm(own:Clr)(s rg cc pp ch:Nat)(pv:Value)(prs:List Nat)(S:Sto)(r:Nat)(R:Rp)(w w0:World)(eb ef:Addr)(hen:Env w0 w own eb ef)(h:StIn w own s rg cc pp ch pv prs S)(hR:S.reps[r]?=some R)(hup:Rup R):
  Calls prog 27 #[.pointer (some ⟨s,0,none⟩),I r] w fun e w'=>e= .returned (I (zbe R).2)∧StOk w0 w own s {S with reps:=S.reps.set r (zbe R).1} eb ef w':=by
 obtain⟨hr,cg,cc',hp,mv,hv,ev,hs,es,hrp⟩:=h.prl hR;have HU:Hid (Calls prog 37 #[.pointer (some ⟨s,0,none⟩),I r] w fun e w'=>e= .returned (.tuple #[.pointer (some ⟨prs[r],0,none⟩),I 0])∧w'=w):=zbn own s rg cc pp ch pv prs S r hr R hR hup.up w h
 have HC:Hid (Calls prog 55 #[.pointer (some ⟨prs[r],0,none⟩)] w fun e w'=>e= .returned (I (zbe R).2)∧StOk w0 w own s {S with reps:=S.reps.set r (zbe R).1} eb ef w'):=(zr3 own (1+11*r) prs[r] R cg cc' hp mv hv ev hs es w (by omega) hrp).mono (fun e w' hh=>by
  obtain⟨he,ev',es',hS⟩:=hh
  exact⟨he,StOk.rep h hen r hr (ROk.self hrp.own1 hS)⟩)
 clear h hrp hup hen hR;generalize prs[r]=p at *
 generalize (zbe R).2=z at *
 generalize (zbe R).1=R' at *
 go_enter func27,ntmps27;go_wp2_with fail
 refine HU.out.mono ?_;rintro e w1 ⟨rfl,hw1⟩;subst hw1;go_wp2_with fail
 refine HC.out.mono ?_;rintro e w2 ⟨rfl,h2⟩;have HE:Hid (StOk w0 w1 own s {S with reps:=S.reps.set r R'} eb ef w2):=h2;clear h2;go_wp2;go_ret;exact⟨rfl,HE.out⟩
theorem znd(own:Clr)(s rg cc pp ch:Nat)(pv:Value)(prs:List Nat)(S:Sto)(r:Nat)(R:Rp)(w w0:World)(eb ef:Addr)(hen:Env w0 w own eb ef)(h:StIn w own s rg cc pp ch pv prs S)(hR:S.reps[r]?=some R)(hup:Rup R)(h1:R.st=1)(he:R.effs= []):
  Calls prog 18 #[.pointer (some ⟨s,0,none⟩),I r] w fun e w'=>e= .returned (.tuple #[I 0,I 0])∧StOk w0 w own s {S with reps:=S.reps.set r (endR R)} eb ef w':=by
 obtain⟨hr,cg,cc',hp,mv,hv,ev,hs,es,hrp⟩:=h.prl hR;have HU:Hid (Calls prog 37 #[.pointer (some ⟨s,0,none⟩),I r] w fun e w'=>e= .returned (.tuple #[.pointer (some ⟨prs[r],0,none⟩),I 0])∧w'=w):=zbn own s rg cc pp ch pv prs S r hr R hR hup.up w h;have HC:Hid (Calls prog 41 #[.pointer (some ⟨prs[r],0,none⟩)] w fun e w'=>e= .returned (.tuple #[I 0, .string ⟨#[]⟩,I 0])∧StOk w0 w own s {S with reps:=S.reps.set r (endR R)} eb ef w'):=(zq3 own (1+11*r) prs[r] R cg cc' hp mv hv ev hs es w (by omega) hrp h1 he hup.hl hup.n0 hup.n1 hup.hs0 hup.ok.time0 hup.ht1).mono (fun e w' hh=>⟨hh.1,StOk.rep h hen r hr (ROk.cm hh.2)⟩);clear h hrp hup hen hR h1 he;generalize prs[r]=p at *
 generalize endR R=R' at *
 go_enter func18,ntmps18;go_wp2_with fail
 refine HU.out.mono ?_;rintro e w1 ⟨rfl,hw1⟩;subst hw1;go_wp2_with fail
 refine HC.out.mono ?_;rintro e w2 ⟨rfl,h2⟩;have HE:Hid (StOk w0 w1 own s {S with reps:=S.reps.set r R'} eb ef w2):=h2;clear h2;go_wp2;go_ret2;exact⟨rfl,HE.out⟩
section
variable {w0 w : World} {eb ef : Addr} {s : Nat} {S : Sto} {P : Nat -> Prop}
end
theorem do_err2(own:Clr)(c p:Nat)(R:Rp)(cg cc hp:Nat)(mv hv ev:Value)(hs:List Bm)(es:List Em)(op x y:Int)(k:Nat)(o:Ob)(w w0:World)(eb ef:Addr)(hen:Env w0 w own eb ef)(h:RpIn w own c p R cg cc hp mv hv ev hs es)(h1:R.st=1)(hop:1<=op∧op<=6)(sy:Sya)(hsy:(seeTo (pendB R) k o R.effs.length).answer op x y=sy)(hkd:(k:Int) % 4=rKind op)(her:sy.err ≠ 0)
  (hk:R.obs[k]?=some o) (hobs:R.obs.length=8)
  (hl:R.clock.length<=1000) (hn0:0<=R.n) (hn1:R.n<R.clock.length) (hs0:∀z∈R.clock,0<=z∧z<=1000000) (ht0:0<=R.time) (ht1:R.time<=1000000000)
  (N:Nat) (hN:N+R.effs.length<=100000) (hbd:o.bound N) (hval:∀e∈R.effs, -1000<=e.va∧e.va<=1000∧e.dots.length<=1048576):
  Calls prog 40 #[.pointer (some ⟨p,0,none⟩),I op,I k,I x,I y] w fun e w'=>e= .returned (I sy.err)∧Below w.heap.size w w':=by
 have c1:w.cell? ⟨p,1,none⟩=some (I R.st):=h.blk.cell 1;have hb:(R.st==1)=true:=by simp [h1]
 have HC:Hid (Calls prog 66 #[.pointer (some ⟨p,0,none⟩),I k] w fun e w'=>SeeOk own (seeTo (pendB R) k o R.effs.length) w e w'):=zez own c p R cg cc hp mv hv ev hs es k o w h hk hobs hl hn0 hn1 hs0 ht0 ht1 N hN hbd hval;have HEN:Hid (Env w0 w own eb ef):=hen;have HOP:Hid (1<=op∧op<=6):=hop;have hA1:(0:Int)<=k:=by omega
 have hA2:(k:Int)<=7:=by
  obtain⟨h,_⟩:=af.1 hk;omega
 have hB:(rKind op !=(k:Int) % 4)=false:=by simpa using hkd.symm
 have HSM:Hid ((seeTo (pendB R) k o R.effs.length).bound 100000):=Ob.bound_mono (zcu (b:=pendB R) hbd hval R.effs.length (ac _)) hN;have HSY:Hid ((seeTo (pendB R) k o R.effs.length).answer op x y=sy):=hsy;have HER:Hid (sy.err ≠ 0):=her;clear h h1 hen hk hobs hl hn0 hn1 hs0 ht0 ht1 hN hbd hval hop hkd her hsy;generalize seeTo (pendB R) k o R.effs.length=o2 at *
 go_enter func40,ntmps40;go_wp2_with fail
 refine HC.out.mono ?_;rintro e w1 ⟨v,d,own',rfl,hE,hO,hB⟩;have HB:Hid (Below w.heap.size w w1):=hB;obtain⟨tw,pw,hvf⟩:=ObAt.face hO;subst hvf;have HO:Hid (ObAt w1 own' d (.iface tw pw) o2):=hO;clear hE hO hB HC;go_wp2_with fail
 refine(zbg op w1 eb ef (HEN.out.below HB.out) HOP.out).mono ?_;rintro e w2 ⟨rfl,hB2⟩;unfold ruleV;have HBX:Hid (Below w1.heap.size w1 w2):=hB2;have HB2:Hid (Below w.heap.size w w2):=HB.out.trans (hB2.mono HB.out.size);clear hB2;go_wp2_with fail
 go_quiet (first | (go_at_call 68;exact Calls.quiet_of_same (zb7 _ hA1 hA2 _)))
 obtain⟨w3,hw3⟩:∃w3,w3=(w2.alloc (.cells #[I (rKind op),I (rLeast op),I (rGreat op),I (rRef op),I (rLeastD op),I (rMostD op)] 118)).drewN nq:=⟨_,rfl⟩
 have HB13:Hid (Below w1.heap.size w1 w3):=by rw [hw3];exact za7 (HBX.out.alloc HBX.out.size _) nq
 change Exit.then _ _ Exit.normal _ ((w2.alloc (.cells #[I (rKind op),I (rLeast op),I (rGreat op),I (rRef op),I (rLeastD op),I (rMostD op)] 118)).drewN nq);rw [←hw3];clear hw3;have HO3:Hid (ObAt w3 own' d (.iface tw pw) o2):=HO.out.keep (fun b hl _=>HB13.out.block b hl) (Ext.refl _ _)
 go_wp2_with (first
  | (refine zbm rfl _ _ _ _ _ rfl (.iface tw pw) o2 op x y own' d (by simp [Act.eval]) (by simp [Act.eval]) (by simp [Act.eval]) (by simp [Act.eval]) HO3.out HSM.out ?_;rw [HSY.out];intro a1 c1 w4 hA4 hq4 hB4;have HB4:Hid (Below w3.heap.size w3 w4):=hB4;clear hB4 hA4 hq4;have hne:=HER.out)
  | fail)
 have hB3:Below w.heap.size w w3:=HB.out.trans (HB13.out.mono HB.out.size);have hB4:Below w.heap.size w w4:=hB3.trans (HB4.out.mono hB3.size);go_ret;exact⟨rfl,hB4.alloc hB4.size _⟩
theorem do_big2(own:Clr)(c p:Nat)(R:Rp)(cg cc hp:Nat)(mv hv ev:Value)(hs:List Bm)(es:List Em)(op x y:Int)(k:Nat)(o:Ob)(w w0:World)(eb ef:Addr)(hen:Env w0 w own eb ef)(h:RpIn w own c p R cg cc hp mv hv ev hs es)(h1:R.st=1)(hop:1<=op∧op<=6)(sy:Sya)(hsy:(seeTo (pendB R) k o R.effs.length).answer op x y=sy)(hls:¬(sy.ds.length:Int)<rLeastD op)(hbg:(sy.ds.length:Int)>rMostD op∨es.length=5)(hkd:(k:Int) % 4=rKind op)(her:sy.err=0)
  (hk:R.obs[k]?=some o) (hobs:R.obs.length=8)
  (hl:R.clock.length<=1000) (hn0:0<=R.n) (hn1:R.n<R.clock.length) (hs0:∀z∈R.clock,0<=z∧z<=1000000) (ht0:0<=R.time) (ht1:R.time<=1000000000)
  (N:Nat) (hN:N+R.effs.length<=100000) (hbd:o.bound N) (hval:∀e∈R.effs, -1000<=e.va∧e.va<=1000∧e.dots.length<=1048576):
  Calls prog 40 #[.pointer (some ⟨p,0,none⟩),I op,I k,I x,I y] w fun e w'=>e= .returned (I 12)∧Below w.heap.size w w':=by
 have HLS:Hid (¬(sy.ds.length:Int)<rLeastD op):=hls;have HBG:Hid ((sy.ds.length:Int)>rMostD op∨es.length=5):=hbg;clear hls hbg;have HRW:Hid (RpIn w own c p R cg cc hp mv hv ev hs es):=h;have c1:w.cell? ⟨p,1,none⟩=some (I R.st):=h.blk.cell 1;have hb:(R.st==1)=true:=by simp [h1]
 have HC:Hid (Calls prog 66 #[.pointer (some ⟨p,0,none⟩),I k] w fun e w'=>SeeOk own (seeTo (pendB R) k o R.effs.length) w e w'):=zez own c p R cg cc hp mv hv ev hs es k o w h hk hobs hl hn0 hn1 hs0 ht0 ht1 N hN hbd hval;have HEN:Hid (Env w0 w own eb ef):=hen;have HOP:Hid (1<=op∧op<=6):=hop;have hA1:(0:Int)<=k:=by omega
 have hA2:(k:Int)<=7:=by
  obtain⟨h,_⟩:=af.1 hk;omega
 have hB:(rKind op !=(k:Int) % 4)=false:=by simpa using hkd.symm
 have HSM:Hid ((seeTo (pendB R) k o R.effs.length).bound 100000):=Ob.bound_mono (zcu (b:=pendB R) hbd hval R.effs.length (ac _)) hN;have HSY:Hid ((seeTo (pendB R) k o R.effs.length).answer op x y=sy):=hsy;have HER:Hid (sy.err=0):=her;clear h h1 hen hk hobs hl hn0 hn1 hs0 ht0 ht1 hN hbd hval hop hkd her hsy;generalize seeTo (pendB R) k o R.effs.length=o2 at *
 go_enter func40,ntmps40;go_wp2_with fail
 refine HC.out.mono ?_;rintro e w1 ⟨v,d,own',rfl,hE,hO,hB⟩;have HB:Hid (Below w.heap.size w w1):=hB;obtain⟨tw,pw,hvf⟩:=ObAt.face hO;subst hvf;have HO:Hid (ObAt w1 own' d (.iface tw pw) o2):=hO;clear hE hO hB HC;go_wp2_with fail
 refine(zbg op w1 eb ef (HEN.out.below HB.out) HOP.out).mono ?_;rintro e w2 ⟨rfl,hB2⟩;unfold ruleV;have HBX:Hid (Below w1.heap.size w1 w2):=hB2;have HB2:Hid (Below w.heap.size w w2):=HB.out.trans (hB2.mono HB.out.size);clear hB2;go_wp2_with fail
 go_quiet (first | (go_at_call 68;exact Calls.quiet_of_same (zb7 _ hA1 hA2 _)))
 obtain⟨w3,hw3⟩:∃w3,w3=(w2.alloc (.cells #[I (rKind op),I (rLeast op),I (rGreat op),I (rRef op),I (rLeastD op),I (rMostD op)] 118)).drewN nq:=⟨_,rfl⟩
 have HB13:Hid (Below w1.heap.size w1 w3):=by rw [hw3];exact za7 (HBX.out.alloc HBX.out.size _) nq
 have HRU3:Hid (Blk w3 w2.heap.size #[I (rKind op),I (rLeast op),I (rGreat op),I (rRef op),I (rLeastD op),I (rMostD op)] 118):=by rw [hw3];exact heap_alloc_new w2 _
 change Exit.then _ _ Exit.normal _ ((w2.alloc (.cells #[I (rKind op),I (rLeast op),I (rGreat op),I (rRef op),I (rLeastD op),I (rMostD op)] 118)).drewN nq);rw [←hw3];clear hw3;have HO3:Hid (ObAt w3 own' d (.iface tw pw) o2):=HO.out.keep (fun b hl _=>HB13.out.block b hl) (Ext.refl _ _)
 go_wp2_with (first
  | (refine zbm rfl _ _ _ _ _ rfl (.iface tw pw) o2 op x y own' d (by simp [Act.eval]) (by simp [Act.eval]) (by simp [Act.eval]) (by simp [Act.eval]) HO3.out HSM.out ?_;rw [HSY.out];intro a1 c1 w4 hA4 hq4 hB4;have HA4:Hid (At w4 a1 (flat zac sy.ds)):=hA4;have HQ4:Hid (∀p,a1=some p->w3.heap.size<=p.block):=hq4;have HB4:Hid (Below w3.heap.size w3 w4):=hB4;clear hB4 hA4 hq4;rw [HER.out];have HRU4:Hid (Blk w4 w2.heap.size #[I (rKind op),I (rLeast op),I (rGreat op),I (rRef op),I (rLeastD op),I (rMostD op)] 118):=HRU3.out.kept HB4.out HRU3.out.lt;have hlt4:w2.heap.size<w4.heap.size:=HRU4.out.lt;have r0:w4.cell? ⟨w2.heap.size,0,none⟩=some (I (rKind op)):=HRU4.out.cell 0;have r1:w4.cell? ⟨w2.heap.size,1,none⟩=some (I (rLeast op)):=HRU4.out.cell 1;have r2:w4.cell? ⟨w2.heap.size,2,none⟩=some (I (rGreat op)):=HRU4.out.cell 2;have r3:w4.cell? ⟨w2.heap.size,3,none⟩=some (I (rRef op)):=HRU4.out.cell 3;have r4:w4.cell? ⟨w2.heap.size,4,none⟩=some (I (rLeastD op)):=HRU4.out.cell 4;have r5:w4.cell? ⟨w2.heap.size,5,none⟩=some (I (rMostD op)):=HRU4.out.cell 5)
  | fail)
 have hB3:Below w.heap.size w w3:=HB.out.trans (HB13.out.mono HB.out.size);have hB4:Below w.heap.size w w4:=hB3.trans (HB4.out.mono hB3.size);have HB5:Hid (Below w.heap.size w (w4.alloc (.cells (efC ⟨syE op k sy,a1,c1⟩) 128))):=hB4.alloc hB4.size _;clear hB3 hB4;refine(add_big (newTo own w.heap.size 0) c p R cg cc hp mv hv ev hs es ⟨syE op k sy,a1,c1⟩ (rKind op) (rLeast op) (rGreat op) (rRef op) (rLeastD op) (rMostD op) (w4.alloc (.cells (efC ⟨syE op k sy,a1,c1⟩) 128)) (HRW.out.keep (fun b hb _=>HB5.out.block b hb) (fun _ _ _ b hb _=>HB5.out.block b hb) (zab _ _ _)) (by have h:=HLS.out;show¬(sy.ds.length:Int)<rLeastD op;omega) (by have h:=HBG.out;show(sy.ds.length:Int)>rMostD op∨es.length=5;omega)).mono ?_;rintro e w6 ⟨rfl,hA⟩;have HA:Hid (Below w.heap.size w w6):=HB5.out.trans (hA.mono HB5.out.size);clear hA HB5;go_wp2;go_ret;exact⟨rfl,HA.out⟩
