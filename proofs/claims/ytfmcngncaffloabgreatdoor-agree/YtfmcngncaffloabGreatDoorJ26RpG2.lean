import Derived.Test.YtfmcngncaffloabGreatDoorJ25RpB
import Derived.Test.YtfmcngncaffloabGreatDoorJ15DecD
import Derived.Deep.DeepCutAuto
set_option maxHeartbeats 800000
namespace Go.Proofs.YtfmcngncaffloabGreatDoor
open Go.RowKit Go.Proofs.Tryz Wv
set_option maxRecDepth 100000
structure Rp where
 n:Int
 st:Int
 clock:List Int
 time:Int
 obs:List Ob
 log:List UInt8
 synced:Int
 held:List Bt
 effs:List Ef
def ObsAt(w:World)(own:Clr)(c:Nat)(mv:Value)(obs:List Ob):Prop:=
 (obs= []∧mv= .map none)∨∃mb vs,mv= .map (some mb)∧own mb=c∧OmAt w mb vs∧vs.length=8∧obs.length=8∧∀k (h1:k<vs.length) (h2:k<obs.length),ObAt w own (c+1+k) vs[k] obs[k]
structure HeldAt(w:World)(own:Clr)(c hp:Nat)(hv:Value)(hs:List Bm):Prop where
 hpx:HpIn w hp hv hs
 own1:own hp=c
 own2:∀g,hv.ownBlock=some g->own g=c
 bats:∀m∈hs,BatIn w own m
structure EffsAt(w:World)(own:Clr)(c:Nat)(ev:Value)(es:List Em):Prop where
 row:w.ownsRow 0 128 7 ev es.length (flat Em.cells es)
 own2:∀g,ev.ownBlock=some g->own g=c
 dots:∀x∈es,At0 w own x.da (flat zac x.e.dots)
structure RpIn(w:World)(own:Clr)(c p:Nat)(R:Rp)(cg cc hp:Nat)(mv hv ev:Value)(hs:List Bm)(es:List Em):Prop where
 blk:Blk w p #[I R.n,I R.st, .slice (some ⟨cg,0,none⟩) R.clock.length cc,I R.time,mv, .string ⟨R.log.toArray⟩,I R.synced, .pointer (some ⟨hp,0,none⟩),ev] 110
 clk:Blk w cg (R.clock.map I).toArray 3
 own1:own p=c
 own2:own cg=c
 obs:ObsAt w own c mv R.obs
 held:HeldAt w own (c+9) hp hv hs
 heldB:R.held=hs.map (·.b)
 effs:EffsAt w own (c+10) ev es
 effsE:R.effs=es.map (·.e)
def RpAt(w:World)(own:Clr)(c p:Nat)(R:Rp):Prop:=∃cg cc hp mv hv ev hs es,RpIn w own c p R cg cc hp mv hv ev hs es
theorem ObsAt.keep{w w':World}{own own':Clr}{c:Nat}{mv:Value}{obs:List Ob}(h:ObsAt w own c mv obs)(hs:∀d,c<=d->d<=c+8->Same own d w w')(he:Ext own own' w.heap.size):ObsAt w' own' c mv obs:=by
 rcases h with h | ⟨mb,vs,e,ho,hm,h1,h2,hk⟩
 ·exact Or.inl h
 ·exact Or.inr ⟨mb,vs,e,(he mb hm.lt).trans ho,hm.same (hs c (ac _) (by omega) mb hm.lt ho),h1,h2,fun k a b=>(hk k a b).keep (hs _ (by omega) (by omega)) he⟩
theorem HpIn.keep{w w':World}{own:Clr}{c hp:Nat}{v:Value}{bs:List Bm}(h:HpIn w hp v bs)(h1:own hp=c)(h2:∀g,v.ownBlock=some g->own g=c)(hs:Same own c w w'):HpIn w' hp v bs:=
 ⟨(hs hp h.blk.lt h1).trans h.blk,zag h.row (fun g e=>hs g (h.row.lt g e).2 (h2 g e))⟩
theorem HeldAt.keep{w w':World}{own own':Clr}{c hp:Nat}{hv:Value}{hs:List Bm}(h:HeldAt w own c hp hv hs)(h0:Same own 0 w w')(h1:Same own c w w')(he:Ext own own' w.heap.size):HeldAt w' own' c hp hv hs:=
 ⟨h.hpx.keep h.own1 h.own2 h1,(he hp h.hpx.blk.lt).trans h.own1,fun g e=>(he g (h.hpx.row.lt g e).2).trans (h.own2 g e),fun m hm=>(h.bats m hm).keep h0 he⟩
theorem EffsAt.keep{w w':World}{own own':Clr}{c:Nat}{ev:Value}{es:List Em}(h:EffsAt w own c ev es)(h0:Same own 0 w w')(h1:Same own c w w')(he:Ext own own' w.heap.size):EffsAt w' own' c ev es:=
 ⟨zag h.row (fun g e=>h1 g (h.row.lt g e).2 (h.own2 g e)),fun g e=>(he g (h.row.lt g e).2).trans (h.own2 g e),fun x hx=>(h.dots x hx).keep h0 he⟩
theorem RpIn.keep{w w':World}{own own':Clr}{c p:Nat}{R:Rp}{cg cc hp:Nat}{mv hv ev:Value}{hs:List Bm}{es:List Em}(h:RpIn w own c p R cg cc hp mv hv ev hs es)(h0:Same own 0 w w')(hS:∀d,c<=d->d<=c+10->Same own d w w')(he:Ext own own' w.heap.size):RpIn w' own' c p R cg cc hp mv hv ev hs es:=
 ⟨(hS c (ac _) (by omega) p h.blk.lt h.own1).trans h.blk,(hS c (ac _) (by omega) cg h.clk.lt h.own2).trans h.clk,(he p h.blk.lt).trans h.own1,(he cg h.clk.lt).trans h.own2,h.obs.keep (fun d a b=>hS d a (by omega)) he,h.held.keep h0 (hS _ (by omega) (by omega)) he,h.heldB,h.effs.keep h0 (hS _ (by omega) (by omega)) he,h.effsE⟩
theorem RpIn.clkAt{w:World}{own:Clr}{c p:Nat}{R:Rp}{cg cc hp:Nat}{mv hv ev:Value}{hs:List Bm}{es:List Em}(h:RpIn w own c p R cg cc hp mv hv ev hs es):ClkAt w p cg cc R.clock:=
 ⟨h.blk.cell 2,fun j hj=>by rw [h.clk.cell];simp [hj]⟩
theorem zas{w w':World}{p:Nat}(h:Tch (fun k=>k=p) w w')(j:Nat)(u:Value):Tch (fun k=>k=p) w (w'.setCell ⟨p,j,none⟩ u):=h.setCell ⟨p,j,none⟩ u (Or.inl rfl)
theorem RpIn.self{w w':World}{own:Clr}{c p:Nat}{R R':Rp}{cg cc hp:Nat}{mv hv ev:Value}{hs:List Bm}{es:List Em}(hc0:0<c)(h:RpIn w own c p R cg cc hp mv hv ev hs es)(hT:Tch (fun k=>k=p) w w')
  (hb:Blk w' p #[I R'.n,I R'.st, .slice (some ⟨cg,0,none⟩) R'.clock.length cc,I R'.time,mv, .string ⟨R'.log.toArray⟩,I R'.synced, .pointer (some ⟨hp,0,none⟩),ev] 110)
  (e1:R'.clock=R.clock) (e2:R'.obs=R.obs) (e3:R'.held=R.held) (e4:R'.effs=R.effs):RpIn w' own c p R' cg cc hp mv hv ev hs es:=by
 have hS:∀d,d ≠ c->Same own d w w':=fun d hd b hb ho=>hT.block b hb (fun e=>hd (by rw [←ho,e,h.own1]))
 have hcg:cg ≠ p:=by
  rintro rfl;have:=h.blk.symm.trans h.clk;simp at this
 refine⟨hb, ?_,h.own1,h.own2, ?_,h.held.keep (hS 0 (by omega)) (hS _ (by omega)) (Ext.refl _ _),e3.trans h.heldB,h.effs.keep (hS 0 (by omega)) (hS _ (by omega)) (Ext.refl _ _),e4.trans h.effsE⟩
 ·rw [e1]
  exact hT.blk h.clk hcg
 ·rw [e2]
  rcases h.obs with h1 | ⟨mb,vs,e,ho,hm,l1,l2,hk⟩
  ·exact Or.inl h1
  ·refine Or.inr ⟨mb,vs,e,ho,hm.same (hT.block mb hm.lt ?_),l1,l2,fun k a b=>(hk k a b).keep (hS _ (by omega)) (Ext.refl _ _)⟩
   rintro rfl;obtain⟨xs,cl,hx,_⟩:=hm;cases h.blk.symm.trans hx
def zbt(R:Rp):Rp×Int:=if R.st=1 then(R,6) else if R.clock.getD R.n.toNat 0=30 then(R,13) else({R with st:=1},0)
def zb2(w:World)(own:Clr)(c p:Nat)(R:Rp)(cg cc hp:Nat)(mv hv ev:Value)(hs:List Bm)(es:List Em)(w':World):Prop:=RpIn w' own c p R cg cc hp mv hv ev hs es∧Tch (fun k=>k=p) w w'
theorem zr1(own:Clr)(c p:Nat)(R:Rp)(cg cc hp:Nat)(mv hv ev:Value)(hs:List Bm)(es:List Em)(w:World)(hc0:0<c)(h:RpIn w own c p R cg cc hp mv hv ev hs es)(hn0:0<=R.n)(hn1:R.n<R.clock.length):
  Calls prog 39 #[.pointer (some ⟨p,0,none⟩)] w fun e w'=>e= .returned (I (zbt R).2)∧zb2 w own c p (zbt R).1 cg cc hp mv hv ev hs es w':=by
 have HR:Hid (RpIn w own c p R cg cc hp mv hv ev hs es):=h;have c0:w.cell? ⟨p,0,none⟩=some (I R.n):=h.blk.cell 0;have c1:w.cell? ⟨p,1,none⟩=some (I R.st):=h.blk.cell 1;have c2:w.cell? ⟨p,2,none⟩=some (.slice (some ⟨cg,0,none⟩) R.clock.length cc):=h.blk.cell 2;have z1:w.frozen? ⟨p,1,none⟩=false:=h.blk.frozen 1;have hnn:R.n.toNat<R.clock.length:=by omega
 have d0:w.cell? ⟨cg,R.n.toNat,none⟩=some (I (R.clock.getD R.n.toNat 0)):=by rw [h.clkAt.row _ hnn];simp [hnn]
 clear h;go_enter func39,ntmps39;by_cases h1:R.st=1
 ·have HV:Hid (zbt R=(R,6)):=by show _=_;unfold zbt;rw [aA h1]
  have hb:(R.st==1)=true:=by simp [h1]
  clear h1;go_wp2;go_ret;exact⟨by rw [HV.out];rfl,by rw [HV.out];exact⟨HR.out,Tch.refl _ _⟩⟩
 ·have hb:(R.st==1)=false:=by simp [h1]
  by_cases h2:R.clock.getD R.n.toNat 0=30
  ·have HV:Hid (zbt R=(R,13)):=by show _=_;unfold zbt;rw [ap h1,aA h2]
   have hb2:(R.clock.getD R.n.toNat 0==30)=true:=by rw [h2];rfl
   clear h1 h2;generalize R.clock.getD R.n.toNat 0=dk at *
   go_wp2_with fail
   go_quiet (fail)
   go_wp2;go_ret;exact⟨by rw [HV.out];rfl,by rw [HV.out];exact⟨HR.out.keep (fun _ _ _=>rfl) (fun _ _ _ _ _ _=>rfl) (Ext.refl _ _),(Tch.refl _ _).drewN nq⟩⟩
  ·have HV:Hid (zbt R=({R with st:=1},0)):=by show _=_;unfold zbt;rw [ap h1,ap h2]
   have hb2:(R.clock.getD R.n.toNat 0==30)=false:=beq_eq_false_iff_ne.2 h2;clear h1 h2;generalize R.clock.getD R.n.toNat 0=dk at *
   go_wp2_with fail
   go_quiet (fail)
   have HRQ:Hid (RpIn (w.drewN nq) own c p R cg cc hp mv hv ev hs es):=HR.out.keep (fun _ _ _=>rfl) (fun _ _ _ _ _ _=>rfl) (Ext.refl _ _);have y1:(w.drewN nq).cell? ⟨p,1,none⟩=some (I R.st):=HRQ.out.blk.cell 1;have y2:(w.drewN nq).frozen? ⟨p,1,none⟩=false:=HRQ.out.blk.frozen 1;have HTQ:Hid (Tch (fun k=>k=p) w (w.drewN nq)):=(Tch.refl _ _).drewN nq;clear HR c0 c1 c2 z1 d0;generalize w.drewN nq=wq at *
   go_wp2;go_ret;rw [HV.out];exact⟨rfl,HRQ.out.self hc0 (zas (Tch.refl _ _) _ _) (HRQ.out.blk.set 1 _) rfl rfl rfl rfl,zas HTQ.out _ _⟩
def endR(R:Rp):Rp:={R with st:=0,effs:= []}
theorem zj6(own:Clr)(c p:Nat)(R:Rp)(cg cc hp:Nat)(mv hv ev:Value)(hs:List Bm)(es:List Em)(w:World)(hc0:0<c)(h:RpIn w own c p R cg cc hp mv hv ev hs es):
  Calls prog 71 #[.pointer (some ⟨p,0,none⟩)] w fun e w'=>e= .returned (.tuple #[])∧zb2 w own c p (endR R) cg cc hp mv hv (.slice none 0 0) hs [] w':=by
 have c1:w.cell? ⟨p,1,none⟩=some (I R.st):=h.blk.cell 1;have c8:w.cell? ⟨p,8,none⟩=some ev:=h.blk.cell 8;have z1:w.frozen? ⟨p,1,none⟩=false:=h.blk.frozen 1;have z8:w.frozen? ⟨p,8,none⟩=false:=h.blk.frozen 8
 have HE:Hid (zb2 w own c p (endR R) cg cc hp mv hv (.slice none 0 0) hs [] ((w.setCell ⟨p,1,none⟩ (I 0)).setCell ⟨p,8,none⟩ (.slice none 0 0))):=by
  have hT:Tch (fun k=>k=p) w ((w.setCell ⟨p,1,none⟩ (I 0)).setCell ⟨p,8,none⟩ (.slice none 0 0)):=zas (zas (Tch.refl _ _) _ _) _ _;have hB:=(h.blk.set 1 (I 0)).set 8 (.slice none 0 0);refine⟨?_,hT⟩;have h1:=h.self (R':={R with st:=0}) hc0 (zas (Tch.refl _ _) 1 (I 0)) (h.blk.set 1 (I 0)) rfl rfl rfl rfl;have hT2:Tch (fun k=>k=p) (w.setCell ⟨p,1,none⟩ (I 0)) ((w.setCell ⟨p,1,none⟩ (I 0)).setCell ⟨p,8,none⟩ (.slice none 0 0)):=zas (Tch.refl _ _) _ _;have hS:∀d,d ≠ c->Same own d (w.setCell ⟨p,1,none⟩ (I 0)) ((w.setCell ⟨p,1,none⟩ (I 0)).setCell ⟨p,8,none⟩ (.slice none 0 0)):=fun d hd b hb ho=>hT2.block b hb (fun e=>hd (by rw [←ho,e,h.own1]))
  have hcg:cg ≠ p:=by
   rintro rfl;have:=h.blk.symm.trans h.clk;simp at this
  refine⟨hB,hT2.blk h1.clk hcg,h1.own1,h1.own2, ?_,h1.held.keep (hS 0 (by omega)) (hS _ (by omega)) (Ext.refl _ _),h1.heldB,⟨⟨rfl, .inl ⟨rfl,rfl⟩⟩,fun g e=>(by simp [Value.ownBlock] at e),fun x hx=>(by cases hx)⟩,rfl⟩;rcases h1.obs with h2 | ⟨mb,vs,e,ho,hm,l1,l2,hk⟩
  ·exact Or.inl h2
  ·refine Or.inr ⟨mb,vs,e,ho,hm.same (hT2.block mb hm.lt ?_),l1,l2,fun k a b=>(hk k a b).keep (hS _ (by omega)) (Ext.refl _ _)⟩
   rintro rfl;obtain⟨xs,cl,hx,_⟩:=hm;cases h1.blk.symm.trans hx
 clear h;go_enter func71,ntmps71;go_wp2;go_end0;exact⟨rfl,HE.out⟩
def zbe(R:Rp):Rp×Int:=if R.st=1 then(endR R,0) else(R,7)
theorem zr3(own:Clr)(c p:Nat)(R:Rp)(cg cc hp:Nat)(mv hv ev:Value)(hs:List Bm)(es:List Em)(w:World)(hc0:0<c)(h:RpIn w own c p R cg cc hp mv hv ev hs es):
  Calls prog 55 #[.pointer (some ⟨p,0,none⟩)] w fun e w'=>e= .returned (I (zbe R).2)∧∃ev' es',zb2 w own c p (zbe R).1 cg cc hp mv hv ev' hs es' w':=by
 have HR:Hid (RpIn w own c p R cg cc hp mv hv ev hs es):=h;have c1:w.cell? ⟨p,1,none⟩=some (I R.st):=h.blk.cell 1;clear h;go_enter func55,ntmps55;by_cases h1:R.st=1
 ·have HV:Hid (zbe R=(endR R,0)):=by show _=_;unfold zbe;rw [aA h1]
  have hb:(R.st==1)=true:=by simp [h1]
  clear h1;go_wp2_with fail
  refine(zj6 own c p R cg cc hp mv hv ev hs es w hc0 HR.out).mono ?_;rintro e w1 ⟨rfl,ho⟩;have HO:Hid (zb2 w own c p (endR R) cg cc hp mv hv (.slice none 0 0) hs [] w1):=ho;clear ho;go_wp2;go_ret;rw [HV.out];exact⟨rfl,_,_,HO.out⟩
 ·have HV:Hid (zbe R=(R,7)):=by show _=_;unfold zbe;rw [ap h1]
  have hb:(R.st==1)=false:=by simp [h1]
  clear h1;go_wp2;go_ret;rw [HV.out];exact⟨rfl,_,_,HR.out,Tch.refl _ _⟩
theorem ziw(own:Clr)(c p:Nat)(R:Rp)(cg cc hp:Nat)(mv hv ev:Value)(hs:List Bm)(es:List Em)(w:World)(h:RpIn w own c p R cg cc hp mv hv ev hs es):
  Calls prog 65 #[.pointer (some ⟨p,0,none⟩)] w fun e w'=>e= .returned (.bool (R.st==2))∧w'=w:=by
 have c1:w.cell? ⟨p,1,none⟩=some (I R.st):=h.blk.cell 1;clear h;go_enter func65,ntmps65;go_wp2;go_ret;exact⟨rfl,rfl⟩
def syncR(R:Rp):Rp:={R with synced:=R.log.length}
theorem zf5(own:Clr)(c p:Nat)(R:Rp)(cg cc hp:Nat)(mv hv ev:Value)(hs:List Bm)(es:List Em)(w:World)(hc0:0<c)(h:RpIn w own c p R cg cc hp mv hv ev hs es):
  Calls prog 74 #[.pointer (some ⟨p,5,none⟩)] w fun e w'=>e= .returned (.tuple #[])∧zb2 w own c p (syncR R) cg cc hp mv hv ev hs es w':=by
 have HR:Hid (RpIn w own c p R cg cc hp mv hv ev hs es):=h;have c5:w.cell? ⟨p,5,none⟩=some (.string ⟨R.log.toArray⟩):=h.blk.cell 5;have c6:w.cell? ⟨p,6,none⟩=some (I R.synced):=h.blk.cell 6;have z6:w.frozen? ⟨p,6,none⟩=false:=h.blk.frozen 6;clear h;go_enter func74,ntmps74;go_wp2;go_end0;exact⟨rfl,HR.out.self hc0 (zas (Tch.refl _ _) _ _) (HR.out.blk.set 6 _) rfl rfl rfl rfl,zas (Tch.refl _ _) _ _⟩
theorem zof(a b:List UInt8):((⟨a.toArray⟩:ByteArray)++⟨b.toArray⟩)=⟨(a++b).toArray⟩:=by
 apply ByteArray.ext;simp
theorem zp0(own:Clr)(c p:Nat)(R:Rp)(cg cc hp:Nat)(mv hv ev:Value)(hs:List Bm)(es:List Em)(f:List UInt8)(w:World)(hc0:0<c)(h:RpIn w own c p R cg cc hp mv hv ev hs es)(hl:R.log.length+f.length<=100000000):
  Calls prog 75 #[.pointer (some ⟨p,5,none⟩), .string ⟨f.toArray⟩] w fun e w'=>e= .returned (.tuple #[])∧zb2 w own c p {R with log:=R.log++f} cg cc hp mv hv ev hs es w':=by
 have HR:Hid (RpIn w own c p R cg cc hp mv hv ev hs es):=h;have c5:w.cell? ⟨p,5,none⟩=some (.string ⟨R.log.toArray⟩):=h.blk.cell 5;have z5:w.frozen? ⟨p,5,none⟩=false:=h.blk.frozen 5;clear h;have HB:=zof R.log f;go_enter func75,ntmps75;go_wp2;go_end0;exact⟨rfl,HR.out.self hc0 (zas (Tch.refl _ _) _ _) (HR.out.blk.set 5 _) rfl rfl rfl rfl,zas (Tch.refl _ _) _ _⟩
theorem zvy(own:Clr)(c p:Nat)(R:Rp)(cg cc hp:Nat)(mv hv ev:Value)(hs:List Bm)(es:List Em)(w:World)(hc0:0<c)(h:RpIn w own c p R cg cc hp mv hv ev hs es):
  Calls prog 61 #[.pointer (some ⟨p,0,none⟩)] w fun e w'=>e= .returned (.tuple #[])∧zb2 w own c p (syncR R) cg cc hp mv hv ev hs es w':=by
 go_enter func61,ntmps61;go_wp2_with fail
 refine(zf5 own c p R cg cc hp mv hv ev hs es w hc0 h).mono ?_;rintro e w1 ⟨rfl,ho⟩;have HO:Hid (zb2 w own c p (syncR R) cg cc hp mv hv ev hs es w1):=ho;clear ho h;go_wp2;go_end0;exact⟨rfl,HO.out⟩
theorem zz6(zs:List Int):∀u∈zs.map I,u.oneCell'=true:=by
 intro u hu;obtain⟨z,_,rfl⟩:=aG.1 hu;rfl
theorem ztw(g c:Nat)(zs:List Int)(w:World)(hat:∀j (hj:j<zs.length),w.cell? ⟨g,j,none⟩=some (I zs[j]))(hl:zs.length<=1048576):
  Calls prog 64 #[.slice (some ⟨g,0,none⟩) zs.length c] w fun e w'=>∃v,e= .returned v∧w'.ownsRow w.heap.size 3 1 v zs.length (zs.map I)∧Below w.heap.size w w':=by
 have hnil:=Lib.run_eql_slice_nil (P:=prog) w 32 3 (some ⟨g,0,none⟩) zs.length c 0 0 underlying32;have OL:Hid ((w.alloc (.cells #[] 3)).ownsRow w.heap.size 3 1 (.slice (some ⟨w.heap.size,0,none⟩) 0 0) 0 []):=⟨rfl, .inr ⟨w.heap.size,0, #[],rfl,ac _,heap_alloc_new w _,ac _,by unfold maxLen;omega,rfl,rfl⟩⟩
 obtain⟨i,HI⟩:∃i,Hid (prog.info? 3=some i∧i.zero=some (.int .i64 0)∧i.size=1∧i.bytes=8):=by obtain⟨i,h⟩:=info_parts zkn;exact⟨i,h⟩
 have n1:0+zs.length<=maxLen:=by unfold maxLen;omega
 have n2:(0+zs.length)*8<=140737488355328:=by omega
 have n3:w.heap.size<=(w.alloc (.cells #[] 3)).heap.size:=by simp
 have n4:(zs.map I).length=zs.length*1:=by simp
 have n5:=zz6 zs
 have HN:Hid (∀j u,(zs.map I)[j]?=some u->(w.alloc (.cells #[] 3)).cell? ((⟨g,0,none⟩:Addr).add j)=some u):=fun j u hj=>by
  rw [Addr.add_lit,aV];rw [List.getElem?_map] at hj;obtain⟨z,hz,rfl⟩:=Option.map_eq_some_iff.1 hj;obtain⟨hjl,rfl⟩:=af.1 hz;exact zaa ((Below.refl _ _).alloc (ac _) _) (hat j hjl)
 clear hat;go_enter func64,ntmps64;go_wp2_with (first | (at_builtin;refine wpList_append_own_at _ rfl _ _ _ rfl w.heap.size 3 i (.int .i64 0) 1 8 underlying32 HI.out.1 HI.out.2.1 HI.out.2.2.1 HI.out.2.2.2 rfl (by decide) (.slice (some ⟨w.heap.size,0,none⟩) 0 0) 0 [] rfl OL.out ⟨g,0,none⟩ zs.length c (zs.map I) rfl n4 HN.out n5 n1 n2 n3 ?_;intro v1 w1 hown1 hgrow1 hnil1 hat1;have HO:Hid (w1.ownsRow w.heap.size 3 1 v1 zs.length (zs.map I)∧Below w.heap.size w w1):=(by rw [aV,List.nil_append] at hown1;refine⟨hown1,((Below.refl w.heap.size w).alloc (ac _) (.cells #[] 3)).grown hgrow1 (by simp) (fun k e=> ?_)⟩;have:w.heap.size=k:=(by simpa [Value.ownBlock] using e);omega);clear hown1 hgrow1 hnil1 hat1))
 go_ret;exact⟨_,rfl,HO.out.1,HO.out.2⟩
theorem zj8(own:Clr)(c p:Nat)(R:Rp)(cg cc hp:Nat)(mv hv ev:Value)(hs:List Bm)(es:List Em)(w:World)(h:RpIn w own c p R cg cc hp mv hv ev hs es)(hl:R.clock.length<=1000):
  Calls prog 36 #[.pointer (some ⟨p,0,none⟩)] w fun e w'=>∃v,e= .returned v∧w'.ownsRow w.heap.size 3 1 v R.clock.length (R.clock.map I)∧Below w.heap.size w w':=by
 have c2:w.cell? ⟨p,2,none⟩=some (.slice (some ⟨cg,0,none⟩) R.clock.length cc):=h.blk.cell 2;have HC:Hid (∀j (hj:j<R.clock.length),w.cell? ⟨cg,j,none⟩=some (I R.clock[j])):=h.clkAt.row;clear h;go_enter func36,ntmps36;go_wp2_with fail
 refine(ztw cg cc R.clock w HC.out (by omega)).mono ?_;rintro e w1 ⟨v,rfl,ho,hb⟩;have HO:Hid (w1.ownsRow w.heap.size 3 1 v R.clock.length (R.clock.map I)∧Below w.heap.size w w1):=⟨ho,hb⟩
 clear ho hb;go_wp2;go_ret;exact⟨_,rfl,HO.out⟩
def zbi(b:Bt)(i:Int):Stp:=⟨⟨b.o,b.s,i⟩,b.t⟩
theorem ziv(x:Bm)(i:Int)(w:World):
  Calls prog 96 #[bmV x,I i] w fun e w'=>e= .returned (stV (zbi x.b i))∧Below w.heap.size w w':=by
 have HE:Hid (Below w.heap.size w (w.alloc (.cells (bmC x) 134))):=(Below.refl _ _).alloc (ac _) _;have HE2:Hid (Below w.heap.size w ((w.alloc (.cells (bmC x) 134)).alloc (.cells #[I x.b.o,I x.b.s,I i,I x.b.t] 175))):=HE.out.alloc HE.out.size _;clear HE;go_enter func96,ntmps96;go_wp2_with fail
 exact bodyPost_ret (v:=stV (zbi x.b i)) (by simp [results,Tryz.results96,go_sem,zbi]) rfl ⟨rfl,HE2.out⟩
theorem zfw(x:Bm)(w:World)(eb ef:Addr)(hI:zaj)(g:Gl w eb ef)(hp:Pw w)(h:BatAt w x.b x.ca x.ea x.ms)(hb:Wv.isB x.b=true):
  Calls prog 72 #[bmV x] w fun e w'=>e= .returned (.string ⟨(frameB x.b).toArray⟩)∧Below w.heap.size w w':=by
 have hA:Below w.heap.size w (w.alloc (.cells (bmC x) 134)):=(Below.refl _ _).alloc (ac _) _;have HC:Hid (Calls prog 98 #[bV x.b x.ca x.ea x.cc x.ec] (w.alloc (.cells (bmC x) 134)) fun e w'=>e= .returned (.tuple #[.string ⟨(frameB x.b).toArray⟩, .nilIface])∧Below (w.alloc (.cells (bmC x) 134)).heap.size (w.alloc (.cells (bmC x) 134)) w'):=zqg x.b x.ca x.ea x.cc x.ec x.ms _ eb ef hI (g.kept hA) (hp.kept hA) (h.kept hA) hb;have HA:Hid (Below w.heap.size w (w.alloc (.cells (bmC x) 134))):=hA;clear h hp g hA hb;go_enter func72,ntmps72;go_wp2_with fail
 refine HC.out.mono ?_;rintro e w1 ⟨rfl,hb1⟩;have HB:Hid (Below w.heap.size w w1):=HA.out.trans (hb1.mono HA.out.size);clear hb1 HC HA;go_wp2;go_ret;exact⟨rfl,HB.out⟩
def AtK(K:Nat->Prop)(w:World)(own:Clr)(a:Option Addr)(cs:List Value):Prop:=∀j u,cs[j]?=some u->∃b o,a=some ⟨b,o,none⟩∧K (own b)∧w.cell? ⟨b,o+j,none⟩=some u
theorem AtK.at{K:Nat->Prop}{w:World}{own:Clr}{a:Option Addr}{cs:List Value}(h:AtK K w own a cs):At w a cs:=fun j u hj=>by
 obtain⟨b,o,e,_,hc⟩:=h j u hj;exact⟨b,o,e,hc⟩
theorem AtK.keep{K:Nat->Prop}{w w':World}{own own':Clr}{a:Option Addr}{cs:List Value}(h:AtK K w own a cs)(hs:∀d,K d->Same own d w w')(he:Ext own own' w.heap.size):AtK K w' own' a cs:=fun j u hj=>by
 obtain⟨b,o,e,h0,hc⟩:=h j u hj;exact⟨b,o,e,by rw [he b (zad hc)];exact h0,zbb hc (hs _ h0 b (zad hc) rfl)⟩
theorem AtK.mono{K L:Nat->Prop}{w:World}{own:Clr}{a:Option Addr}{cs:List Value}(h:AtK K w own a cs)(hkl:∀d,K d->L d):AtK L w own a cs:=fun j u hj=>by
 obtain⟨b,o,e,h0,hc⟩:=h j u hj;exact⟨b,o,e,hkl _ h0,hc⟩
structure BatK(K:Nat->Prop)(w:World)(own:Clr)(m:Bm):Prop where
 clock:AtK K w own m.ca (m.b.clock.map I)
 effs:m.b.effs=m.ms.map (·.e)
 cells:AtK K w own m.ea (flat Em.cells m.ms)
 dots:∀x∈m.ms,AtK K w own x.da (flat zac x.e.dots)
theorem BatK.at{K:Nat->Prop}{w:World}{own:Clr}{m:Bm}(h:BatK K w own m):BatAt w m.b m.ca m.ea m.ms:=⟨h.clock.at,h.effs,h.cells.at,fun x hx=>(h.dots x hx).at⟩
theorem BatK.keep{K:Nat->Prop}{w w':World}{own own':Clr}{m:Bm}(h:BatK K w own m)(hs:∀d,K d->Same own d w w')(he:Ext own own' w.heap.size):BatK K w' own' m:=
 ⟨h.clock.keep hs he,h.effs,h.cells.keep hs he,fun x hx=>(h.dots x hx).keep hs he⟩
theorem BatIn.k{w:World}{own:Clr}{m:Bm}(h:BatIn w own m):BatK (fun d=>d=0) w own m:=⟨h.clock,h.effs,h.cells,h.dots⟩
theorem BatK.mono{K L:Nat->Prop}{w:World}{own:Clr}{m:Bm}(h:BatK K w own m)(hkl:∀d,K d->L d):BatK L w own m:=⟨h.clock.mono hkl,h.effs,h.cells.mono hkl,fun x hx=>(h.dots x hx).mono hkl⟩
theorem zwh{α:Type}(less:α->α->Bool)(bs:List α)(i:Nat)(m:α)(h:m∈riseP less bs i):m∈bs:=by
 induction i using Nat.strongRecOn generalizing bs with
 | _ i ih=>
  rw [riseP] at h;split at h
  ·exact zmf bs i _ m (ih ((i - 1) / 2) (by omega) _ h)
  ·exact h
theorem zeo{α:Type}(less:α->α->Bool)(bs:List α)(x m:α)(h:m∈pushP less bs x):m∈bs∨m=x:=by
 have:=zwh less _ _ m h;simpa using this
theorem zpr{α:Type}(less:α->α->Bool)(os:List α):∀(l:List α) (m:α),m∈os.foldl (pushP less) l->m∈l∨m∈os:=by
 induction os with
 | nil=>intro l m h;exact Or.inl h
 | cons x os ih=>
  intro l m h;rcases ih _ m h with h | h
  ·rcases zeo less l x m h with h | h
   ·exact Or.inl h
   ·exact Or.inr (by simp [h])
  ·exact Or.inr (by simp [h])
theorem zsg{α:Type}(less:α->α->Bool)(f:α->Bool)(n:Nat):∀(l os:List α) (m:α),(m∈(za1 less f n l os).1.toList∨m∈(za1 less f n l os).2.1∨m∈(za1 less f n l os).2.2)->m∈l∨m∈os:=by
 induction n with
 | zero=>intro l os m h;rcases h with h | h | h;simp [za1] at h;exact Or.inl h;exact Or.inr h
 | succ n ih=>
  intro l os m h;have hr:=zkd less l m;unfold popR at hr;rw [za1] at h;cases hq:popP less l with
  | none=>rw [hq] at h;simp only [Option.toList_none,List.not_mem_nil,false_or] at h;exact h
  | some p=>
   obtain⟨x,l'⟩:=p;rw [hq] at h hr;simp only [Option.toList_some,List.singleton_append,ar] at hr;simp only at h;split at h
   ·rcases h with h | h | h
    ·simp only [Option.toList_some,aB] at h;exact Or.inl (hr (Or.inl h))
    ·exact Or.inl (hr (Or.inr h))
    ·exact Or.inr h
   ·rcases ih _ _ m h with h | h
    ·exact Or.inl (hr (Or.inr h))
    ·simp only [ao,aB] at h
     rcases h with h | h
     ·exact Or.inr h
     ·exact Or.inl (hr (Or.inl h))
theorem za6{α:Type}(less:α->α->Bool)(f:α->Bool)(bs:List α)(m:α)(h:m∈(takeP less f bs).1.toList∨m∈(takeP less f bs).2):m∈bs:=by
 have hp:=zsg less f (bs.length+1) bs [] m;simp only [List.not_mem_nil,or_false] at hp;rcases h with h | h
 ·exact hp (Or.inl h)
 ·rcases zpr less _ _ m h with h | h
  ·exact hp (Or.inr (Or.inl h))
  ·exact hp (Or.inr (Or.inr h))
theorem zsb{α:Type}(less:α->α->Bool)(f:α->Bool)(n:Nat):∀(l os:List α),(za1 less f n l os).1.toList.length+(za1 less f n l os).2.1.length+(za1 less f n l os).2.2.length<=l.length+os.length:=by
 induction n with
 | zero=>intro l os;simp [za1]
 | succ n ih=>
  intro l os;have hr:=zfn less l;unfold popR at hr;rw [za1];cases hq:popP less l with
  | none=>simp
  | some p=>
   obtain⟨x,l'⟩:=p;rw [hq] at hr;simp only [Option.toList_some,List.length_singleton] at hr;simp only;split
   ·simp only [Option.toList_some,List.length_singleton];omega
   ·have:=ih l' (os++ [x])
    simp only [ah,List.length_singleton] at this;omega
theorem zdl{α:Type}(less:α->α->Bool)(f:α->Bool)(bs:List α):(takeP less f bs).1.toList.length+(takeP less f bs).2.length<=bs.length:=by
 have:=zsb less f (bs.length+1) bs [];show(za1 less f (bs.length+1) bs []).1.toList.length+((za1 less f (bs.length+1) bs []).2.2.foldl (pushP less) (za1 less f (bs.length+1) bs []).2.1).length<=bs.length;rw [zc7];simp only [List.length_nil,Nat.add_zero] at this;omega
theorem HeldAt.took{w w':World}{own:Clr}{c hp:Nat}{hv:Value}{hs l:List Bm}(h:HeldAt w own c hp hv hs)(hc:0<c)(ho:HpOk w hp hv l w')(hm:∀m∈l,m∈hs):∃hv',HeldAt w' (newTo own w.heap.size c) c hp hv' l∧TchC own c w w':=by
 obtain⟨hv',h1,hT,hv⟩:=ho;have hTc:TchC own c w w':=hT.mono (fun k _ hk=>by rcases hk with rfl | hk;exact h.own1;exact h.own2 k hk);refine⟨hv',⟨h1,(zae _ _ _ _ h.hpx.blk.lt).trans h.own1,fun g e=> ?_,fun m hx=>(h.bats m (hm m hx)).keep (hTc.same (fun k e e2=>by omega)) (zab _ _ _)⟩,hTc⟩;rcases hv g e with e2 | e2
 ·exact(zae _ _ _ _ (h.hpx.row.lt g e2).2).trans (h.own2 g e2)
 ·exact zaf _ _ _ _ e2
theorem RpIn.took{w w':World}{own:Clr}{c p:Nat}{R:Rp}{cg cc hp:Nat}{mv hv ev:Value}{hs l:List Bm}{es:List Em}(h:RpIn w own c p R cg cc hp mv hv ev hs es)(ho:HpOk w hp hv l w')(hm:∀m∈l,m∈hs):∃hv',RpIn w' (newTo own w.heap.size (c+9)) c p {R with held:=l.map (·.b)} cg cc hp mv hv' ev l es∧TchC own (c+9) w w':=by
 obtain⟨hv',h1,hT⟩:=h.held.took (by omega) ho hm;have he:=zab own w.heap.size (c+9);have hS:∀d,d ≠ c+9->Same own d w w':=fun d hd=>hT.same (fun k e e2=>hd (e.symm.trans e2))
 exact⟨hv',⟨(hS c (by omega) p h.blk.lt h.own1).trans h.blk,(hS c (by omega) cg h.clk.lt h.own2).trans h.clk,(he p h.blk.lt).trans h.own1,(he cg h.clk.lt).trans h.own2,h.obs.keep (fun d a b=>hS d (by omega)) he,h1,rfl,h.effs.keep (hS 0 (by omega)) (hS _ (by omega)) he,h.effsE⟩,hT⟩
abbrev TchR (own:Clr) (c:Nat) (w w':World):Prop:=Tch (fun k=>c<=own k∧own k<=c+9) w w'
structure DlAt(w wr:World)(own own':Clr)(c p:Nat)(R:Rp)(cg cc hp:Nat)(mv hv ev:Value)(hs:List Bm)(es:List Em)(x:Bm):Prop where
 rp:RpIn wr own' c p R cg cc hp mv hv ev hs es
 bat:BatK (fun d=>d=0∨d=c+10) wr own' x
 box:Blk wr w.heap.size (bmC x) 134
 boxc:own' w.heap.size=0
 ext:Ext own own' w.heap.size
 tch:TchR own c w wr
theorem DlAt.below{w wr w2:World}{own own':Clr}{c p:Nat}{R:Rp}{cg cc hp:Nat}{mv hv ev:Value}{hs:List Bm}{es:List Em}{x:Bm}(h:DlAt w wr own own' c p R cg cc hp mv hv ev hs es x)(hb:Below wr.heap.size wr w2):DlAt w w2 own (newTo own' wr.heap.size 0) c p R cg cc hp mv hv ev hs es x:=
 ⟨h.rp.keep (fun b hl _=>hb.block b hl) (fun _ _ _ b hl _=>hb.block b hl) (zab _ _ _),h.bat.keep (fun _ _ b hl _=>hb.block b hl) (zab _ _ _),h.box.kept hb h.box.lt,(zae _ _ _ _ h.box.lt).trans h.boxc,h.ext.trans (zab _ _ _) h.tch.size,h.tch.then (Tch.below hb)⟩
theorem dl_start{w wA w3 w4:World}{own:Clr}{c p:Nat}{R:Rp}{cg cc hp:Nat}{mv hv ev:Value}{hs l:List Bm}{es:List Em}{x:Bm}(hc0:0<c)(h:RpIn w own c p R cg cc hp mv hv ev hs es)(hx:BatK (fun d=>d=0∨d=c+10) w own x)(hA:wA=w.alloc (.cells (bmC x) 134))(hB3:Below wA.heap.size wA w3)(ho:HpOk w3 hp hv l w4)(hm:∀m∈l,m∈hs):
  ∃own' hv',DlAt w w4 own own' c p {R with held:=l.map (·.b)} cg cc hp mv hv' ev l es x:=by
 have hBA:Below w.heap.size w wA:=by rw [hA];exact(Below.refl _ _).alloc (ac _) _
 have hX:Blk wA w.heap.size (bmC x) 134:=by rw [hA];exact heap_alloc_new w _
 have hB:Below w.heap.size w w3:=hBA.trans (hB3.mono hBA.size);have hX3:Blk w3 w.heap.size (bmC x) 134:=hX.kept hB3 hX.lt;have h3:RpIn w3 (newTo own w.heap.size 0) c p R cg cc hp mv hv ev hs es:=h.keep (fun b hl _=>hB.block b hl) (fun _ _ _ b hl _=>hB.block b hl) (zab _ _ _);have hx3:BatK (fun d=>d=0∨d=c+10) w3 (newTo own w.heap.size 0) x:=hx.keep (fun _ _ b hl _=>hB.block b hl) (zab _ _ _);obtain⟨hv',h4,hT⟩:=h3.took ho hm;have hbx:newTo own w.heap.size 0 w.heap.size=0:=zaf _ _ _ _ (ac _);have hS:∀d,d ≠ c+9->Same (newTo own w.heap.size 0) d w3 w4:=fun d hd=>hT.same (fun k e e2=>hd (e.symm.trans e2))
 refine⟨_,hv',h4,hx3.keep (fun d hd=>hS d (by rcases hd with h | h<;>omega)) (zab _ _ _),hT.blk hX3 (by show¬_=_;rw [hbx];omega),(zae _ _ _ _ hX3.lt).trans hbx,(zab own w.heap.size 0).trans (zab _ _ _) hB.size,(Tch.below hB).trans hT (fun _ _ h=>h) (fun k hk e=> ?_)⟩;rw [zae _ _ _ _ hk] at e;omega
theorem DlAt.took{w wr w2:World}{own own':Clr}{c p:Nat}{R:Rp}{cg cc hp:Nat}{mb:Nat}{hv ev:Value}{hs:List Bm}{es:List Em}{x:Bm}{vs:List Value}{k:Nat}{o':Ob}{e:Ending}(hc0:0<c)(h:DlAt w wr own own' c p R cg cc hp (.map (some mb)) hv ev hs es x)
  (hm:OmAt wr mb vs) (hmo:own' mb=c) (hl:vs.length=8) (hlo:R.obs.length=8) (hk:k<vs.length) (hob:∀j (h1:j<vs.length) (h2:j<R.obs.length),ObAt wr own' (c+1+j) vs[j] R.obs[j]) (ht:zee own' (c+1+k) vs[k] o' wr e w2):
  ∃own'',DlAt w w2 own own'' c p {R with obs:=R.obs.set k o'} cg cc hp (.map (some mb)) hv ev hs es x:=by
 obtain⟨_,own'',he,ho,hT⟩:=ht;have hS:∀d,d ≠ c+1+k->Same own' d wr w2:=fun d hd=>hT.same (fun j e e2=>hd (e.symm.trans e2))
 have hr:=h.rp;refine⟨own'',⟨(hS c (by omega) p hr.blk.lt hr.own1).trans hr.blk,(hS c (by omega) cg hr.clk.lt hr.own2).trans hr.clk,(he p hr.blk.lt).trans hr.own1,(he cg hr.clk.lt).trans hr.own2,Or.inr ⟨mb,vs,rfl,(he mb hm.lt).trans hmo,hm.same (hS c (by omega) mb hm.lt hmo),hl,by simpa using hlo,fun j h1 h2=> ?_⟩,hr.held.keep (hS 0 (by omega)) (hS _ (by omega)) he,hr.heldB,hr.effs.keep (hS 0 (by omega)) (hS _ (by omega)) he,hr.effsE⟩,h.bat.keep (fun d hd=>hS d (by rcases hd with h | h<;>omega)) he,hT.blk h.box (by show¬_=_;rw [h.boxc];omega),(he _ h.box.lt).trans h.boxc,h.ext.trans he h.tch.size,h.tch.trans hT (fun _ _ h=>h) (fun j hj e=> ?_)⟩
 ·simp only [aE] at h2
  by_cases hjk:j=k
  ·subst hjk
   simp only [List.getElem_set_self];exact ho
  ·rw [List.getElem_set_ne (fun e=>hjk e.symm)]
   exact(hob j h1 h2).keep (hS _ (by omega)) he
 ·rw [h.ext j hj] at e
  omega
def zcg(obs:List Ob)(s:Stp)(e:Ef):List Ob:=match obs[e.ob.toNat]? with | none=>obs | some o=>obs.set e.ob.toNat (o.take s e)
def obsTo(b:Bt)(obs:List Ob):Nat->List Ob
 | 0=>obs
 | k+1=>match b.effs[k]? with | none=>obsTo b obs k | some e=>zcg (obsTo b obs k) (zbi b k) e
theorem zru(obs:List Ob)(s:Stp)(e:Ef):(zcg obs s e).length=obs.length:=by
 unfold zcg;split<;>simp
theorem zmd(b:Bt)(obs:List Ob)(k:Nat):(obsTo b obs k).length=obs.length:=by
 induction k with
 | zero=>rfl
 | succ k ih=>unfold obsTo;split;exact ih;rw [zru];exact ih
def Ob.bound(n:Nat):Ob->Prop
 | .counter v=> -1000*(n:Int)<=v∧v<=1000*(n:Int)
 | .list ls=>ls.length<=n
 | .set m=>m.length<=n
 | .reg m=>m.length<=n
theorem zpg(m:Lv)(d:Dt)(v:Int):(putD m d v).length<=m.length+1:=by
 unfold putD;split<;>simp
theorem delD_len(m:Lv)(d:Dt):(delD m d).length<=m.length:=by
 unfold delD;split
 ·rw [List.length_eraseIdx]
  split<;>omega
 ·exact ac _
theorem zmw(m:Lv)(ds:List Dt):(delsD m ds).length<=m.length:=by
 unfold delsD;induction ds generalizing m with
 | nil=>exact ac _
 | cons d r ih=>exact aQ (ih _) (delD_len m d)
theorem Ob.bound_small{n:Nat}{o:Ob}(h:o.bound n)(hn:n<=100000):o.small:=by
 cases o with
 | counter v=>obtain⟨h1,h2⟩:=h;exact⟨by omega,by omega⟩
 | list ls=>show ls.length<=1000000;have:ls.length<=n:=h;omega
 | set m=>trivial
 | reg m=>trivial
theorem zvm(ls:List El)(s:Stp)(e:Ef):(takeL ls s e).length<=ls.length+1:=by
 unfold takeL;split
 ·unfold putL;rw [zd2 _ _ _ (zwb _ _ _)];omega
 ·split<;>simp
theorem Ob.bound_take{n:Nat}{o:Ob}(s:Stp)(e:Ef)(h:o.bound n)(h1: -1000<=e.va)(h2:e.va<=1000):(o.take s e).bound (n+1):=by
 cases o with
 | counter v=>obtain⟨a,b⟩:=h;exact⟨by show _<=v+e.va;omega,by show v+e.va<=_;omega⟩
 | list ls=>show(takeL ls s e).length<=n+1;have:=zvm ls s e;have:ls.length<=n:=h;omega
 | set m=>
  show(takeS m s e).length<=n+1;have hm:m.length<=n:=h;unfold takeS;split
  ·have:=zpg m s.d e.va;omega
  ·split
   ·have:=zmw m e.dots;omega
   ·omega
 | reg m=>
  show(takeR m s e).length<=n+1;have hm:m.length<=n:=h;unfold takeR;have h1:=zmw m e.dots;have h2:=zpg (delsD m e.dots) s.d e.va;omega
theorem Ob.bound_mono{n m:Nat}{o:Ob}(h:o.bound n)(hm:n<=m):o.bound m:=by
 cases o with
 | counter v=>obtain⟨a,b⟩:=h;exact⟨by omega,by omega⟩
 | list ls=>exact aQ h hm
 | set l=>exact aQ h hm
 | reg l=>exact aQ h hm
theorem zld{n:Nat}{obs:List Ob}(s:Stp)(e:Ef)(h:∀o∈obs,o.bound n)(h1: -1000<=e.va)(h2:e.va<=1000):∀o∈zcg obs s e,o.bound (n+1):=by
 intro o ho;unfold zcg at ho;split at ho
 ·exact Ob.bound_mono (h o ho) (by omega)
 ·rename_i o1 hq
  rcases List.mem_or_eq_of_mem_set ho with ho | ho
  ·exact Ob.bound_mono (h o ho) (by omega)
  ·rw [ho];exact Ob.bound_take s e (h o1 (an hq)) h1 h2
theorem mTakeC (v : Value) (w : World) : (method 483 195 v "Take").run prog w = .ok (242, v) w := by kernel_rfl
theorem mTakeS (v : Value) (w : World) : (method 483 198 v "Take").run prog w = .ok (246, v) w := by kernel_rfl
theorem mTakeR (v : Value) (w : World) : (method 483 203 v "Take").run prog w = .ok (304, v) w := by kernel_rfl
theorem mTakeL (v : Value) (w : World) : (method 483 205 v "Take").run prog w = .ok (308, v) w := by kernel_rfl
theorem ObAt.face{w:World}{own:Clr}{c:Nat}{v:Value}{o:Ob}(h:ObAt w own c v o):∃t q,v= .iface t q:=by
 cases o with
 | counter n=>obtain⟨p,e,_⟩:=h;exact⟨_,_,e⟩
 | set m=>obtain⟨p,b,e,_⟩:=h;exact⟨_,_,e⟩
 | reg m=>obtain⟨p,b,e,_⟩:=h;exact⟨_,_,e⟩
 | list ls=>obtain⟨p,sv,e,_⟩:=h;exact⟨_,_,e⟩
theorem zej{ops:Array Oper}{o:Oper}{a:Act}{w:World}{K:Act->World->Prop}{Q:Exit->Act->World->Prop}{E:Prop}(hgd:o.guard=none)(x y z:Operand)(ats:Array TypeId)
    (hop : o.op = .call { callee := .invoke x "Take", args := #[y, z], argTypes := ats }) (v : Value) (ob : Ob) (s : Stp) (m : Em) (own : Clr) (c : Nat) (hx : a.eval x = v) (hy : a.eval y = stV s) (hz : a.eval z = effV m)
    (hob:ObAt w own c v ob) (hsm:ob.small) (h1: -1000<=m.e.va) (h2:m.e.va<=1000) (hd:At w m.da (flat zac m.e.dots)) (hdl:m.e.dots.length<=1048576)
    (hK:∀w',zee own c v (ob.take s m.e) w (.returned (.tuple #[])) w'->K (a.put o.dst (.tuple #[])) w'):
    if Region.wanted o (yielded ops a.tmps)=true then Oper.wp prog o a w K Q else E:=by
  have hw:Region.wanted o (yielded ops a.tmps)=true:=by simp [Region.wanted,hgd]
  rw [aA hw]
  have hex : ∀ t q f, v = .iface t q -> (∀ w', (method 483 t q "Take").run prog w' = .ok (f, q) w') -> (callFunc f #[q, stV s, effV m]).run prog w = .ok (.enter f #[q, stV s, effV m]) w -> (Calls prog f #[q, stV s, effV m] w fun e w' => zee own c v (ob.take s m.e) w e w') -> Oper.wp prog o a w K Q := by
    intro t q f hv hm hcf hcalls
    have hrun:(execOp a.eval o).run prog w= .ok (.enter f #[q,stV s,effV m]) w:=by
      unfold execOp;simp only [hop];simp only [resolve,invoke,Sem.run_bind,Sem.run_pure,Result.andThen_ok,List.map_toArray,List.map_cons,List.map_nil,hx,hy,hz,hv];show (callMethod (.iface t q) "Take" #[stV s, effV m]).run prog w = _;unfold callMethod;simp [Made.depth,hm,hcf]
    unfold Oper.wp;rw [hrun,Oper.upon_enter];refine hcalls.mono ?_;intro e w' hT;have he:e= .returned (.tuple #[]):=hT.1;subst he;exact hK w' hT
  cases ob with
  | counter n=>
    obtain⟨pp,hveq,h⟩:=id hob;refine hex _ _ _ hveq (fun w'=>mTakeC _ w') (by kernel_rfl) ?_;rw [hveq] at hob ⊢;exact znh s m hob hsm h1 h2
  | set l=>
    obtain⟨pp,b,hveq,h⟩:=id hob;refine hex _ _ _ hveq (fun w'=>mTakeS _ w') (by kernel_rfl) ?_;rw [hveq] at hob ⊢;exact take_set s m hob hd hdl
  | reg l=>
    obtain⟨pp,b,hveq,h⟩:=id hob;refine hex _ _ _ hveq (fun w'=>mTakeR _ w') (by kernel_rfl) ?_;rw [hveq] at hob ⊢;exact zyj s m hob hd hdl
  | list ls=>
    obtain⟨pp,b,hveq,h⟩:=id hob;refine hex _ _ _ hveq (fun w'=>mTakeL _ w') (by kernel_rfl) ?_;rw [hveq] at hob ⊢;exact zvj s m hob hsm
theorem RpIn.setClk{w:World}{own:Clr}{c p:Nat}{R:Rp}{cg cc hp:Nat}{mv hv ev:Value}{hs:List Bm}{es:List Em}(hc0:0<c)(h:RpIn w own c p R cg cc hp mv hv ev hs es)(j:Nat)(z:Int):RpIn (w.setCell ⟨cg,j,none⟩ (I z)) own c p {R with clock:=R.clock.set j z} cg cc hp mv hv ev hs es:=by
 have hT:Tch (fun k=>k=cg) w (w.setCell ⟨cg,j,none⟩ (I z)):=zas (Tch.refl _ _) j (I z);have hS:∀d,d ≠ c->Same own d w (w.setCell ⟨cg,j,none⟩ (I z)):=fun d hd b hb ho=>hT.block b hb (fun e=>hd (by rw [←ho,e,h.own2]))
 have hcg:p ≠ cg:=by
  rintro rfl;have:=h.blk.symm.trans h.clk;simp at this
 refine⟨?_, ?_,h.own1,h.own2, ?_,h.held.keep (hS 0 (by omega)) (hS _ (by omega)) (Ext.refl _ _),h.heldB,h.effs.keep (hS 0 (by omega)) (hS _ (by omega)) (Ext.refl _ _),h.effsE⟩
 ·have:=hT.blk h.blk hcg
  simpa using this
 ·have h1:=h.clk.set j (I z)
  have e1:((R.clock.map I).toArray.setIfInBounds j (I z))=((R.clock.set j z).map I).toArray:=by
   rw [List.map_set];simp
  rw [e1] at h1;exact h1
 ·rcases h.obs with h1 | ⟨mb,vs,e,ho,hm,l1,l2,hk⟩
  ·exact Or.inl h1
  ·refine Or.inr ⟨mb,vs,e,ho,hm.same (hT.block mb hm.lt ?_),l1,l2,fun k a b=>(hk k a b).keep (hS _ (by omega)) (Ext.refl _ _)⟩
   rintro rfl;obtain⟨xs,cl,hx,_⟩:=hm;cases h.clk.symm.trans hx
def zam(R:Rp)(b:Bt)(fr:List UInt8)(hs:List Bt):Rp:={R with obs:=obsTo b R.obs b.effs.length,clock:=R.clock.set b.o.toNat b.s,time:=max R.time b.t,log:=R.log++fr,held:=hs}
