import Derived.Test.YtfmcngncaffloaaGreatDoorG20RpB
import Derived.Deep.DeepCutAuto
set_option maxHeartbeats 1600000
namespace Go.Proofs.YtfmcngncaffloaaGreatDoor
open Go.RowKit
set_option maxRecDepth 100000
structure Rp where
 n:Int
 st:Int
 clock:List Int
 time:Int
 obs:List Ob
 log:List UInt8
 synced:Int
 held:List Wv.Bt
 effs:List Wv.Ef
def ObsAt(w:World)(own:Clr)(c:Nat)(mv:Value)(obs:List Ob):Prop:=
 (obs= []∧mv= .map none)∨∃mb vs,mv= .map (some mb)∧own mb=c∧OmAt w mb vs∧vs.length=8∧obs.length=8∧∀k (h1:k<vs.length) (h2:k<obs.length),ObAt w own (c+1+k) vs[k] obs[k]
structure HeldAt(w:World)(own:Clr)(c hp:Nat)(hv:Value)(hs:List Bm):Prop where
 hpx:HpIn w hp hv hs
 own1:own hp=c
 own2:∀g,hv.ownBlock=some g->own g=c
 bats:∀m∈hs,BatIn w own m
structure EffsAt(w:World)(own:Clr)(c:Nat)(ev:Value)(es:List Em):Prop where
 row:w.ownsRow 0 149 7 ev es.length (flat Em.cells es)
 own2:∀g,ev.ownBlock=some g->own g=c
 dots:∀x∈es,At0 w own x.da (flat zab x.e.dots)
structure RpIn(w:World)(own:Clr)(c p:Nat)(R:Rp)(cg cc hp:Nat)(mv hv ev:Value)(hs:List Bm)(es:List Em):Prop where
 blk:Blk w p #[I R.n,I R.st, .slice (some ⟨cg,0,none⟩) R.clock.length cc,I R.time,mv, .string ⟨R.log.toArray⟩,I R.synced, .pointer (some ⟨hp,0,none⟩),ev] 130
 clk:Blk w cg (R.clock.map I).toArray 3
 own1:own p=c
 own2:own cg=c
 obs:ObsAt w own c mv R.obs
 held:HeldAt w own (c+9) hp hv hs
 heldB:R.held=hs.map (·.b)
 effs:EffsAt w own (c+10) ev es
 effsE:R.effs=es.map (·.e)
def RpAt(w:World)(own:Clr)(c p:Nat)(R:Rp):Prop:=∃cg cc hp mv hv ev hs es,RpIn w own c p R cg cc hp mv hv ev hs es
theorem ObsAt.keep{w w':World}{own own':Clr}{c:Nat}{mv:Value}{obs:List Ob}(h:ObsAt w own c mv obs)(hs:∀d,c<=d->d<=c+8->Same own d w w')(he:Ext own own' w.heap.size):ObsAt w' own' c mv obs:=by
 rcases h with h | ⟨mb,vs,e,ho,hm,h1,h2,hk⟩
 ·exact Or.inl h
 ·exact Or.inr ⟨mb,vs,e,(he mb hm.lt).trans ho,hm.same (hs c (Nat.le_refl _) (by omega) mb hm.lt ho),h1,h2,fun k a b=>(hk k a b).keep (hs _ (by omega) (by omega)) he⟩
theorem HpIn.keep{w w':World}{own:Clr}{c hp:Nat}{v:Value}{bs:List Bm}(h:HpIn w hp v bs)(h1:own hp=c)(h2:∀g,v.ownBlock=some g->own g=c)(hs:Same own c w w'):HpIn w' hp v bs:=
 ⟨(hs hp h.blk.lt h1).trans h.blk,zah h.row (fun g e=>hs g (h.row.lt g e).2 (h2 g e))⟩
theorem HeldAt.keep{w w':World}{own own':Clr}{c hp:Nat}{hv:Value}{hs:List Bm}(h:HeldAt w own c hp hv hs)(h0:Same own 0 w w')(h1:Same own c w w')(he:Ext own own' w.heap.size):HeldAt w' own' c hp hv hs:=
 ⟨h.hpx.keep h.own1 h.own2 h1,(he hp h.hpx.blk.lt).trans h.own1,fun g e=>(he g (h.hpx.row.lt g e).2).trans (h.own2 g e),fun m hm=>(h.bats m hm).keep h0 he⟩
theorem EffsAt.keep{w w':World}{own own':Clr}{c:Nat}{ev:Value}{es:List Em}(h:EffsAt w own c ev es)(h0:Same own 0 w w')(h1:Same own c w w')(he:Ext own own' w.heap.size):EffsAt w' own' c ev es:=
 ⟨zah h.row (fun g e=>h1 g (h.row.lt g e).2 (h.own2 g e)),fun g e=>(he g (h.row.lt g e).2).trans (h.own2 g e),fun x hx=>(h.dots x hx).keep h0 he⟩
theorem RpIn.keep{w w':World}{own own':Clr}{c p:Nat}{R:Rp}{cg cc hp:Nat}{mv hv ev:Value}{hs:List Bm}{es:List Em}(h:RpIn w own c p R cg cc hp mv hv ev hs es)(h0:Same own 0 w w')(hS:∀d,c<=d->d<=c+10->Same own d w w')(he:Ext own own' w.heap.size):RpIn w' own' c p R cg cc hp mv hv ev hs es:=
 ⟨(hS c (Nat.le_refl _) (by omega) p h.blk.lt h.own1).trans h.blk,(hS c (Nat.le_refl _) (by omega) cg h.clk.lt h.own2).trans h.clk,(he p h.blk.lt).trans h.own1,(he cg h.clk.lt).trans h.own2,h.obs.keep (fun d a b=>hS d a (by omega)) he,h.held.keep h0 (hS _ (by omega) (by omega)) he,h.heldB,h.effs.keep h0 (hS _ (by omega) (by omega)) he,h.effsE⟩
theorem RpIn.clkAt{w:World}{own:Clr}{c p:Nat}{R:Rp}{cg cc hp:Nat}{mv hv ev:Value}{hs:List Bm}{es:List Em}(h:RpIn w own c p R cg cc hp mv hv ev hs es):ClkAt w p cg cc R.clock:=
 ⟨h.blk.cell 2,fun j hj=>by rw [h.clk.cell];simp [hj]⟩
theorem zbn{w w':World}{p:Nat}(h:Tch (fun k=>k=p) w w')(j:Nat)(u:Value):Tch (fun k=>k=p) w (w'.setCell ⟨p,j,none⟩ u):=h.setCell ⟨p,j,none⟩ u (Or.inl rfl)
theorem RpIn.self{w w':World}{own:Clr}{c p:Nat}{R R':Rp}{cg cc hp:Nat}{mv hv ev:Value}{hs:List Bm}{es:List Em}(hc0:0<c)(h:RpIn w own c p R cg cc hp mv hv ev hs es)(hT:Tch (fun k=>k=p) w w')
  (hb:Blk w' p #[I R'.n,I R'.st, .slice (some ⟨cg,0,none⟩) R'.clock.length cc,I R'.time,mv, .string ⟨R'.log.toArray⟩,I R'.synced, .pointer (some ⟨hp,0,none⟩),ev] 130)
  (e1:R'.clock=R.clock) (e2:R'.obs=R.obs) (e3:R'.held=R.held) (e4:R'.effs=R.effs):RpIn w' own c p R' cg cc hp mv hv ev hs es:=by
 have hS:∀d,d ≠ c->Same own d w w':=fun d hd b hb ho=>hT.block b hb (fun e=>hd (by rw [←ho,e,h.own1]))
 have hcg:cg ≠ p:=by
  rintro rfl
  have:=h.blk.symm.trans h.clk
  simp at this
 refine⟨hb, ?_,h.own1,h.own2, ?_,h.held.keep (hS 0 (by omega)) (hS _ (by omega)) (Ext.refl _ _),e3.trans h.heldB,h.effs.keep (hS 0 (by omega)) (hS _ (by omega)) (Ext.refl _ _),e4.trans h.effsE⟩
 ·rw [e1]
  exact hT.blk h.clk hcg
 ·rw [e2]
  rcases h.obs with h1 | ⟨mb,vs,e,ho,hm,l1,l2,hk⟩
  ·exact Or.inl h1
  ·refine Or.inr ⟨mb,vs,e,ho,hm.same (hT.block mb hm.lt ?_),l1,l2,fun k a b=>(hk k a b).keep (hS _ (by omega)) (Ext.refl _ _)⟩
   rintro rfl
   obtain⟨xs,cl,hx,_⟩:=hm
   cases h.blk.symm.trans hx
def zbz(R:Rp):Rp×Int:=if R.st=1 then(R,6) else if R.clock.getD R.n.toNat 0=30 then(R,13) else({R with st:=1},0)
def zds(w:World)(own:Clr)(c p:Nat)(R:Rp)(cg cc hp:Nat)(mv hv ev:Value)(hs:List Bm)(es:List Em)(w':World):Prop:=RpIn w' own c p R cg cc hp mv hv ev hs es∧Tch (fun k=>k=p) w w'
theorem zpg(own:Clr)(c p:Nat)(R:Rp)(cg cc hp:Nat)(mv hv ev:Value)(hs:List Bm)(es:List Em)(w:World)(hc0:0<c)(h:RpIn w own c p R cg cc hp mv hv ev hs es)(hn0:0<=R.n)(hn1:R.n<R.clock.length):
  Calls Tryz.prog 40 #[.pointer (some ⟨p,0,none⟩)] w fun e w'=>e= .returned (I (zbz R).2)∧zds w own c p (zbz R).1 cg cc hp mv hv ev hs es w':=by
 have HR:Hid (RpIn w own c p R cg cc hp mv hv ev hs es):=h
 have c0:w.cell? ⟨p,0,none⟩=some (I R.n):=h.blk.cell 0
 have c1:w.cell? ⟨p,1,none⟩=some (I R.st):=h.blk.cell 1
 have c2:w.cell? ⟨p,2,none⟩=some (.slice (some ⟨cg,0,none⟩) R.clock.length cc):=h.blk.cell 2
 have z1:w.frozen? ⟨p,1,none⟩=false:=h.blk.frozen 1
 have hnn:R.n.toNat<R.clock.length:=by omega
 have d0:w.cell? ⟨cg,R.n.toNat,none⟩=some (I (R.clock.getD R.n.toNat 0)):=by rw [h.clkAt.row _ hnn];simp [hnn]
 clear h
 go_enter Tryz.func40,Tryz.ntmps40
 by_cases h1:R.st=1
 ·have HV:Hid (zbz R=(R,6)):=by show _=_;unfold zbz;rw [if_pos h1]
  have hb:(R.st==1)=true:=by simp [h1]
  clear h1
  go_wp2
  go_ret
  exact⟨by rw [HV.out];rfl,by rw [HV.out];exact⟨HR.out,Tch.refl _ _⟩⟩
 ·have hb:(R.st==1)=false:=by simp [h1]
  by_cases h2:R.clock.getD R.n.toNat 0=30
  ·have HV:Hid (zbz R=(R,13)):=by show _=_;unfold zbz;rw [if_neg h1,if_pos h2]
   have hb2:(R.clock.getD R.n.toNat 0==30)=true:=by rw [h2];rfl
   clear h1 h2
   generalize R.clock.getD R.n.toNat 0=dk at *
   go_wp2_with fail
   go_quiet (fail)
   go_wp2
   go_ret
   exact⟨by rw [HV.out];rfl,by rw [HV.out];exact⟨HR.out.keep (fun _ _ _=>rfl) (fun _ _ _ _ _ _=>rfl) (Ext.refl _ _),(Tch.refl _ _).drewN nq⟩⟩
  ·have HV:Hid (zbz R=({R with st:=1},0)):=by show _=_;unfold zbz;rw [if_neg h1,if_neg h2]
   have hb2:(R.clock.getD R.n.toNat 0==30)=false:=beq_eq_false_iff_ne.2 h2
   clear h1 h2
   generalize R.clock.getD R.n.toNat 0=dk at *
   go_wp2_with fail
   go_quiet (fail)
   have HRQ:Hid (RpIn (w.drewN nq) own c p R cg cc hp mv hv ev hs es):=HR.out.keep (fun _ _ _=>rfl) (fun _ _ _ _ _ _=>rfl) (Ext.refl _ _)
   have y1:(w.drewN nq).cell? ⟨p,1,none⟩=some (I R.st):=HRQ.out.blk.cell 1
   have y2:(w.drewN nq).frozen? ⟨p,1,none⟩=false:=HRQ.out.blk.frozen 1
   have HTQ:Hid (Tch (fun k=>k=p) w (w.drewN nq)):=(Tch.refl _ _).drewN nq
   clear HR c0 c1 c2 z1 d0
   generalize w.drewN nq=wq at *
   go_wp2
   go_ret
   rw [HV.out]
   exact⟨rfl,HRQ.out.self hc0 (zbn (Tch.refl _ _) _ _) (HRQ.out.blk.set 1 _) rfl rfl rfl rfl,zbn HTQ.out _ _⟩
def endR(R:Rp):Rp:={R with st:=0,effs:= []}
theorem zik(own:Clr)(c p:Nat)(R:Rp)(cg cc hp:Nat)(mv hv ev:Value)(hs:List Bm)(es:List Em)(w:World)(hc0:0<c)(h:RpIn w own c p R cg cc hp mv hv ev hs es):
  Calls Tryz.prog 69 #[.pointer (some ⟨p,0,none⟩)] w fun e w'=>e= .returned (.tuple #[])∧zds w own c p (endR R) cg cc hp mv hv (.slice none 0 0) hs [] w':=by
 have c1:w.cell? ⟨p,1,none⟩=some (I R.st):=h.blk.cell 1
 have c8:w.cell? ⟨p,8,none⟩=some ev:=h.blk.cell 8
 have z1:w.frozen? ⟨p,1,none⟩=false:=h.blk.frozen 1
 have z8:w.frozen? ⟨p,8,none⟩=false:=h.blk.frozen 8
 have HE:Hid (zds w own c p (endR R) cg cc hp mv hv (.slice none 0 0) hs [] ((w.setCell ⟨p,1,none⟩ (I 0)).setCell ⟨p,8,none⟩ (.slice none 0 0))):=by
  have hT:Tch (fun k=>k=p) w ((w.setCell ⟨p,1,none⟩ (I 0)).setCell ⟨p,8,none⟩ (.slice none 0 0)):=zbn (zbn (Tch.refl _ _) _ _) _ _
  have hB:=(h.blk.set 1 (I 0)).set 8 (.slice none 0 0)
  refine⟨?_,hT⟩
  have h1:=h.self (R':={R with st:=0}) hc0 (zbn (Tch.refl _ _) 1 (I 0)) (h.blk.set 1 (I 0)) rfl rfl rfl rfl
  have hT2:Tch (fun k=>k=p) (w.setCell ⟨p,1,none⟩ (I 0)) ((w.setCell ⟨p,1,none⟩ (I 0)).setCell ⟨p,8,none⟩ (.slice none 0 0)):=zbn (Tch.refl _ _) _ _
  have hS:∀d,d ≠ c->Same own d (w.setCell ⟨p,1,none⟩ (I 0)) ((w.setCell ⟨p,1,none⟩ (I 0)).setCell ⟨p,8,none⟩ (.slice none 0 0)):=fun d hd b hb ho=>hT2.block b hb (fun e=>hd (by rw [←ho,e,h.own1]))
  have hcg:cg ≠ p:=by
   rintro rfl
   have:=h.blk.symm.trans h.clk
   simp at this
  refine⟨hB,hT2.blk h1.clk hcg,h1.own1,h1.own2, ?_,h1.held.keep (hS 0 (by omega)) (hS _ (by omega)) (Ext.refl _ _),h1.heldB,⟨⟨rfl, .inl ⟨rfl,rfl⟩⟩,fun g e=>(by simp [Value.ownBlock] at e),fun x hx=>(by cases hx)⟩,rfl⟩
  rcases h1.obs with h2 | ⟨mb,vs,e,ho,hm,l1,l2,hk⟩
  ·exact Or.inl h2
  ·refine Or.inr ⟨mb,vs,e,ho,hm.same (hT2.block mb hm.lt ?_),l1,l2,fun k a b=>(hk k a b).keep (hS _ (by omega)) (Ext.refl _ _)⟩
   rintro rfl
   obtain⟨xs,cl,hx,_⟩:=hm
   cases h1.blk.symm.trans hx
 clear h
 go_enter Tryz.func69,Tryz.ntmps69
 go_wp2
 go_end0
 exact⟨rfl,HE.out⟩
def zcf(R:Rp):Rp×Int:=if R.st=1 then(endR R,0) else(R,7)
theorem zph(own:Clr)(c p:Nat)(R:Rp)(cg cc hp:Nat)(mv hv ev:Value)(hs:List Bm)(es:List Em)(w:World)(hc0:0<c)(h:RpIn w own c p R cg cc hp mv hv ev hs es):
  Calls Tryz.prog 45 #[.pointer (some ⟨p,0,none⟩)] w fun e w'=>e= .returned (I (zcf R).2)∧∃ev' es',zds w own c p (zcf R).1 cg cc hp mv hv ev' hs es' w':=by
 have HR:Hid (RpIn w own c p R cg cc hp mv hv ev hs es):=h
 have c1:w.cell? ⟨p,1,none⟩=some (I R.st):=h.blk.cell 1
 clear h
 go_enter Tryz.func45,Tryz.ntmps45
 by_cases h1:R.st=1
 ·have HV:Hid (zcf R=(endR R,0)):=by show _=_;unfold zcf;rw [if_pos h1]
  have hb:(R.st==1)=true:=by simp [h1]
  clear h1
  go_wp2_with fail
  refine(zik own c p R cg cc hp mv hv ev hs es w hc0 HR.out).mono ?_
  rintro e w1 ⟨rfl,ho⟩
  have HO:Hid (zds w own c p (endR R) cg cc hp mv hv (.slice none 0 0) hs [] w1):=ho
  clear ho
  go_wp2
  go_ret
  rw [HV.out]
  exact⟨rfl,_,_,HO.out⟩
 ·have HV:Hid (zcf R=(R,7)):=by show _=_;unfold zcf;rw [if_neg h1]
  have hb:(R.st==1)=false:=by simp [h1]
  clear h1
  go_wp2
  go_ret
  rw [HV.out]
  exact⟨rfl,_,_,HR.out,Tch.refl _ _⟩
theorem zmx(own:Clr)(c p:Nat)(R:Rp)(cg cc hp:Nat)(mv hv ev:Value)(hs:List Bm)(es:List Em)(w:World)(h:RpIn w own c p R cg cc hp mv hv ev hs es):
  Calls Tryz.prog 65 #[.pointer (some ⟨p,0,none⟩)] w fun e w'=>e= .returned (.bool (R.st==2))∧w'=w:=by
 have c1:w.cell? ⟨p,1,none⟩=some (I R.st):=h.blk.cell 1
 clear h
 go_enter Tryz.func65,Tryz.ntmps65
 go_wp2
 go_ret
 exact⟨rfl,rfl⟩
theorem zv4(own:Clr)(c p:Nat)(R:Rp)(cg cc hp:Nat)(mv hv ev:Value)(hs:List Bm)(es:List Em)(w:World)(h:RpIn w own c p R cg cc hp mv hv ev hs es):
  Calls Tryz.prog 138 #[.pointer (some ⟨p,0,none⟩)] w fun e w'=>e= .returned (.string ⟨R.log.toArray⟩)∧w'=w:=by
 have c1:w.cell? ⟨p,5,none⟩=some (.string ⟨R.log.toArray⟩):=h.blk.cell 5
 clear h
 go_enter Tryz.func138,Tryz.ntmps138
 go_wp2
 go_ret
 exact⟨rfl,rfl⟩
def syncR(R:Rp):Rp:={R with synced:=R.log.length}
theorem ztt(own:Clr)(c p:Nat)(R:Rp)(cg cc hp:Nat)(mv hv ev:Value)(hs:List Bm)(es:List Em)(w:World)(hc0:0<c)(h:RpIn w own c p R cg cc hp mv hv ev hs es):
  Calls Tryz.prog 73 #[.pointer (some ⟨p,5,none⟩)] w fun e w'=>e= .returned (.tuple #[])∧zds w own c p (syncR R) cg cc hp mv hv ev hs es w':=by
 have HR:Hid (RpIn w own c p R cg cc hp mv hv ev hs es):=h
 have c5:w.cell? ⟨p,5,none⟩=some (.string ⟨R.log.toArray⟩):=h.blk.cell 5
 have c6:w.cell? ⟨p,6,none⟩=some (I R.synced):=h.blk.cell 6
 have z6:w.frozen? ⟨p,6,none⟩=false:=h.blk.frozen 6
 clear h
 go_enter Tryz.func73,Tryz.ntmps73
 go_wp2
 go_end0
 exact⟨rfl,HR.out.self hc0 (zbn (Tch.refl _ _) _ _) (HR.out.blk.set 6 _) rfl rfl rfl rfl,zbn (Tch.refl _ _) _ _⟩
theorem zgq(a b:List UInt8):((⟨a.toArray⟩:ByteArray)++⟨b.toArray⟩)=⟨(a++b).toArray⟩:=by
 apply ByteArray.ext
 simp
theorem zw7(own:Clr)(c p:Nat)(R:Rp)(cg cc hp:Nat)(mv hv ev:Value)(hs:List Bm)(es:List Em)(f:List UInt8)(w:World)(hc0:0<c)(h:RpIn w own c p R cg cc hp mv hv ev hs es)(hl:R.log.length+f.length<=100000000):
  Calls Tryz.prog 119 #[.pointer (some ⟨p,5,none⟩), .string ⟨f.toArray⟩] w fun e w'=>e= .returned (.tuple #[])∧zds w own c p {R with log:=R.log++f} cg cc hp mv hv ev hs es w':=by
 have HR:Hid (RpIn w own c p R cg cc hp mv hv ev hs es):=h
 have c5:w.cell? ⟨p,5,none⟩=some (.string ⟨R.log.toArray⟩):=h.blk.cell 5
 have z5:w.frozen? ⟨p,5,none⟩=false:=h.blk.frozen 5
 clear h
 have HB:=zgq R.log f
 go_enter Tryz.func119,Tryz.ntmps119
 go_wp2
 go_end0
 exact⟨rfl,HR.out.self hc0 (zbn (Tch.refl _ _) _ _) (HR.out.blk.set 5 _) rfl rfl rfl rfl,zbn (Tch.refl _ _) _ _⟩
theorem zxc(zs:List Int):∀u∈zs.map I,u.oneCell'=true:=by
 intro u hu
 obtain⟨z,_,rfl⟩:=List.mem_map.1 hu
 rfl
theorem zrc(g c:Nat)(zs:List Int)(w:World)(hat:∀j (hj:j<zs.length),w.cell? ⟨g,j,none⟩=some (I zs[j]))(hl:zs.length<=1048576):
  Calls Tryz.prog 76 #[.slice (some ⟨g,0,none⟩) zs.length c] w fun e w'=>∃v,e= .returned v∧w'.ownsRow w.heap.size 3 1 v zs.length (zs.map I)∧Below w.heap.size w w':=by
 have hnil:=Lib.run_eql_slice_nil (P:=Tryz.prog) w 34 3 (some ⟨g,0,none⟩) zs.length c 0 0 Tryz.underlying34
 have OL:Hid ((w.alloc (.cells #[] 3)).ownsRow w.heap.size 3 1 (.slice (some ⟨w.heap.size,0,none⟩) 0 0) 0 []):=⟨rfl, .inr ⟨w.heap.size,0, #[],rfl,Nat.le_refl _,heap_alloc_new w _,Nat.le_refl _,by unfold maxLen;omega,rfl,rfl⟩⟩
 obtain⟨i,HI⟩:∃i,Hid (Tryz.prog.info? 3=some i∧i.zero=some (.int .i64 0)∧i.size=1∧i.bytes=8):=by obtain⟨i,h⟩:=info_parts zev;exact⟨i,h⟩
 have n1:0+zs.length<=maxLen:=by unfold maxLen;omega
 have n2:(0+zs.length)*8<=140737488355328:=by omega
 have n3:w.heap.size<=(w.alloc (.cells #[] 3)).heap.size:=by simp
 have n4:(zs.map I).length=zs.length*1:=by simp
 have n5:=zxc zs
 have HN:Hid (∀j u,(zs.map I)[j]?=some u->(w.alloc (.cells #[] 3)).cell? ((⟨g,0,none⟩:Addr).add j)=some u):=fun j u hj=>by
  rw [Addr.add_lit,Nat.zero_add]
  rw [List.getElem?_map] at hj
  obtain⟨z,hz,rfl⟩:=Option.map_eq_some_iff.1 hj
  obtain⟨hjl,rfl⟩:=List.getElem?_eq_some_iff.1 hz
  exact zaa ((Below.refl _ _).alloc (Nat.le_refl _) _) (hat j hjl)
 clear hat
 go_enter Tryz.func76,Tryz.ntmps76
 go_wp2_with (first | (at_builtin;refine wpList_append_own_at _ rfl _ _ _ rfl w.heap.size 3 i (.int .i64 0) 1 8 Tryz.underlying34 HI.out.1 HI.out.2.1 HI.out.2.2.1 HI.out.2.2.2 rfl (by decide) (.slice (some ⟨w.heap.size,0,none⟩) 0 0) 0 [] rfl OL.out ⟨g,0,none⟩ zs.length c (zs.map I) rfl n4 HN.out n5 n1 n2 n3 ?_;intro v1 w1 hown1 hgrow1 hnil1 hat1;have HO:Hid (w1.ownsRow w.heap.size 3 1 v1 zs.length (zs.map I)∧Below w.heap.size w w1):=(by rw [Nat.zero_add,List.nil_append] at hown1;refine⟨hown1,((Below.refl w.heap.size w).alloc (Nat.le_refl _) (.cells #[] 3)).grown hgrow1 (by simp) (fun k e=> ?_)⟩;have:w.heap.size=k:=(by simpa [Value.ownBlock] using e);omega);clear hown1 hgrow1 hnil1 hat1))
 go_ret
 exact⟨_,rfl,HO.out.1,HO.out.2⟩
theorem zin(own:Clr)(c p:Nat)(R:Rp)(cg cc hp:Nat)(mv hv ev:Value)(hs:List Bm)(es:List Em)(w:World)(h:RpIn w own c p R cg cc hp mv hv ev hs es)(hl:R.clock.length<=1000):
  Calls Tryz.prog 49 #[.pointer (some ⟨p,0,none⟩)] w fun e w'=>∃v,e= .returned v∧w'.ownsRow w.heap.size 3 1 v R.clock.length (R.clock.map I)∧Below w.heap.size w w':=by
 have c2:w.cell? ⟨p,2,none⟩=some (.slice (some ⟨cg,0,none⟩) R.clock.length cc):=h.blk.cell 2
 have HC:Hid (∀j (hj:j<R.clock.length),w.cell? ⟨cg,j,none⟩=some (I R.clock[j])):=h.clkAt.row
 clear h
 go_enter Tryz.func49,Tryz.ntmps49
 go_wp2_with fail
 refine(zrc cg cc R.clock w HC.out (by omega)).mono ?_
 rintro e w1 ⟨v,rfl,ho,hb⟩
 have HO:Hid (w1.ownsRow w.heap.size 3 1 v R.clock.length (R.clock.map I)∧Below w.heap.size w w1):=⟨ho,hb⟩
 clear ho hb
 go_wp2
 go_ret
 exact⟨_,rfl,HO.out⟩
def zbg(b:Wv.Bt)(i:Int):Stp:=⟨⟨b.o,b.s,i⟩,b.t⟩
theorem zhi(x:Bm)(i:Int)(w:World):
  Calls Tryz.prog 114 #[bmV x,I i] w fun e w'=>e= .returned (stV (zbg x.b i))∧Below w.heap.size w w':=by
 have HE:Hid (Below w.heap.size w (w.alloc (.cells (bmC x) 124))):=(Below.refl _ _).alloc (Nat.le_refl _) _
 have HE2:Hid (Below w.heap.size w ((w.alloc (.cells (bmC x) 124)).alloc (.cells #[I x.b.o,I x.b.s,I i,I x.b.t] 198))):=HE.out.alloc HE.out.size _
 clear HE
 go_enter Tryz.func114,Tryz.ntmps114
 go_wp2_with fail
 exact bodyPost_ret (v:=stV (zbg x.b i)) (by simp [results,Tryz.results114,go_sem,zbg]) rfl ⟨rfl,HE2.out⟩
theorem znu(x:Bm)(w:World)(eb ef:Addr)(hI:zay)(g:Gl w eb ef)(hp:Pw w)(h:BatAt w x.b x.ca x.ea x.ms)(hb:Wv.isB x.b=true):
  Calls Tryz.prog 71 #[bmV x] w fun e w'=>e= .returned (.string ⟨(Wv.frameB x.b).toArray⟩)∧Below w.heap.size w w':=by
 have hA:Below w.heap.size w (w.alloc (.cells (bmC x) 124)):=(Below.refl _ _).alloc (Nat.le_refl _) _
 have HC:Hid (Calls Tryz.prog 116 #[bV x.b x.ca x.ea x.cc x.ec] (w.alloc (.cells (bmC x) 124)) fun e w'=>e= .returned (.tuple #[.string ⟨(Wv.frameB x.b).toArray⟩, .nilIface])∧Below (w.alloc (.cells (bmC x) 124)).heap.size (w.alloc (.cells (bmC x) 124)) w'):=zny x.b x.ca x.ea x.cc x.ec x.ms _ eb ef hI (g.kept hA) (hp.kept hA) (h.kept hA) hb
 have HA:Hid (Below w.heap.size w (w.alloc (.cells (bmC x) 124))):=hA
 clear h hp g hA hb
 go_enter Tryz.func71,Tryz.ntmps71
 go_wp2_with fail
 refine HC.out.mono ?_
 rintro e w1 ⟨rfl,hb1⟩
 have HB:Hid (Below w.heap.size w w1):=HA.out.trans (hb1.mono HA.out.size)
 clear hb1 HC HA
 go_wp2
 go_ret
 exact⟨rfl,HB.out⟩
def AtK(K:Nat->Prop)(w:World)(own:Clr)(a:Option Addr)(cs:List Value):Prop:=∀j u,cs[j]?=some u->∃b o,a=some ⟨b,o,none⟩∧K (own b)∧w.cell? ⟨b,o+j,none⟩=some u
theorem AtK.at{K:Nat->Prop}{w:World}{own:Clr}{a:Option Addr}{cs:List Value}(h:AtK K w own a cs):At w a cs:=fun j u hj=>by
 obtain⟨b,o,e,_,hc⟩:=h j u hj
 exact⟨b,o,e,hc⟩
theorem AtK.keep{K:Nat->Prop}{w w':World}{own own':Clr}{a:Option Addr}{cs:List Value}(h:AtK K w own a cs)(hs:∀d,K d->Same own d w w')(he:Ext own own' w.heap.size):AtK K w' own' a cs:=fun j u hj=>by
 obtain⟨b,o,e,h0,hc⟩:=h j u hj
 exact⟨b,o,e,by rw [he b (zag hc)];exact h0,zan hc (hs _ h0 b (zag hc) rfl)⟩
structure BatK(K:Nat->Prop)(w:World)(own:Clr)(m:Bm):Prop where
 clock:AtK K w own m.ca (m.b.clock.map I)
 effs:m.b.effs=m.ms.map (·.e)
 cells:AtK K w own m.ea (flat Em.cells m.ms)
 dots:∀x∈m.ms,AtK K w own x.da (flat zab x.e.dots)
theorem BatK.at{K:Nat->Prop}{w:World}{own:Clr}{m:Bm}(h:BatK K w own m):BatAt w m.b m.ca m.ea m.ms:=⟨h.clock.at,h.effs,h.cells.at,fun x hx=>(h.dots x hx).at⟩
theorem BatK.keep{K:Nat->Prop}{w w':World}{own own':Clr}{m:Bm}(h:BatK K w own m)(hs:∀d,K d->Same own d w w')(he:Ext own own' w.heap.size):BatK K w' own' m:=
 ⟨h.clock.keep hs he,h.effs,h.cells.keep hs he,fun x hx=>(h.dots x hx).keep hs he⟩
theorem ztp{α:Type}(less:α->α->Bool)(bs:List α)(i:Nat)(m:α)(h:m∈riseP less bs i):m∈bs:=by
 induction i using Nat.strongRecOn generalizing bs with
 | _ i ih=>
  rw [riseP] at h
  split at h
  ·exact zkq bs i _ m (ih ((i - 1) / 2) (by omega) _ h)
  ·exact h
theorem zkr{α:Type}(less:α->α->Bool)(bs:List α)(x m:α)(h:m∈pushP less bs x):m∈bs∨m=x:=by
 have:=ztp less _ _ m h
 simpa using this
theorem zm9{α:Type}(less:α->α->Bool)(os:List α):∀(l:List α) (m:α),m∈os.foldl (pushP less) l->m∈l∨m∈os:=by
 induction os with
 | nil=>intro l m h;exact Or.inl h
 | cons x os ih=>
  intro l m h
  rcases ih _ m h with h | h
  ·rcases zkr less l x m h with h | h
   ·exact Or.inl h
   ·exact Or.inr (by simp [h])
  ·exact Or.inr (by simp [h])
theorem zpr{α:Type}(less:α->α->Bool)(f:α->Bool)(n:Nat):∀(l os:List α) (m:α),(m∈(zba less f n l os).1.toList∨m∈(zba less f n l os).2.1∨m∈(zba less f n l os).2.2)->m∈l∨m∈os:=by
 induction n with
 | zero=>intro l os m h;rcases h with h | h | h;simp [zba] at h;exact Or.inl h;exact Or.inr h
 | succ n ih=>
  intro l os m h
  have hr:=zwq less l m
  unfold popR at hr
  rw [zba] at h
  cases hq:popP less l with
  | none=>rw [hq] at h;simp only [Option.toList_none,List.not_mem_nil,false_or] at h;exact h
  | some p=>
   obtain⟨x,l'⟩:=p
   rw [hq] at h hr
   simp only [Option.toList_some,List.singleton_append,List.mem_cons] at hr
   simp only at h
   split at h
   ·rcases h with h | h | h
    ·simp only [Option.toList_some,List.mem_singleton] at h;exact Or.inl (hr (Or.inl h))
    ·exact Or.inl (hr (Or.inr h))
    ·exact Or.inr h
   ·rcases ih _ _ m h with h | h
    ·exact Or.inl (hr (Or.inr h))
    ·simp only [List.mem_append,List.mem_singleton] at h
     rcases h with h | h
     ·exact Or.inr h
     ·exact Or.inl (hr (Or.inl h))
theorem zgw{α:Type}(less:α->α->Bool)(f:α->Bool)(bs:List α)(m:α)(h:m∈(takeP less f bs).1.toList∨m∈(takeP less f bs).2):m∈bs:=by
 have hp:=zpr less f (bs.length+1) bs [] m
 simp only [List.not_mem_nil,or_false] at hp
 rcases h with h | h
 ·exact hp (Or.inl h)
 ·rcases zm9 less _ _ m h with h | h
  ·exact hp (Or.inr (Or.inl h))
  ·exact hp (Or.inr (Or.inr h))
theorem zpm{α:Type}(less:α->α->Bool)(f:α->Bool)(n:Nat):∀(l os:List α),(zba less f n l os).1.toList.length+(zba less f n l os).2.1.length+(zba less f n l os).2.2.length<=l.length+os.length:=by
 induction n with
 | zero=>intro l os;simp [zba]
 | succ n ih=>
  intro l os
  have hr:=ziq less l
  unfold popR at hr
  rw [zba]
  cases hq:popP less l with
  | none=>simp
  | some p=>
   obtain⟨x,l'⟩:=p
   rw [hq] at hr
   simp only [Option.toList_some,List.length_singleton] at hr
   simp only
   split
   ·simp only [Option.toList_some,List.length_singleton];omega
   ·have:=ih l' (os++ [x])
    simp only [List.length_append,List.length_singleton] at this
    omega
theorem zkc{α:Type}(less:α->α->Bool)(f:α->Bool)(bs:List α):(takeP less f bs).1.toList.length+(takeP less f bs).2.length<=bs.length:=by
 have:=zpm less f (bs.length+1) bs []
 show(zba less f (bs.length+1) bs []).1.toList.length+((zba less f (bs.length+1) bs []).2.2.foldl (pushP less) (zba less f (bs.length+1) bs []).2.1).length<=bs.length
 rw [zfc]
 simp only [List.length_nil,Nat.add_zero] at this
 omega
theorem HeldAt.took{w w':World}{own:Clr}{c hp:Nat}{hv:Value}{hs l:List Bm}(h:HeldAt w own c hp hv hs)(hc:0<c)(ho:HpOk w hp hv l w')(hm:∀m∈l,m∈hs):∃hv',HeldAt w' (newTo own w.heap.size c) c hp hv' l∧TchC own c w w':=by
 obtain⟨hv',h1,hT,hv⟩:=ho
 have hTc:TchC own c w w':=hT.mono (fun k _ hk=>by rcases hk with rfl | hk;exact h.own1;exact h.own2 k hk)
 refine⟨hv',⟨h1,(zac _ _ _ _ h.hpx.blk.lt).trans h.own1,fun g e=> ?_,fun m hx=>(h.bats m (hm m hx)).keep (hTc.same (fun k e e2=>by omega)) (zaf _ _ _)⟩,hTc⟩
 rcases hv g e with e2 | e2
 ·exact(zac _ _ _ _ (h.hpx.row.lt g e2).2).trans (h.own2 g e2)
 ·exact zae _ _ _ _ e2
theorem RpIn.took{w w':World}{own:Clr}{c p:Nat}{R:Rp}{cg cc hp:Nat}{mv hv ev:Value}{hs l:List Bm}{es:List Em}(h:RpIn w own c p R cg cc hp mv hv ev hs es)(ho:HpOk w hp hv l w')(hm:∀m∈l,m∈hs):∃hv',RpIn w' (newTo own w.heap.size (c+9)) c p {R with held:=l.map (·.b)} cg cc hp mv hv' ev l es∧TchC own (c+9) w w':=by
 obtain⟨hv',h1,hT⟩:=h.held.took (by omega) ho hm
 have he:=zaf own w.heap.size (c+9)
 have hS:∀d,d ≠ c+9->Same own d w w':=fun d hd=>hT.same (fun k e e2=>hd (e.symm.trans e2))
 exact⟨hv',⟨(hS c (by omega) p h.blk.lt h.own1).trans h.blk,(hS c (by omega) cg h.clk.lt h.own2).trans h.clk,(he p h.blk.lt).trans h.own1,(he cg h.clk.lt).trans h.own2,h.obs.keep (fun d a b=>hS d (by omega)) he,h1,rfl,h.effs.keep (hS 0 (by omega)) (hS _ (by omega)) he,h.effsE⟩,hT⟩
abbrev TchR (own:Clr) (c:Nat) (w w':World):Prop:=Tch (fun k=>c<=own k∧own k<=c+9) w w'
structure DlAt(w wr:World)(own own':Clr)(c p:Nat)(R:Rp)(cg cc hp:Nat)(mv hv ev:Value)(hs:List Bm)(es:List Em)(x:Bm):Prop where
 rp:RpIn wr own' c p R cg cc hp mv hv ev hs es
 bat:BatK (fun d=>d=0∨d=c+10) wr own' x
 box:Blk wr w.heap.size (bmC x) 124
 boxc:own' w.heap.size=0
 ext:Ext own own' w.heap.size
 tch:TchR own c w wr
theorem DlAt.below{w wr w2:World}{own own':Clr}{c p:Nat}{R:Rp}{cg cc hp:Nat}{mv hv ev:Value}{hs:List Bm}{es:List Em}{x:Bm}(h:DlAt w wr own own' c p R cg cc hp mv hv ev hs es x)(hb:Below wr.heap.size wr w2):DlAt w w2 own (newTo own' wr.heap.size 0) c p R cg cc hp mv hv ev hs es x:=
 ⟨h.rp.keep (fun b hl _=>hb.block b hl) (fun _ _ _ b hl _=>hb.block b hl) (zaf _ _ _),h.bat.keep (fun _ _ b hl _=>hb.block b hl) (zaf _ _ _),h.box.kept hb h.box.lt,(zac _ _ _ _ h.box.lt).trans h.boxc,h.ext.trans (zaf _ _ _) h.tch.size,h.tch.then (Tch.below hb)⟩
theorem zxy{w wA w3 w4:World}{own:Clr}{c p:Nat}{R:Rp}{cg cc hp:Nat}{mv hv ev:Value}{hs l:List Bm}{es:List Em}{x:Bm}(hc0:0<c)(h:RpIn w own c p R cg cc hp mv hv ev hs es)(hx:BatK (fun d=>d=0∨d=c+10) w own x)(hA:wA=w.alloc (.cells (bmC x) 124))(hB3:Below wA.heap.size wA w3)(ho:HpOk w3 hp hv l w4)(hm:∀m∈l,m∈hs):
  ∃own' hv',DlAt w w4 own own' c p {R with held:=l.map (·.b)} cg cc hp mv hv' ev l es x:=by
 have hBA:Below w.heap.size w wA:=by rw [hA];exact(Below.refl _ _).alloc (Nat.le_refl _) _
 have hX:Blk wA w.heap.size (bmC x) 124:=by rw [hA];exact heap_alloc_new w _
 have hB:Below w.heap.size w w3:=hBA.trans (hB3.mono hBA.size)
 have hX3:Blk w3 w.heap.size (bmC x) 124:=hX.kept hB3 hX.lt
 have h3:RpIn w3 (newTo own w.heap.size 0) c p R cg cc hp mv hv ev hs es:=h.keep (fun b hl _=>hB.block b hl) (fun _ _ _ b hl _=>hB.block b hl) (zaf _ _ _)
 have hx3:BatK (fun d=>d=0∨d=c+10) w3 (newTo own w.heap.size 0) x:=hx.keep (fun _ _ b hl _=>hB.block b hl) (zaf _ _ _)
 obtain⟨hv',h4,hT⟩:=h3.took ho hm
 have hbx:newTo own w.heap.size 0 w.heap.size=0:=zae _ _ _ _ (Nat.le_refl _)
 have hS:∀d,d ≠ c+9->Same (newTo own w.heap.size 0) d w3 w4:=fun d hd=>hT.same (fun k e e2=>hd (e.symm.trans e2))
 refine⟨_,hv',h4,hx3.keep (fun d hd=>hS d (by rcases hd with h | h<;>omega)) (zaf _ _ _),hT.blk hX3 (by show¬_=_;rw [hbx];omega),(zac _ _ _ _ hX3.lt).trans hbx,(zaf own w.heap.size 0).trans (zaf _ _ _) hB.size,(Tch.below hB).trans hT (fun _ _ h=>h) (fun k hk e=> ?_)⟩
 rw [zac _ _ _ _ hk] at e
 omega
theorem DlAt.took{w wr w2:World}{own own':Clr}{c p:Nat}{R:Rp}{cg cc hp:Nat}{mb:Nat}{hv ev:Value}{hs:List Bm}{es:List Em}{x:Bm}{vs:List Value}{k:Nat}{o':Ob}{e:Ending}(hc0:0<c)(h:DlAt w wr own own' c p R cg cc hp (.map (some mb)) hv ev hs es x)
  (hm:OmAt wr mb vs) (hmo:own' mb=c) (hl:vs.length=8) (hlo:R.obs.length=8) (hk:k<vs.length) (hob:∀j (h1:j<vs.length) (h2:j<R.obs.length),ObAt wr own' (c+1+j) vs[j] R.obs[j]) (ht:zd6 own' (c+1+k) vs[k] o' wr e w2):
  ∃own'',DlAt w w2 own own'' c p {R with obs:=R.obs.set k o'} cg cc hp (.map (some mb)) hv ev hs es x:=by
 obtain⟨_,own'',he,ho,hT⟩:=ht
 have hS:∀d,d ≠ c+1+k->Same own' d wr w2:=fun d hd=>hT.same (fun j e e2=>hd (e.symm.trans e2))
 have hr:=h.rp
 refine⟨own'',⟨(hS c (by omega) p hr.blk.lt hr.own1).trans hr.blk,(hS c (by omega) cg hr.clk.lt hr.own2).trans hr.clk,(he p hr.blk.lt).trans hr.own1,(he cg hr.clk.lt).trans hr.own2,Or.inr ⟨mb,vs,rfl,(he mb hm.lt).trans hmo,hm.same (hS c (by omega) mb hm.lt hmo),hl,by simpa using hlo,fun j h1 h2=> ?_⟩,hr.held.keep (hS 0 (by omega)) (hS _ (by omega)) he,hr.heldB,hr.effs.keep (hS 0 (by omega)) (hS _ (by omega)) he,hr.effsE⟩,h.bat.keep (fun d hd=>hS d (by rcases hd with h | h<;>omega)) he,hT.blk h.box (by show¬_=_;rw [h.boxc];omega),(he _ h.box.lt).trans h.boxc,h.ext.trans he h.tch.size,h.tch.trans hT (fun _ _ h=>h) (fun j hj e=> ?_)⟩
 ·simp only [List.length_set] at h2
  by_cases hjk:j=k
  ·subst hjk
   simp only [List.getElem_set_self]
   exact ho
  ·rw [List.getElem_set_ne (fun e=>hjk e.symm)]
   exact(hob j h1 h2).keep (hS _ (by omega)) he
 ·rw [h.ext j hj] at e
  omega
def zek(obs:List Ob)(s:Stp)(e:Wv.Ef):List Ob:=match obs[e.ob.toNat]? with | none=>obs | some o=>obs.set e.ob.toNat (o.take s e)
def obsTo(b:Wv.Bt)(obs:List Ob):Nat->List Ob
 | 0=>obs
 | k+1=>match b.effs[k]? with | none=>obsTo b obs k | some e=>zek (obsTo b obs k) (zbg b k) e
theorem zo2(obs:List Ob)(s:Stp)(e:Wv.Ef):(zek obs s e).length=obs.length:=by
 unfold zek;split<;>simp
theorem zkp(b:Wv.Bt)(obs:List Ob)(k:Nat):(obsTo b obs k).length=obs.length:=by
 induction k with
 | zero=>rfl
 | succ k ih=>unfold obsTo;split;exact ih;rw [zo2];exact ih
def Ob.bound(n:Nat):Ob->Prop
 | .counter v=> -1000*(n:Int)<=v∧v<=1000*(n:Int)
 | .list ls=>ls.length<=n
 | .set m=>m.length<=n
 | .reg m=>m.length<=n
theorem zm1(m:Lv)(d:Wv.Dt)(v:Int):(putD m d v).length<=m.length+1:=by
 unfold putD
 split<;>simp
theorem zx0(m:Lv)(d:Wv.Dt):(delD m d).length<=m.length:=by
 unfold delD
 split
 ·rw [List.length_eraseIdx]
  split<;>omega
 ·exact Nat.le_refl _
theorem zk9(m:Lv)(ds:List Wv.Dt):(delsD m ds).length<=m.length:=by
 unfold delsD
 induction ds generalizing m with
 | nil=>exact Nat.le_refl _
 | cons d r ih=>exact Nat.le_trans (ih _) (zx0 m d)
theorem Ob.bound_small{n:Nat}{o:Ob}(h:o.bound n)(hn:n<=100000):o.small:=by
 cases o with
 | counter v=>obtain⟨h1,h2⟩:=h;exact⟨by omega,by omega⟩
 | list ls=>show ls.length<=1000000;have:ls.length<=n:=h;omega
 | set m=>trivial
 | reg m=>trivial
theorem zsp(ls:List El)(s:Stp)(e:Wv.Ef):(takeL ls s e).length<=ls.length+1:=by
 unfold takeL
 split
 ·unfold putL;rw [zdm _ _ _ (ztk _ _ _)];omega
 ·split<;>simp
theorem Ob.bound_take{n:Nat}{o:Ob}(s:Stp)(e:Wv.Ef)(h:o.bound n)(h1: -1000<=e.va)(h2:e.va<=1000):(o.take s e).bound (n+1):=by
 cases o with
 | counter v=>obtain⟨a,b⟩:=h;exact⟨by show _<=v+e.va;omega,by show v+e.va<=_;omega⟩
 | list ls=>show(takeL ls s e).length<=n+1;have:=zsp ls s e;have:ls.length<=n:=h;omega
 | set m=>
  show(takeS m s e).length<=n+1
  have hm:m.length<=n:=h
  unfold takeS
  split
  ·have:=zm1 m s.d e.va;omega
  ·split
   ·have:=zk9 m e.dots;omega
   ·omega
 | reg m=>
  show(takeR m s e).length<=n+1
  have hm:m.length<=n:=h
  unfold takeR
  have h1:=zk9 m e.dots
  have h2:=zm1 (delsD m e.dots) s.d e.va
  omega
theorem Ob.bound_mono{n m:Nat}{o:Ob}(h:o.bound n)(hm:n<=m):o.bound m:=by
 cases o with
 | counter v=>obtain⟨a,b⟩:=h;exact⟨by omega,by omega⟩
 | list ls=>exact Nat.le_trans h hm
 | set l=>exact Nat.le_trans h hm
 | reg l=>exact Nat.le_trans h hm
theorem zjk{n:Nat}{obs:List Ob}(s:Stp)(e:Wv.Ef)(h:∀o∈obs,o.bound n)(h1: -1000<=e.va)(h2:e.va<=1000):∀o∈zek obs s e,o.bound (n+1):=by
 intro o ho
 unfold zek at ho
 split at ho
 ·exact Ob.bound_mono (h o ho) (by omega)
 ·rename_i o1 hq
  rcases List.mem_or_eq_of_mem_set ho with ho | ho
  ·exact Ob.bound_mono (h o ho) (by omega)
  ·rw [ho];exact Ob.bound_take s e (h o1 (List.mem_of_getElem? hq)) h1 h2
theorem mTakeC (v : Value) (w : World) : (method 492 180 v "Take").run Tryz.prog w = .ok (244, v) w := by kernel_rfl
theorem zz9 (v : Value) (w : World) : (method 492 183 v "Take").run Tryz.prog w = .ok (248, v) w := by kernel_rfl
theorem mTakeR (v : Value) (w : World) : (method 492 188 v "Take").run Tryz.prog w = .ok (306, v) w := by kernel_rfl
theorem mTakeL (v : Value) (w : World) : (method 492 190 v "Take").run Tryz.prog w = .ok (310, v) w := by kernel_rfl
theorem ObAt.face{w:World}{own:Clr}{c:Nat}{v:Value}{o:Ob}(h:ObAt w own c v o):∃t q,v= .iface t q:=by
 cases o with
 | counter n=>obtain⟨p,e,_⟩:=h;exact⟨_,_,e⟩
 | set m=>obtain⟨p,b,e,_⟩:=h;exact⟨_,_,e⟩
 | reg m=>obtain⟨p,b,e,_⟩:=h;exact⟨_,_,e⟩
 | list ls=>obtain⟨p,sv,e,_⟩:=h;exact⟨_,_,e⟩
theorem zea{ops:Array Oper}{o:Oper}{a:Act}{w:World}{K:Act->World->Prop}{Q:Exit->Act->World->Prop}{E:Prop}(hgd:o.guard=none)(x y z:Operand)(ats:Array TypeId)
    (hop : o.op = .call { callee := .invoke x "Take", args := #[y, z], argTypes := ats }) (v : Value) (ob : Ob) (s : Stp) (m : Em) (own : Clr) (c : Nat) (hx : a.eval x = v) (hy : a.eval y = stV s) (hz : a.eval z = effV m)
    (hob:ObAt w own c v ob) (hsm:ob.small) (h1: -1000<=m.e.va) (h2:m.e.va<=1000) (hd:At w m.da (flat zab m.e.dots)) (hdl:m.e.dots.length<=1048576)
    (hK:∀w',zd6 own c v (ob.take s m.e) w (.returned (.tuple #[])) w'->K (a.put o.dst (.tuple #[])) w'):
    if Region.wanted o (yielded ops a.tmps)=true then Oper.wp Tryz.prog o a w K Q else E:=by
  have hw:Region.wanted o (yielded ops a.tmps)=true:=by simp [Region.wanted,hgd]
  rw [if_pos hw]
  have hex : ∀ t q f, v = .iface t q -> (∀ w', (method 492 t q "Take").run Tryz.prog w' = .ok (f, q) w') -> (callFunc f #[q, stV s, effV m]).run Tryz.prog w = .ok (.enter f #[q, stV s, effV m]) w -> (Calls Tryz.prog f #[q, stV s, effV m] w fun e w' => zd6 own c v (ob.take s m.e) w e w') -> Oper.wp Tryz.prog o a w K Q := by
    intro t q f hv hm hcf hcalls
    have hrun:(execOp a.eval o).run Tryz.prog w= .ok (.enter f #[q,stV s,effV m]) w:=by
      unfold execOp
      simp only [hop]
      simp only [resolve,invoke,Sem.run_bind,Sem.run_pure,Result.andThen_ok,List.map_toArray,List.map_cons,List.map_nil,hx,hy,hz,hv]
      show (callMethod (.iface t q) "Take" #[stV s, effV m]).run Tryz.prog w = _
      unfold callMethod
      simp [Made.depth,hm,hcf]
    unfold Oper.wp
    rw [hrun,Oper.upon_enter]
    refine hcalls.mono ?_
    intro e w' hT
    have he:e= .returned (.tuple #[]):=hT.1
    subst he
    exact hK w' hT
  cases ob with
  | counter n=>
    obtain⟨pp,hveq,h⟩:=id hob
    refine hex _ _ _ hveq (fun w'=>mTakeC _ w') (by kernel_rfl) ?_
    rw [hveq] at hob ⊢
    exact zll s m hob hsm h1 h2
  | set l=>
    obtain⟨pp,b,hveq,h⟩:=id hob
    refine hex _ _ _ hveq (fun w'=>zz9 _ w') (by kernel_rfl) ?_
    rw [hveq] at hob ⊢
    exact take_set s m hob hd hdl
  | reg l=>
    obtain⟨pp,b,hveq,h⟩:=id hob
    refine hex _ _ _ hveq (fun w'=>mTakeR _ w') (by kernel_rfl) ?_
    rw [hveq] at hob ⊢
    exact zvi s m hob hd hdl
  | list ls=>
    obtain⟨pp,b,hveq,h⟩:=id hob
    refine hex _ _ _ hveq (fun w'=>mTakeL _ w') (by kernel_rfl) ?_
    rw [hveq] at hob ⊢
    exact zsm s m hob hsm
theorem RpIn.setClk{w:World}{own:Clr}{c p:Nat}{R:Rp}{cg cc hp:Nat}{mv hv ev:Value}{hs:List Bm}{es:List Em}(hc0:0<c)(h:RpIn w own c p R cg cc hp mv hv ev hs es)(j:Nat)(z:Int):RpIn (w.setCell ⟨cg,j,none⟩ (I z)) own c p {R with clock:=R.clock.set j z} cg cc hp mv hv ev hs es:=by
 have hT:Tch (fun k=>k=cg) w (w.setCell ⟨cg,j,none⟩ (I z)):=zbn (Tch.refl _ _) j (I z)
 have hS:∀d,d ≠ c->Same own d w (w.setCell ⟨cg,j,none⟩ (I z)):=fun d hd b hb ho=>hT.block b hb (fun e=>hd (by rw [←ho,e,h.own2]))
 have hcg:p ≠ cg:=by
  rintro rfl
  have:=h.blk.symm.trans h.clk
  simp at this
 refine⟨?_, ?_,h.own1,h.own2, ?_,h.held.keep (hS 0 (by omega)) (hS _ (by omega)) (Ext.refl _ _),h.heldB,h.effs.keep (hS 0 (by omega)) (hS _ (by omega)) (Ext.refl _ _),h.effsE⟩
 ·have:=hT.blk h.blk hcg
  simpa using this
 ·have h1:=h.clk.set j (I z)
  have e1:((R.clock.map I).toArray.setIfInBounds j (I z))=((R.clock.set j z).map I).toArray:=by
   rw [List.map_set]
   simp
  rw [e1] at h1
  exact h1
 ·rcases h.obs with h1 | ⟨mb,vs,e,ho,hm,l1,l2,hk⟩
  ·exact Or.inl h1
  ·refine Or.inr ⟨mb,vs,e,ho,hm.same (hT.block mb hm.lt ?_),l1,l2,fun k a b=>(hk k a b).keep (hS _ (by omega)) (Ext.refl _ _)⟩
   rintro rfl
   obtain⟨xs,cl,hx,_⟩:=hm
   cases h.clk.symm.trans hx
def zch(R:Rp)(b:Wv.Bt)(fr:List UInt8)(hs:List Wv.Bt):Rp:={R with obs:=obsTo b R.obs b.effs.length,clock:=R.clock.set b.o.toNat b.s,time:=max R.time b.t,log:=R.log++fr,held:=hs}
def DelOk(w:World)(own:Clr)(c p:Nat)(R:Rp)(cg cc hp:Nat)(mv ev:Value)(hs:List Bm)(es:List Em)(w':World):Prop:=∃own' hv',Ext own own' w.heap.size∧RpIn w' own' c p R cg cc hp mv hv' ev hs es∧TchR own c w w'
theorem zn9(own:Clr)(c p:Nat)(R:Rp)(cg cc hp:Nat)(mv hv ev:Value)(hs:List Bm)(es:List Em)(x:Bm)(fr:List UInt8)(w:World)(hc0:0<c)(h:RpIn w own c p R cg cc hp mv hv ev hs es)(hx:BatK (fun d=>d=0∨d=c+10) w own x)(hl:hs.length<=1000)(hlog:R.log.length+fr.length<=100000000)(ho0:0<=x.b.o)(ho1:x.b.o<(R.clock.length:Int))(hobs:R.obs.length=8)(N:Nat)(hN:N+x.b.effs.length<=100000)(hbd:∀o∈R.obs,o.bound N)(hval:∀e∈x.b.effs,0<=e.ob∧e.ob<8∧ -1000<=e.va∧e.va<=1000∧e.dots.length<=1048576):
  Calls Tryz.prog 72 #[.pointer (some ⟨p,0,none⟩),bmV x, .string ⟨fr.toArray⟩] w fun e w'=>e= .returned (.tuple #[])∧DelOk w own c p (zch R x.b fr ((takeP lessM (fun m=>likeB x.b m.b) hs).2.map (·.b))) cg cc hp mv ev (takeP lessM (fun m=>likeB x.b m.b) hs).2 es w':=by
 have HBD:Hid (∀k,k<=x.b.effs.length->∀o∈obsTo x.b R.obs k,o.bound (N+k)):=by
  intro k
  induction k with
  | zero=>intro _;exact hbd
  | succ k ih=>
   intro hk
   have hq:x.b.effs[k]?=some x.b.effs[k]:=List.getElem?_eq_getElem (by omega)
   rw [obsTo,hq]
   obtain⟨_,_,h1,h2,_⟩:=hval _ (List.getElem_mem (by omega:k<x.b.effs.length))
   exact zjk _ _ (ih (by omega)) h1 h2
 obtain⟨wA,hwA⟩:∃wA,wA=w.alloc (.cells (bmC x) 124):=⟨_,rfl⟩
 have hBA:Below w.heap.size w wA:=by rw [hwA];exact(Below.refl _ _).alloc (Nat.le_refl _) _
 have HBA:Hid (Below w.heap.size w wA):=hBA
 have HX:Hid (Blk wA w.heap.size (bmC x) 124):=by rw [hwA];exact heap_alloc_new w _
 have HR:Hid (RpIn wA own c p R cg cc hp mv hv ev hs es):=h.keep (fun b hb _=>hBA.block b hb) (fun d _ _ b hb _=>hBA.block b hb) (Ext.refl _ _)
 have HBK:Hid (BatK (fun d=>d=0∨d=c+10) wA own x):=hx.keep (fun d _ b hb _=>hBA.block b hb) (Ext.refl _ _)
 have hpw:p<w.heap.size:=h.blk.lt
 have hhw:hp<w.heap.size:=h.held.hpx.blk.lt
 have HVW:Hid (∀k,hv.ownBlock=some k->k<w.heap.size):=fun k e=>(h.held.hpx.row.lt k e).2
 have hsA:w.heap.size<wA.heap.size:=HX.out.lt
 have HRW:Hid (RpIn w own c p R cg cc hp mv hv ev hs es):=h
 have HXW:Hid (BatK (fun d=>d=0∨d=c+10) w own x):=hx
 have HAW:Hid (wA=w.alloc (.cells (bmC x) 124)):=hwA
 have HMM:Hid (∀m∈(takeP lessM (fun m=>likeB x.b m.b) hs).2,m∈hs):=fun m hm=>zgw _ _ _ m (Or.inr hm)
 clear h hx hBA
 have c7:wA.cell? ⟨p,7,none⟩=some (.pointer (some ⟨hp,0,none⟩)):=HR.out.blk.cell 7
 have x0:wA.cell? ⟨w.heap.size,0,none⟩=some (I x.b.o):=HX.out.cell 0
 have x1:wA.cell? ⟨w.heap.size,1,none⟩=some (I x.b.s):=HX.out.cell 1
 have x2:wA.cell? ⟨w.heap.size,2,none⟩=some (I x.b.t):=HX.out.cell 2
 have x3:wA.cell? ⟨w.heap.size,3,none⟩=some (.slice x.ca x.b.clock.length x.cc):=HX.out.cell 3
 have x4:wA.cell? ⟨w.heap.size,4,none⟩=some (.slice x.ea x.b.effs.length x.ec):=HX.out.cell 4
 go_enter Tryz.func72,Tryz.ntmps72
 go_upto_region 1 with fail
 change Code.wp _ _ _ _ (w.alloc (.cells (bmC x) 124))
 rw [←hwA]
 clear hwA
 go_cut [] (fun wx=>∃own1 hv1,Hid (DlAt w wx own own1 c p {R with held:=(takeP lessM (fun m=>likeB x.b m.b) hs).2.map (·.b)} cg cc hp mv hv1 ev (takeP lessM (fun m=>likeB x.b m.b) hs).2 es x))
 case first=>
  go_region_law (first
   | (go_simp;go_at_call 118;refine(zw4 x _).mono ?_;rintro e w3 ⟨rfl,hw3⟩;have HB3:Hid (Below wA.heap.size wA w3):=(by rw [hw3];first | exact((Below.refl _ _).drew).alloc (Nat.le_refl _) _ | exact(Below.refl _ _).alloc (Nat.le_refl _) _);have HG3:Hid (Blk w3 wA.heap.size (bmC x) 124):=(by rw [hw3];first | exact heap_alloc_new wA.drew _ | exact heap_alloc_new wA _);have c73:w3.cell? ⟨p,7,none⟩=some (.pointer (some ⟨hp,0,none⟩)):=zaa HB3.out c7;clear hw3)
   | (go_simp;go_at_call 117;refine(zqi hp hv hs wA.heap.size x _ (HR.out.held.hpx.kept HB3.out) hl HG3.out (by omega) (by intro e;have:=HVW.out _ e;omega)).mono ?_;rintro e w4 ⟨rfl,ho4⟩;have HO4:Hid (HpOk w3 hp hv (takeP lessM (fun m=>likeB x.b m.b) hs).2 w4):=ho4;clear ho4))
  all_goals
   (obtain⟨own1,hv1,hD1⟩:=zxy hc0 HRW.out HXW.out HAW.out HB3.out HO4.out HMM.out
    have HD1:Hid (DlAt w w4 own own1 c p {R with held:=(takeP lessM (fun m=>likeB x.b m.b) hs).2.map (·.b)} cg cc hp mv hv1 ev (takeP lessM (fun m=>likeB x.b m.b) hs).2 es x):=hD1
    clear hD1
    go_wp2_with fail
    go_meet
    exact⟨own1,hv1,HD1⟩)
 case rest=>
  obtain⟨own1,hv1,HD1⟩:=hcut
  clear HR HBK HX HBA c7 x0 x1 x2 x3 x4
  have x4:wc.cell? ⟨w.heap.size,4,none⟩=some (.slice x.ea x.b.effs.length x.ec):=HD1.out.box.cell 4
  go_wp2_with fail
  have HDs:Hid (DlAt w wc own own1 c p {R with held:=(takeP lessM (fun m=>likeB x.b m.b) hs).2.map (·.b),obs:=obsTo x.b R.obs 0} cg cc hp mv hv1 ev (takeP lessM (fun m=>likeB x.b m.b) hs).2 es x):=HD1.out
  clear HD1 x4
  go_loopw [18] (fun v wX=>∃(k:Nat) (own':Clr),k<=x.b.effs.length∧v=I k∧Hid (DlAt w wX own own' c p {R with held:=(takeP lessM (fun m=>likeB x.b m.b) hs).2.map (·.b),obs:=obsTo x.b R.obs k} cg cc hp mv hv1 ev (takeP lessM (fun m=>likeB x.b m.b) hs).2 es x)) (fun v _=>x.b.effs.length - (intOf v).toNat)
  case atStart=>exact⟨0,own1,Nat.zero_le _,rfl,HDs⟩
  case round=>
   obtain⟨k,own',hk,rfl,HDk⟩:=hrel
   clear HDs
   by_cases hlt:k<x.b.effs.length
   ·have hms:x.ms.length=x.b.effs.length:=by rw [HDk.out.bat.effs,List.length_map]
    obtain⟨ep,eq,hea,_,hec⟩:=ze0 HDk.out.bat.cells.at (by omega)
    obtain⟨g0,g1,g2,g3,g4,g5,g6⟩:=hec k (by omega)
    obtain⟨m,hm⟩:∃m,x.ms[k]'(by omega)=m:=⟨_,rfl⟩
    have HM:Hid (x.ms[k]'(by omega)=m):=hm
    clear hm
    rw [HM.out] at g0 g1 g2 g3 g4 g5 g6
    have HMM2:Hid (m∈x.ms):=by show m∈x.ms;rw [←HM.out];exact List.getElem_mem _
    have HEF:Hid (x.b.effs[k]?=some m.e):=by
     show _=_
     rw [HDk.out.bat.effs,List.getElem?_map,List.getElem?_eq_getElem (by omega),←HM.out]
     rfl
    obtain⟨hob0,hob1,hva1,hva2,hdl⟩:=hval m.e (List.mem_of_getElem? HEF.out)
    have HDT:Hid (At wr m.da (flat zab m.e.dots)):=(HDk.out.bat.dots m HMM2.out).at
    have hol2:(obsTo x.b R.obs k).length=8:=by rw [zkp];exact hobs
    obtain⟨mb,vs,rfl,hmo,hom,hvl,_,hobA⟩:∃mb vs,mv= .map (some mb)∧own' mb=c∧OmAt wr mb vs∧vs.length=8∧(obsTo x.b R.obs k).length=8∧∀j (h1:j<vs.length) (h2:j<(obsTo x.b R.obs k).length),ObAt wr own' (c+1+j) vs[j] (obsTo x.b R.obs k)[j]:=by
     rcases HDk.out.rp.obs with h | h
     ·have h8:=hol2;rw [show obsTo x.b R.obs k= [] from h.1] at h8;cases h8
     ·exact h
    have HOM:Hid (OmAt wr mb vs):=hom
    have HMO:Hid (own' mb=c):=hmo
    have HOBA:Hid (∀j (h1:j<vs.length) (h2:j<(obsTo x.b R.obs k).length),ObAt wr own' (c+1+j) vs[j] (obsTo x.b R.obs k)[j]):=hobA
    have HOBR:Hid (0<=m.e.ob∧m.e.ob<vs.length):=⟨hob0,by omega⟩
    obtain⟨v,hvs⟩:∃v,vs[m.e.ob.toNat]'(by omega)=v:=⟨_,rfl⟩
    have HVS:Hid (vs[m.e.ob.toNat]'(by omega)=v):=hvs
    clear hvs
    obtain⟨o,hoq⟩:∃o,(obsTo x.b R.obs k)[m.e.ob.toNat]'(by omega)=o:=⟨_,rfl⟩
    have HOQ0:Hid ((obsTo x.b R.obs k)[m.e.ob.toNat]'(by omega)=o):=hoq
    clear hoq
    have HOB:Hid (ObAt wr own' (c+1+m.e.ob.toNat) v o):=by
     have:=hobA m.e.ob.toNat (by omega) (by omega)
     rw [HVS.out,HOQ0.out] at this
     exact this
    have HBND:Hid (o.bound (N+k)):=by
     show Ob.bound _ _
     rw [←HOQ0.out]
     exact HBD.out k hk _ (List.getElem_mem _)
    have HSTEP:Hid (obsTo x.b R.obs (k+1)=zek (obsTo x.b R.obs k) (zbg x.b k) m.e):=by
     show _=_
     rw [obsTo,HEF.out]
    have HOQ:Hid (zek (obsTo x.b R.obs k) (zbg x.b k) m.e=(obsTo x.b R.obs k).set m.e.ob.toNat (o.take (zbg x.b k) m.e)):=by
     show _=_
     unfold zek
     rw [List.getElem?_eq_getElem (by omega),HOQ0.out]
    have hki:(k:Int)<x.b.effs.length:=by omega
    have hkN:N+k<=100000:=by omega
    clear hec hom hobA hval
    rw [hea]
    clear hea
    go_upto_region 5 with fail
    obtain⟨wB,hwB⟩:∃wB,wB=wr.alloc (.cells #[I m.e.op,I m.e.ob,I m.e.va,I m.e.ref.o,I m.e.ref.s,I m.e.ref.i, .slice m.da m.e.dots.length m.dc] 149):=⟨_,rfl⟩
    change Code.wp _ _ _ _ (wr.alloc (.cells #[I m.e.op,I m.e.ob,I m.e.va,I m.e.ref.o,I m.e.ref.s,I m.e.ref.i, .slice m.da m.e.dots.length m.dc] 149))
    rw [←hwB]
    have HBB:Hid (Below wr.heap.size wr wB):=by rw [hwB];exact(Below.refl _ _).alloc (Nat.le_refl _) _
    have HBX:Hid (Blk wB wr.heap.size #[I m.e.op,I m.e.ob,I m.e.va,I m.e.ref.o,I m.e.ref.s,I m.e.ref.i, .slice m.da m.e.dots.length m.dc] 149):=by rw [hwB];exact heap_alloc_new wr _
    have hszB:wr.heap.size<wB.heap.size:=HBX.out.lt
    clear hwB g0 g1 g2 g3 g4 g5 g6
    have HXB:Hid (Blk wB w.heap.size (bmC x) 124):=HDk.out.box.kept HBB.out HDk.out.box.lt
    obtain⟨tv,pv,hvf⟩:=ObAt.face HOB.out
    rw [hvf] at HVS HOB
    have HBD0:Hid (Blk wB.drew w.heap.size (bmC x) 124):=HXB.out
    have HBE0:Hid (Blk wB.drew wr.heap.size #[I m.e.op,I m.e.ob,I m.e.va,I m.e.ref.o,I m.e.ref.s,I m.e.ref.i, .slice m.da m.e.dots.length m.dc] 149):=HBX.out
    have y0:wB.drew.cell? ⟨w.heap.size,0,none⟩=some (I x.b.o):=HBD0.out.cell 0
    have y1:wB.drew.cell? ⟨w.heap.size,1,none⟩=some (I x.b.s):=HBD0.out.cell 1
    have y2:wB.drew.cell? ⟨w.heap.size,2,none⟩=some (I x.b.t):=HBD0.out.cell 2
    have y3:wB.drew.cell? ⟨w.heap.size,3,none⟩=some (.slice x.ca x.b.clock.length x.cc):=HBD0.out.cell 3
    have y4:wB.drew.cell? ⟨w.heap.size,4,none⟩=some (.slice x.ea x.b.effs.length x.ec):=HBD0.out.cell 4
    have q0:wB.drew.cell? ⟨wr.heap.size,0,none⟩=some (I m.e.op):=HBE0.out.cell 0
    have q1:wB.drew.cell? ⟨wr.heap.size,1,none⟩=some (I m.e.ob):=HBE0.out.cell 1
    have q2:wB.drew.cell? ⟨wr.heap.size,2,none⟩=some (I m.e.va):=HBE0.out.cell 2
    have q3:wB.drew.cell? ⟨wr.heap.size,3,none⟩=some (I m.e.ref.o):=HBE0.out.cell 3
    have q4:wB.drew.cell? ⟨wr.heap.size,4,none⟩=some (I m.e.ref.s):=HBE0.out.cell 4
    have q5:wB.drew.cell? ⟨wr.heap.size,5,none⟩=some (I m.e.ref.i):=HBE0.out.cell 5
    have q6:wB.drew.cell? ⟨wr.heap.size,6,none⟩=some (.slice m.da m.e.dots.length m.dc):=HBE0.out.cell 6
    have b4:wB.drew.cell? ⟨p,4,none⟩=some (.map (some mb)):=zaa HBB.out (HDk.out.rp.blk.cell 4)
    have hlk:=zd4 m.e.ob wB.drew mb vs (HOM.out.same (HBB.out.block mb HOM.out.lt)) HOBR.out
    rw [HVS.out] at hlk
    have HSM:Hid (o.small):=Ob.bound_small HBND.out hkN
    have hpwr:p<wr.heap.size:=HDk.out.rp.blk.lt
    have hxwr:w.heap.size<wr.heap.size:=HDk.out.box.lt
    go_region_held_law (fun w'=>w'.cell? ⟨w.heap.size,0,none⟩=some (I x.b.o)∧w'.cell? ⟨w.heap.size,1,none⟩=some (I x.b.s)∧w'.cell? ⟨w.heap.size,2,none⟩=some (I x.b.t)∧w'.cell? ⟨w.heap.size,3,none⟩=some (.slice x.ca x.b.clock.length x.cc)∧w'.cell? ⟨w.heap.size,4,none⟩=some (.slice x.ea x.b.effs.length x.ec)∧w'.cell? ⟨wr.heap.size,0,none⟩=some (I m.e.op)∧w'.cell? ⟨wr.heap.size,1,none⟩=some (I m.e.ob)∧w'.cell? ⟨wr.heap.size,2,none⟩=some (I m.e.va)∧w'.cell? ⟨wr.heap.size,3,none⟩=some (I m.e.ref.o)∧w'.cell? ⟨wr.heap.size,4,none⟩=some (I m.e.ref.s)∧w'.cell? ⟨wr.heap.size,5,none⟩=some (I m.e.ref.i)∧w'.cell? ⟨wr.heap.size,6,none⟩=some (.slice m.da m.e.dots.length m.dc)∧w'.cell? ⟨p,4,none⟩=some (.map (some mb))∧(Instr.lookup 120 (.map (some mb)) (I m.e.ob) false).run Tryz.prog w'= .ok (.iface tv pv) w') (exact⟨by assumption,by assumption,by assumption,by assumption,by assumption,by assumption,by assumption,by assumption,by assumption,by assumption,by assumption,by assumption,by assumption,by assumption⟩)
     (first | (refine zea rfl _ _ _ _ rfl (.iface tv pv) o (zbg x.b k) m (newTo own' wr.heap.size 0) (c+1+m.e.ob.toNat) (by simp [Act.eval]) (by simp [Act.eval]) (by simp [Act.eval]) (HOB.out.keep (fun b hl _=>HB3.out.block b hl) (zaf _ _ _)) HSM.out hva1 hva2 (HDT.out.kept HB3.out) hdl ?_;intro w5 hT5;have HT5:Hid (zd6 (newTo own' wr.heap.size 0) (c+1+m.e.ob.toNat) (.iface tv pv) (o.take (zbg x.b k) m.e) w3 (.returned (.tuple #[])) w5):=hT5;have HK5:Hid (Tch (fun j=>newTo own' wr.heap.size 0 j=c+1+m.e.ob.toNat) w3 w5):=(by obtain⟨_,_,_,_,hT⟩:=hT5;exact hT);clear hT5;have HX5:Hid (Blk w5 w.heap.size (bmC x) 124):=HK5.out.blk HX3.out (by show¬_=_;rw [zac _ _ _ _ hxwr,HDk.out.boxc];omega);have HE5:Hid (Blk w5 wr.heap.size #[I m.e.op,I m.e.ob,I m.e.va,I m.e.ref.o,I m.e.ref.s,I m.e.ref.i, .slice m.da m.e.dots.length m.dc] 149):=HK5.out.blk HE3.out (by show¬_=_;rw [zae _ _ _ _ (Nat.le_refl _)];omega);have w5y0:w5.cell? ⟨w.heap.size,0,none⟩=some (I x.b.o):=HX5.out.cell 0;have w5y1:w5.cell? ⟨w.heap.size,1,none⟩=some (I x.b.s):=HX5.out.cell 1;have w5y2:w5.cell? ⟨w.heap.size,2,none⟩=some (I x.b.t):=HX5.out.cell 2;have w5y3:w5.cell? ⟨w.heap.size,3,none⟩=some (.slice x.ca x.b.clock.length x.cc):=HX5.out.cell 3;have w5y4:w5.cell? ⟨w.heap.size,4,none⟩=some (.slice x.ea x.b.effs.length x.ec):=HX5.out.cell 4;have w5q0:w5.cell? ⟨wr.heap.size,0,none⟩=some (I m.e.op):=HE5.out.cell 0;have w5q1:w5.cell? ⟨wr.heap.size,1,none⟩=some (I m.e.ob):=HE5.out.cell 1;have w5q2:w5.cell? ⟨wr.heap.size,2,none⟩=some (I m.e.va):=HE5.out.cell 2;have w5q3:w5.cell? ⟨wr.heap.size,3,none⟩=some (I m.e.ref.o):=HE5.out.cell 3;have w5q4:w5.cell? ⟨wr.heap.size,4,none⟩=some (I m.e.ref.s):=HE5.out.cell 4;have w5q5:w5.cell? ⟨wr.heap.size,5,none⟩=some (I m.e.ref.i):=HE5.out.cell 5;have w5q6:w5.cell? ⟨wr.heap.size,6,none⟩=some (.slice m.da m.e.dots.length m.dc):=HE5.out.cell 6;have w5b4:w5.cell? ⟨p,4,none⟩=some (.map (some mb)):=HK5.out.cell w3b4 (by show¬_=_;rw [zac _ _ _ _ hpwr,HDk.out.rp.own1];omega);have hlk5:=zd4 m.e.ob w5 mb vs ((HOM.out.same (HB3.out.block mb HOM.out.lt)).same (HK5.out.block mb (Nat.lt_of_lt_of_le HOM.out.lt HB3.out.size) (by show¬_=_;rw [zac _ _ _ _ HOM.out.lt,HMO.out];omega))) HOBR.out;rw [HVS.out] at hlk5) | (go_at_call 114;refine(zhi x k _).mono ?_;rintro e w3 ⟨rfl,hb3⟩;have HB3:Hid (Below wr.heap.size wr w3):=HBB.out.drew.trans (hb3.mono (Nat.le_of_lt hszB));have HX3:Hid (Blk w3 w.heap.size (bmC x) 124):=HBD0.out.kept hb3 HBD0.out.lt;have HE3:Hid (Blk w3 wr.heap.size #[I m.e.op,I m.e.ob,I m.e.va,I m.e.ref.o,I m.e.ref.s,I m.e.ref.i, .slice m.da m.e.dots.length m.dc] 149):=HBE0.out.kept hb3 HBE0.out.lt;have HSZ3:Hid (wr.heap.size<w3.heap.size):=HE3.out.lt;clear hb3;have w3y0:w3.cell? ⟨w.heap.size,0,none⟩=some (I x.b.o):=HX3.out.cell 0;have w3y1:w3.cell? ⟨w.heap.size,1,none⟩=some (I x.b.s):=HX3.out.cell 1;have w3y2:w3.cell? ⟨w.heap.size,2,none⟩=some (I x.b.t):=HX3.out.cell 2;have w3y3:w3.cell? ⟨w.heap.size,3,none⟩=some (.slice x.ca x.b.clock.length x.cc):=HX3.out.cell 3;have w3y4:w3.cell? ⟨w.heap.size,4,none⟩=some (.slice x.ea x.b.effs.length x.ec):=HX3.out.cell 4;have w3q0:w3.cell? ⟨wr.heap.size,0,none⟩=some (I m.e.op):=HE3.out.cell 0;have w3q1:w3.cell? ⟨wr.heap.size,1,none⟩=some (I m.e.ob):=HE3.out.cell 1;have w3q2:w3.cell? ⟨wr.heap.size,2,none⟩=some (I m.e.va):=HE3.out.cell 2;have w3q3:w3.cell? ⟨wr.heap.size,3,none⟩=some (I m.e.ref.o):=HE3.out.cell 3;have w3q4:w3.cell? ⟨wr.heap.size,4,none⟩=some (I m.e.ref.s):=HE3.out.cell 4;have w3q5:w3.cell? ⟨wr.heap.size,5,none⟩=some (I m.e.ref.i):=HE3.out.cell 5;have w3q6:w3.cell? ⟨wr.heap.size,6,none⟩=some (.slice m.da m.e.dots.length m.dc):=HE3.out.cell 6;have w3b4:w3.cell? ⟨p,4,none⟩=some (.map (some mb)):=zaa HB3.out (HDk.out.rp.blk.cell 4);have hlk3:=zd4 m.e.ob w3 mb vs (HOM.out.same (HB3.out.block mb HOM.out.lt)) HOBR.out;rw [HVS.out] at hlk3))
    all_goals
     (obtain⟨own5,hD5⟩:=DlAt.took (k:=m.e.ob.toNat) hc0 (HDk.out.below HB3.out) (HOM.out.same (HB3.out.block mb HOM.out.lt)) ((zac _ _ _ _ HOM.out.lt).trans HMO.out) hvl hol2 (by omega) (fun j h1 h2=>(HOBA.out j h1 h2).keep (fun b hl _=>HB3.out.block b hl) (zaf _ _ _)) (by rw [HVS.out];exact HT5.out)
      have HD5:Hid (DlAt w w5 own own5 c p {R with held:=(takeP lessM (fun m=>likeB x.b m.b) hs).2.map (·.b),obs:=obsTo x.b R.obs (k+1)} cg cc hp (.map (some mb)) hv1 ev (takeP lessM (fun m=>likeB x.b m.b) hs).2 es x):=by
       show DlAt _ _ _ _ _ _ _ _ _ _ _ _ _ _ _ _
       rw [HSTEP.out,HOQ.out]
       exact hD5
      clear hD5 HT5
      go_wp2_with fail
      go_roundw
      case rel=>exact⟨k+1,own5,hlt,by go_num,HD5⟩
      case measure=>simp [intOf];omega)
   ·have hkl:k=x.b.effs.length:=by omega
    have HDe:Hid (DlAt w wr own own' c p {R with held:=(takeP lessM (fun m=>likeB x.b m.b) hs).2.map (·.b),obs:=obsTo x.b R.obs x.b.effs.length} cg cc hp mv hv1 ev (takeP lessM (fun m=>likeB x.b m.b) hs).2 es x):=by rw [hkl] at HDk;exact HDk
    have hki:¬(k:Int)<x.b.effs.length:=by omega
    clear HDk hkl
    have y0:wr.cell? ⟨w.heap.size,0,none⟩=some (I x.b.o):=HDe.out.box.cell 0
    have y1:wr.cell? ⟨w.heap.size,1,none⟩=some (I x.b.s):=HDe.out.box.cell 1
    have y2:wr.cell? ⟨w.heap.size,2,none⟩=some (I x.b.t):=HDe.out.box.cell 2
    have b2:wr.cell? ⟨p,2,none⟩=some (.slice (some ⟨cg,0,none⟩) R.clock.length cc):=HDe.out.rp.blk.cell 2
    have hoi:x.b.o<(R.clock.length:Int):=ho1
    have hon:x.b.o.toNat<R.clock.length:=by omega
    have d0:wr.cell? ⟨cg,x.b.o.toNat,none⟩=some (I (R.clock.getD x.b.o.toNat 0)):=by
     have:=HDe.out.rp.clkAt.row x.b.o.toNat hon
     rw [this];simp [hon]
    have z0:wr.frozen? ⟨cg,x.b.o.toNat,none⟩=false:=HDe.out.rp.clk.frozen _
    obtain⟨dk,HDK⟩:∃dk,Hid (R.clock.getD x.b.o.toNat 0=dk):=⟨_,rfl⟩
    rw [HDK.out] at d0
    go_wp2_with fail
    go_region
    obtain⟨w7,hw7⟩:∃w7,w7=(wr.setCell ⟨cg,x.b.o.toNat,none⟩ (I x.b.s)).drew:=⟨_,rfl⟩
    change Exit.then _ _ Exit.normal _ (wr.setCell ⟨cg,x.b.o.toNat,none⟩ (I x.b.s)).drew
    rw [←hw7]
    have HR7:Hid (RpIn w7 own' c p {R with held:=(takeP lessM (fun m=>likeB x.b m.b) hs).2.map (·.b),obs:=obsTo x.b R.obs x.b.effs.length,clock:=R.clock.set x.b.o.toNat x.b.s} cg cc hp mv hv1 ev (takeP lessM (fun m=>likeB x.b m.b) hs).2 es):=by
     rw [hw7]
     exact(HDe.out.rp.setClk hc0 x.b.o.toNat x.b.s).keep (fun _ _ _=>rfl) (fun _ _ _ _ _ _=>rfl) (Ext.refl _ _)
    have hcol:own' cg=c:=HDe.out.rp.own2
    have hcp:own' p=c:=HDe.out.rp.own1
    have hcgn:w.heap.size ≠ cg:=by
     intro e
     have:=HDe.out.boxc
     rw [e,hcol] at this
     omega
    have HX7:Hid (Blk w7 w.heap.size (bmC x) 124):=by rw [hw7];exact HDe.out.box.other hcgn _
    have HT7:Hid (TchR own c w w7):=by
     rw [hw7]
     refine(HDe.out.tch.setCell ⟨cg,x.b.o.toNat,none⟩ _ ?_).drew
     rcases Nat.lt_or_ge cg w.heap.size with h | h
     ·have h9:=HDe.out.ext cg h
      exact Or.inl ⟨by show c<=own cg;omega,by show own cg<=c+9;omega⟩
     ·right;exact h
    clear hw7 y0 y1 y2 b2 d0 z0 HDK
    have y2:w7.cell? ⟨w.heap.size,2,none⟩=some (I x.b.t):=HX7.out.cell 2
    have b3:w7.cell? ⟨p,3,none⟩=some (I R.time):=HR7.out.blk.cell 3
    have z3:w7.frozen? ⟨p,3,none⟩=false:=HR7.out.blk.frozen 3
    go_wp2_with fail
    go_region
    obtain⟨w8,hw8⟩:∃w8,w8=(w7.setCell ⟨p,3,none⟩ (I (max R.time x.b.t))).drew:=⟨_,rfl⟩
    change Exit.then _ _ Exit.normal _ (w7.setCell ⟨p,3,none⟩ (I (max R.time x.b.t))).drew
    rw [←hw8]
    have HR8:Hid (RpIn w8 own' c p {R with held:=(takeP lessM (fun m=>likeB x.b m.b) hs).2.map (·.b),obs:=obsTo x.b R.obs x.b.effs.length,clock:=R.clock.set x.b.o.toNat x.b.s,time:=max R.time x.b.t} cg cc hp mv hv1 ev (takeP lessM (fun m=>likeB x.b m.b) hs).2 es):=by
     rw [hw8]
     exact(HR7.out.self (R':={R with held:=(takeP lessM (fun m=>likeB x.b m.b) hs).2.map (·.b),obs:=obsTo x.b R.obs x.b.effs.length,clock:=R.clock.set x.b.o.toNat x.b.s,time:=max R.time x.b.t}) hc0 (zbn (Tch.refl _ _) 3 _) (HR7.out.blk.set 3 _) rfl rfl rfl rfl).keep (fun _ _ _=>rfl) (fun _ _ _ _ _ _=>rfl) (Ext.refl _ _)
    have HPW:Hid (p<w.heap.size):=hpw
    have HOP:Hid (own p=c):=by have h9:=HDe.out.ext p hpw;show own p=c;omega
    have HT8:Hid (TchR own c w w8):=by
     rw [hw8]
     refine(HT7.out.setCell ⟨p,3,none⟩ _ (Or.inl ⟨?_, ?_⟩)).drew
     ·show c<=own p;rw [HOP.out];omega
     ·show own p<=c+9;rw [HOP.out];omega
    have HEX:Hid (Ext own own' w.heap.size):=HDe.out.ext
    clear hw8 y2 b3 z3 HR7 HT7 HX7 HDe
    go_wp2_with fail
    refine(zw7 own' c p _ cg cc hp mv hv1 ev (takeP lessM (fun m=>likeB x.b m.b) hs).2 es fr w8 hc0 HR8.out hlog).mono ?_
    rintro e w9 ⟨rfl,ho9⟩
    have HE:Hid (DelOk w own c p (zch R x.b fr ((takeP lessM (fun m=>likeB x.b m.b) hs).2.map (·.b))) cg cc hp mv ev (takeP lessM (fun m=>likeB x.b m.b) hs).2 es w9):=by
     refine⟨own',hv1,HEX.out,ho9.1,HT8.out.trans ho9.2 (fun _ _ h=>h) (fun k hk e=> ?_)⟩
     subst e
     exact⟨by show c<=own k;rw [HOP.out];omega,by show own k<=c+9;rw [HOP.out];omega⟩
    clear ho9
    go_wp2
    go_end0
    exact⟨rfl,HE.out⟩
end Go.Proofs.YtfmcngncaffloaaGreatDoor
