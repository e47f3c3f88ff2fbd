import Derived.Test.YtfmcngncaffloabGreatDoorJ28RpM
set_option maxHeartbeats 1600000
namespace Go.Proofs.YtfmcngncaffloabGreatDoor
open Go.RowKit Go.Proofs.Tryz Wv
set_option maxRecDepth 100000
theorem zq4(own:Clr)(c p:Nat)(R:Rp)(cg cc hp:Nat)(mv hv ev:Value)(hs:List Bm)(es:List Em)(w:World)(h:RpIn w own c p R cg cc hp mv hv ev hs es)(h1:R.st ≠ 1):
  Calls prog 41 #[.pointer (some ⟨p,0,none⟩)] w fun e w'=>e= .returned (.tuple #[I 0, .string ⟨#[]⟩,I 7])∧w'=w:=by
 have c1:w.cell? ⟨p,1,none⟩=some (I R.st):=h.blk.cell 1;have hb:(R.st==1)=false:=by simp [h1]
 clear h h1;go_enter func41,ntmps41;go_wp2_with fail
 exact bodyPost_ret (v:= .tuple #[I 0, .string ⟨#[]⟩,I 7]) (by simp [results,Tryz.results41,go_sem]) rfl ⟨rfl,rfl⟩
def CmOk(w:World)(own:Clr)(c p:Nat)(R:Rp)(cg cc hp:Nat)(mv:Value)(hs:List Bm)(w':World):Prop:=∃own' hv',Ext own own' w.heap.size∧RpIn w' own' c p R cg cc hp mv hv' (.slice none 0 0) hs []∧TchR own c w w'
structure CmAt(w wr:World)(own own':Clr)(c p:Nat)(R:Rp)(cg cc hp:Nat)(mv hv:Value)(hs:List Bm)(x:Bm)(bx:Nat):Prop where
 rp:RpIn wr own' c p R cg cc hp mv hv (.slice none 0 0) hs []
 bat:BatK (fun d=>d=0∨d=c+10) wr own' x
 box:Blk wr bx (bmC x) 134
 boxc:own' bx=0
 ext:Ext own own' w.heap.size
 tch:TchR own c w wr
theorem CmAt.below{w wr w2:World}{own own':Clr}{c p:Nat}{R:Rp}{cg cc hp:Nat}{mv hv:Value}{hs:List Bm}{x:Bm}{bx:Nat}(h:CmAt w wr own own' c p R cg cc hp mv hv hs x bx)(hb:Below wr.heap.size wr w2):CmAt w w2 own (newTo own' wr.heap.size 0) c p R cg cc hp mv hv hs x bx:=
 ⟨h.rp.keep (fun b hl _=>hb.block b hl) (fun _ _ _ b hl _=>hb.block b hl) (zab _ _ _),h.bat.keep (fun _ _ b hl _=>hb.block b hl) (zab _ _ _),h.box.kept hb h.box.lt,(zae _ _ _ _ h.box.lt).trans h.boxc,h.ext.trans (zab _ _ _) h.tch.size,h.tch.then (Tch.below hb)⟩
theorem zq6{w w1 w2 w3:World}{own:Clr}{c p:Nat}{R:Rp}{cg cc hp:Nat}{mv hv:Value}{hs:List Bm}{x:Bm}(hc0:0<c)(hp0:own p=c)(hpw:p<w.heap.size)(hB:Below w.heap.size w w1)(hK:BatK (fun d=>d=0∨d=c+10) w1 (newTo own w.heap.size 0) x)(h2:w2=w1.alloc (.cells (bmC x) 134))(hS:zb2 w2 (newTo own w.heap.size 0) c p R cg cc hp mv hv (.slice none 0 0) hs [] w3):CmAt w w3 own (newTo own w.heap.size 0) c p R cg cc hp mv hv hs x w1.heap.size:=by
 obtain⟨hR,hT⟩:=hS;have hBA:Below w1.heap.size w1 w2:=by rw [h2];exact(Below.refl _ _).alloc (ac _) _
 have hX:Blk w2 w1.heap.size (bmC x) 134:=by rw [h2];exact heap_alloc_new w1 _
 have hpc:newTo own w.heap.size 0 p=c:=(zae _ _ _ _ hpw).trans hp0;have hs1:=hB.size;refine⟨hR,(hK.keep (fun _ _ b hl _=>hBA.block b hl) (Ext.refl _ _)).keep (fun d hd b hl ho=>hT.block b hl (fun e=> ?_)) (Ext.refl _ _),hT.blk hX (fun e=>by have e2:w1.heap.size=p:=e;omega),zaf _ _ _ _ hs1,zab _ _ _, ?_⟩
 ·rw [e,hpc] at ho
  rcases hd with hd | hd<;>omega
 ·exact(Tch.below (hB.trans (hBA.mono hs1))).trans hT (fun _ _ h=>h) (fun k _ h=>by
   have e:k=p:=h;subst e
   exact⟨by omega,by omega⟩)
theorem zq3(own:Clr)(c p:Nat)(R:Rp)(cg cc hp:Nat)(mv hv ev:Value)(hs:List Bm)(es:List Em)(w:World)(hc0:0<c)(h:RpIn w own c p R cg cc hp mv hv ev hs es)(h1:R.st=1)(he:R.effs= [])
  (hl:R.clock.length<=1000) (hn0:0<=R.n) (hn1:R.n<R.clock.length) (hs0:∀z∈R.clock,0<=z∧z<=1000000) (ht0:0<=R.time) (ht1:R.time<=1000000000):
  Calls prog 41 #[.pointer (some ⟨p,0,none⟩)] w fun e w'=>e= .returned (.tuple #[I 0, .string ⟨#[]⟩,I 0])∧CmOk w own c p (endR R) cg cc hp mv hs w':=by
 have HRW:Hid (RpIn w own c p R cg cc hp mv hv ev hs es):=h;have c1:w.cell? ⟨p,1,none⟩=some (I R.st):=h.blk.cell 1;have hb:(R.st==1)=true:=by simp [h1]
 have HEE:Hid (R.effs= []):=he;have HS0:Hid (∀z∈R.clock,0<=z∧z<=1000000):=hs0;clear h h1 he hs0;go_enter func41,ntmps41;go_wp2_with fail
 refine(zc8 own c p R cg cc hp mv hv ev hs es w HRW.out hl hn0 hn1 HS0.out ht0 ht1).mono ?_;rintro e w1 ⟨x,rfl,hxb,hxm,hB1,hK1⟩;have HXL:Hid (x.b.effs.length=0):=by show _=_;rw [hxb];show R.effs.length=0;rw [HEE.out];rfl
 have HB1:Hid (Below w.heap.size w w1):=hB1;have HK1:Hid (BatK (fun d=>d=0∨d=c+10) w1 (newTo own w.heap.size 0) x):=hK1;clear hxb hxm hB1 hK1 c1 hb hl hn0 hn1 ht0 ht1;obtain⟨w2,hw2⟩:∃w2,w2=w1.alloc (.cells (bmC x) 134):=⟨_,rfl⟩
 have HB2:Hid (Below w.heap.size w w2):=by rw [hw2];exact HB1.out.alloc HB1.out.size _
 go_wp2_with fail
 change Calls _ _ _ (w1.alloc (.cells (bmC x) 134)) _;rw [←hw2];refine(zj6 (newTo own w.heap.size 0) c p R cg cc hp mv hv ev hs es w2 hc0 (HRW.out.keep (fun b hb _=>HB2.out.block b hb) (fun _ _ _ b hb _=>HB2.out.block b hb) (zab _ _ _))).mono ?_;rintro e w3 ⟨rfl,hS3⟩;have HD:Hid (CmAt w w3 own (newTo own w.heap.size 0) c p (endR R) cg cc hp mv hv hs x w1.heap.size):=zq6 hc0 HRW.out.own1 HRW.out.blk.lt HB1.out HK1.out hw2 hS3;clear hS3 hw2 HB2 HB1 HK1;have y4:w3.cell? ⟨w1.heap.size,4,none⟩=some (.slice x.ea x.b.effs.length x.ec):=HD.out.box.cell 4;have hzi:(x.b.effs.length:Int)=0:=by rw [HXL.out];rfl
 go_wp2_with fail
 exact bodyPost_ret (v:= .tuple #[I 0, .string ⟨#[]⟩,I 0]) (by simp [results,Tryz.results41,go_sem]) rfl ⟨rfl,_,_,HD.out.ext,HD.out.rp,HD.out.tch⟩
structure Env(w0 w:World)(own:Clr)(eb ef:Addr):Prop where
 gl:Gl w0 eb ef
 pw:Pw w0
 bel:Below w0.heap.size w0 w
 own0:∀b,b<w0.heap.size->own b=0
theorem Env.tch{F:Nat->Prop}{w0 w w':World}{own own':Clr}{eb ef:Addr}(h:Env w0 w own eb ef)(hT:Tch F w w')(hF:∀k,own k=0->¬F k)(hE:Ext own own' w.heap.size):Env w0 w' own' eb ef:=
 ⟨h.gl,h.pw,h.bel.trans (hT.toBelow h.bel.size (fun k hk=>hF k (h.own0 k hk))),fun b hb=>(hE b (Nat.lt_of_lt_of_le hb h.bel.size)).trans (h.own0 b hb)⟩
def zjk(R:Rp)(hs:List Bt):Rp:=syncR (zam (endR R) (pendB R) (frameB (pendB R)) hs)
theorem cm_end{w w4 w5 w6:World}{own own' own5:Clr}{c p:Nat}{R R3:Rp}{cg cc hp:Nat}{mv hv hv5:Value}{hs hs2:List Bm}{x:Bm}{bx:Nat}(hc0:0<c)(h:CmAt w w4 own own' c p R cg cc hp mv hv hs x bx)(hE:Ext own' own5 w4.heap.size)(hT:TchR own' c w4 w5)
  (hS:zb2 w5 own5 c p R3 cg cc hp mv hv5 (.slice none 0 0) hs2 [] w6):CmOk w own c p R3 cg cc hp mv hs2 w6∧Blk w6 bx (bmC x) 134:=by
 obtain⟨hR6,hT6⟩:=hS
 have hne:bx ≠ p:=fun e=>by
  have h1:=h.boxc;have h2:=h.rp.own1;rw [e] at h1;omega
 have hX5:Blk w5 bx (bmC x) 134:=hT.blk h.box (by rintro⟨h1,_⟩;rw [h.boxc] at h1;omega);refine⟨⟨own5,hv5,h.ext.trans hE h.tch.size,hR6, ?_⟩,hT6.blk hX5 hne⟩;have h5:TchR own c w w5:=h.tch.trans hT (fun _ _ h=>h) (fun k hk hk2=>by rw [h.ext k hk] at hk2;exact hk2);refine h5.trans hT6 (fun _ _ h=>h) (fun k hk e=> ?_);have e2:k=p:=e;subst e2;have h1:=(h.ext _ hk).symm.trans h.rp.own1;exact⟨by omega,by omega⟩
theorem zq2(own:Clr)(c p:Nat)(R:Rp)(cg cc hp:Nat)(mv hv ev:Value)(hs:List Bm)(es:List Em)(w w0:World)(eb ef:Addr)(hI:zaj)(hen:Env w0 w own eb ef)(hc0:0<c)(h:RpIn w own c p R cg cc hp mv hv ev hs es)(h1:R.st=1)(he:R.effs ≠ [])
  (hl:R.clock.length<=1000) (hn0:0<=R.n) (hn1:R.n<R.clock.length) (hs0:∀z∈R.clock,0<=z∧z<=1000000) (ht0:0<=R.time) (ht1:R.time<=1000000000) (hisb:Wv.isB (pendB R)=true)
  (hhs:hs.length<=1000) (hlog:R.log.length+(frameB (pendB R)).length<=100000000) (hobs:R.obs.length=8) (N:Nat) (hN:N+R.effs.length<=100000) (hbd:∀o∈R.obs,o.bound N) (hval:∀e∈R.effs,0<=e.ob∧e.ob<8∧ -1000<=e.va∧e.va<=1000∧e.dots.length<=1048576):
  Calls prog 41 #[.pointer (some ⟨p,0,none⟩)] w fun e w'=>e= .returned (.tuple #[I (pendB R).s, .string ⟨(frameB (pendB R)).toArray⟩,I 0])∧CmOk w own c p (zjk R ((takeP lessM (fun m=>likeB (pendB R) m.b) hs).2.map (·.b))) cg cc hp mv (takeP lessM (fun m=>likeB (pendB R) m.b) hs).2 w':=by
 have HRW:Hid (RpIn w own c p R cg cc hp mv hv ev hs es):=h;have HEN:Hid (Env w0 w own eb ef):=hen;have c1:w.cell? ⟨p,1,none⟩=some (I R.st):=h.blk.cell 1;have hb:(R.st==1)=true:=by simp [h1]
 have HEE:Hid (0<R.effs.length):=List.length_pos_iff.2 he;have HS0:Hid (∀z∈R.clock,0<=z∧z<=1000000):=hs0;have HVL:Hid (∀e∈R.effs,0<=e.ob∧e.ob<8∧ -1000<=e.va∧e.va<=1000∧e.dots.length<=1048576):=hval;have HBD:Hid (∀o∈R.obs,o.bound N):=hbd;have HLG:Hid (R.log.length+(frameB (pendB R)).length<=100000000):=hlog;have HIB:Hid (Wv.isB (pendB R)=true):=hisb;have HOB:Hid (R.obs.length=8):=hobs;clear h h1 he hs0 hen hval hbd hlog hisb hobs;go_enter func41,ntmps41;go_wp2_with fail
 refine(zc8 own c p R cg cc hp mv hv ev hs es w HRW.out hl hn0 hn1 HS0.out ht0 ht1).mono ?_;rintro e w1 ⟨x,rfl,hxb,hxm,hB1,hK1⟩;have HXB:Hid (pendB R=x.b):=hxb.symm;have HXE:Hid (x.b.effs=R.effs):=by show _=_;rw [hxb];rfl
 have HXO:Hid (x.b.o=R.n):=by show _=_;rw [hxb];rfl
 have HB1:Hid (Below w.heap.size w w1):=hB1;have HK1:Hid (BatK (fun d=>d=0∨d=c+10) w1 (newTo own w.heap.size 0) x):=hK1;clear hxb hxm hB1 hK1 c1 hb hl ht0 ht1;obtain⟨w2,hw2⟩:∃w2,w2=w1.alloc (.cells (bmC x) 134):=⟨_,rfl⟩
 have HB2:Hid (Below w.heap.size w w2):=by rw [hw2];exact HB1.out.alloc HB1.out.size _
 go_wp2_with fail
 change Calls _ _ _ (w1.alloc (.cells (bmC x) 134)) _;rw [←hw2];refine(zj6 (newTo own w.heap.size 0) c p R cg cc hp mv hv ev hs es w2 hc0 (HRW.out.keep (fun b hb _=>HB2.out.block b hb) (fun _ _ _ b hb _=>HB2.out.block b hb) (zab _ _ _))).mono ?_;rintro e w3 ⟨rfl,hS3⟩;have HD:Hid (CmAt w w3 own (newTo own w.heap.size 0) c p (endR R) cg cc hp mv hv hs x w1.heap.size):=zq6 hc0 HRW.out.own1 HRW.out.blk.lt HB1.out HK1.out hw2 hS3;clear hS3 hw2 HB2 HB1 HK1;have y0:w3.cell? ⟨w1.heap.size,0,none⟩=some (I x.b.o):=HD.out.box.cell 0;have y1:w3.cell? ⟨w1.heap.size,1,none⟩=some (I x.b.s):=HD.out.box.cell 1;have y2:w3.cell? ⟨w1.heap.size,2,none⟩=some (I x.b.t):=HD.out.box.cell 2;have y3:w3.cell? ⟨w1.heap.size,3,none⟩=some (.slice x.ca x.b.clock.length x.cc):=HD.out.box.cell 3;have y4:w3.cell? ⟨w1.heap.size,4,none⟩=some (.slice x.ea x.b.effs.length x.ec):=HD.out.box.cell 4;have hzi:¬(x.b.effs.length:Int)=0:=by have:=HEE.out;rw [HXE.out];omega
 have HEN3:Hid (Env w0 w3 (newTo own w.heap.size 0) eb ef):=HEN.out.tch HD.out.tch (fun k hk h=>by omega) HD.out.ext;go_wp2_with fail
 refine(zfw x w3 eb ef hI (HEN3.out.gl.kept HEN3.out.bel) (HEN3.out.pw.kept HEN3.out.bel) HD.out.bat.at (by rw [←HXB.out];exact HIB.out)).mono ?_;rintro e w4 ⟨rfl,hB4⟩;have HD4:Hid (CmAt w w4 own (newTo (newTo own w.heap.size 0) w3.heap.size 0) c p (endR R) cg cc hp mv hv hs x w1.heap.size):=HD.out.below hB4;clear hB4 HD HEN3 HEN y0 y1 y2 y3 y4;have y0:w4.cell? ⟨w1.heap.size,0,none⟩=some (I x.b.o):=HD4.out.box.cell 0;have y1:w4.cell? ⟨w1.heap.size,1,none⟩=some (I x.b.s):=HD4.out.box.cell 1;have y2:w4.cell? ⟨w1.heap.size,2,none⟩=some (I x.b.t):=HD4.out.box.cell 2;have y3:w4.cell? ⟨w1.heap.size,3,none⟩=some (.slice x.ca x.b.clock.length x.cc):=HD4.out.box.cell 3;have y4:w4.cell? ⟨w1.heap.size,4,none⟩=some (.slice x.ea x.b.effs.length x.ec):=HD4.out.box.cell 4;go_wp2_with fail
 refine(zea (newTo (newTo own w.heap.size 0) w3.heap.size 0) c p (endR R) cg cc hp mv hv (.slice none 0 0) hs [] x (frameB x.b) w4 hc0 HD4.out.rp HD4.out.bat hhs (by rw [←HXB.out];exact HLG.out) (by rw [HXO.out];exact hn0) (by rw [HXO.out];exact hn1) HOB.out N (by rw [HXE.out];exact hN) HBD.out (by rw [HXE.out];exact HVL.out)).mono ?_;rintro e w5 ⟨rfl,hD5⟩;obtain⟨own5,hv5,hE5,hR5,hT5⟩:=hD5;have HE5:Hid (Ext (newTo (newTo own w.heap.size 0) w3.heap.size 0) own5 w4.heap.size):=hE5;have HT5:Hid (TchR (newTo (newTo own w.heap.size 0) w3.heap.size 0) c w4 w5):=hT5;have HC5:Hid (Calls prog 74 #[.pointer (some ⟨p,5,none⟩)] w5 fun e w'=>e= .returned (.tuple #[])∧zb2 w5 own5 c p (syncR (zam (endR R) x.b (frameB x.b) ((takeP lessM (fun m=>likeB x.b m.b) hs).2.map (·.b)))) cg cc hp mv hv5 (.slice none 0 0) (takeP lessM (fun m=>likeB x.b m.b) hs).2 [] w'):=zf5 own5 c p _ cg cc hp mv hv5 _ _ _ w5 hc0 hR5;clear hE5 hR5 hT5 y0 y1 y2 y3 y4;go_wp2_with fail
 refine HC5.out.mono ?_;rintro e w6 ⟨rfl,hS6⟩;have HF:Hid (CmOk w own c p (syncR (zam (endR R) x.b (frameB x.b) ((takeP lessM (fun m=>likeB x.b m.b) hs).2.map (·.b)))) cg cc hp mv (takeP lessM (fun m=>likeB x.b m.b) hs).2 w6∧Blk w6 w1.heap.size (bmC x) 134):=cm_end hc0 HD4.out HE5.out HT5.out hS6;clear hS6 HC5 HE5 HT5 HD4;have y1:w6.cell? ⟨w1.heap.size,1,none⟩=some (I x.b.s):=HF.out.2.cell 1;go_wp2_with fail
 refine bodyPost_ret (v:= .tuple #[I x.b.s, .string ⟨(frameB x.b).toArray⟩,I 0]) (by simp [results,Tryz.results41,go_sem]) rfl ?_;unfold zjk;rw [HXB.out];exact⟨rfl,HF.out.1⟩
theorem zzu (v : Value) (w : World) : (method 483 195 v "Effect").run prog w = .ok (241, v) w := by kernel_rfl
theorem zzt (v : Value) (w : World) : (method 483 205 v "Effect").run prog w = .ok (307, v) w := by kernel_rfl
def Ob.says:Ob->Int->Int->Int->Int×Dt×Int
 | .counter _,_,x,_=>((addE x).1,⟨0,0,0⟩,(addE x).2)
 | .list ls,op,x,y=>listE ls op x y
 | _,_,_,_=>(0,⟨0,0,0⟩,0)
theorem do_idle(own:Clr)(c p:Nat)(R:Rp)(cg cc hp:Nat)(mv hv ev:Value)(hs:List Bm)(es:List Em)(op k x y:Int)(w:World)(h:RpIn w own c p R cg cc hp mv hv ev hs es)(h1:R.st ≠ 1):
  Calls prog 40 #[.pointer (some ⟨p,0,none⟩),I op,I k,I x,I y] w fun e w'=>e= .returned (I 7)∧w'=w:=by
 have c1:w.cell? ⟨p,1,none⟩=some (I R.st):=h.blk.cell 1;have hb:(R.st==1)=false:=by simp [h1]
 clear h h1;go_enter func40,ntmps40;go_wp2;go_ret;exact⟨rfl,rfl⟩
theorem do_none(own:Clr)(c p:Nat)(R:Rp)(cg cc hp:Nat)(mv hv ev:Value)(hs:List Bm)(es:List Em)(op k x y:Int)(w:World)(h:RpIn w own c p R cg cc hp mv hv ev hs es)(h1:R.st=1)(hobs:R.obs.length=8)(hk:¬(0<=k∧k<8)):
  Calls prog 40 #[.pointer (some ⟨p,0,none⟩),I op,I k,I x,I y] w fun e w'=>e= .returned (I 8)∧Below w.heap.size w w':=by
 have c1:w.cell? ⟨p,1,none⟩=some (I R.st):=h.blk.cell 1;have hb:(R.st==1)=true:=by simp [h1]
 have HR:Hid (RpIn w own c p R cg cc hp mv hv ev hs es):=h;clear h h1;go_enter func40,ntmps40;go_wp2_with fail
 refine(zyp own c p R cg cc hp mv hv ev hs es k w HR.out hobs hk).mono ?_;rintro e w1 ⟨rfl,hB⟩;have HB:Hid (Below w.heap.size w w1):=hB;clear hB hk hobs c1 HR;go_wp2;go_ret;exact⟨rfl,HB.out⟩
theorem Env.below{w0 w w':World}{own:Clr}{eb ef:Addr}(h:Env w0 w own eb ef)(hB:Below w.heap.size w w'):Gl w' eb ef:=h.gl.kept (h.bel.trans (hB.mono h.bel.size))
theorem do_badop(own:Clr)(c p:Nat)(R:Rp)(cg cc hp:Nat)(mv hv ev:Value)(hs:List Bm)(es:List Em)(op x y:Int)(k:Nat)(o:Ob)(w w0:World)(eb ef:Addr)(hen:Env w0 w own eb ef)(h:RpIn w own c p R cg cc hp mv hv ev hs es)(h1:R.st=1)(hop:¬(1<=op∧op<=6))
  (hk:R.obs[k]?=some o) (hobs:R.obs.length=8)
  (hl:R.clock.length<=1000) (hn0:0<=R.n) (hn1:R.n<R.clock.length) (hs0:∀z∈R.clock,0<=z∧z<=1000000) (ht0:0<=R.time) (ht1:R.time<=1000000000)
  (N:Nat) (hN:N+R.effs.length<=100000) (hbd:o.bound N) (hval:∀e∈R.effs, -1000<=e.va∧e.va<=1000∧e.dots.length<=1048576):
  Calls prog 40 #[.pointer (some ⟨p,0,none⟩),I op,I k,I x,I y] w fun e w'=>e= .returned (I 9)∧Below w.heap.size w w':=by
 have c1:w.cell? ⟨p,1,none⟩=some (I R.st):=h.blk.cell 1;have hb:(R.st==1)=true:=by simp [h1]
 have HC:Hid (Calls prog 66 #[.pointer (some ⟨p,0,none⟩),I k] w fun e w'=>SeeOk own (seeTo (pendB R) k o R.effs.length) w e w'):=zez own c p R cg cc hp mv hv ev hs es k o w h hk hobs hl hn0 hn1 hs0 ht0 ht1 N hN hbd hval;have HEN:Hid (Env w0 w own eb ef):=hen;have HOP:Hid (¬(1<=op∧op<=6)):=hop;clear h h1 hen hk hobs hl hn0 hn1 hs0 ht0 ht1 hN hbd hval hop;go_enter func40,ntmps40;go_wp2_with fail
 refine HC.out.mono ?_;rintro e w1 ⟨v,d,own',rfl,hE,hO,hB⟩;have HB:Hid (Below w.heap.size w w1):=hB;obtain⟨tw,pw,hvf⟩:=ObAt.face hO;subst hvf;clear hE hO hB HC;go_wp2_with fail
 refine(zh1 op w1 eb ef (HEN.out.below HB.out) HOP.out).mono ?_;rintro e w2 ⟨⟨s,rfl⟩,hB2⟩;have HB2:Hid (Below w.heap.size w w2):=HB.out.trans (hB2.mono HB.out.size);clear hB2;go_wp2_with fail
 go_quiet (fail)
 go_wp2;go_ret;exact⟨rfl,za7 (HB2.out.alloc HB2.out.size _) _⟩
theorem zto(own:Clr)(c p:Nat)(R:Rp)(cg cc hp:Nat)(mv hv ev:Value)(hs:List Bm)(es:List Em)(op x y:Int)(k:Nat)(o:Ob)(w w0:World)(eb ef:Addr)(hen:Env w0 w own eb ef)(h:RpIn w own c p R cg cc hp mv hv ev hs es)(h1:R.st=1)(hop:1<=op∧op<=6)(hkd:(k:Int) % 4 ≠ rKind op)
  (hk:R.obs[k]?=some o) (hobs:R.obs.length=8)
  (hl:R.clock.length<=1000) (hn0:0<=R.n) (hn1:R.n<R.clock.length) (hs0:∀z∈R.clock,0<=z∧z<=1000000) (ht0:0<=R.time) (ht1:R.time<=1000000000)
  (N:Nat) (hN:N+R.effs.length<=100000) (hbd:o.bound N) (hval:∀e∈R.effs, -1000<=e.va∧e.va<=1000∧e.dots.length<=1048576):
  Calls prog 40 #[.pointer (some ⟨p,0,none⟩),I op,I k,I x,I y] w fun e w'=>e= .returned (I 9)∧Below w.heap.size w w':=by
 have c1:w.cell? ⟨p,1,none⟩=some (I R.st):=h.blk.cell 1;have hb:(R.st==1)=true:=by simp [h1]
 have HC:Hid (Calls prog 66 #[.pointer (some ⟨p,0,none⟩),I k] w fun e w'=>SeeOk own (seeTo (pendB R) k o R.effs.length) w e w'):=zez own c p R cg cc hp mv hv ev hs es k o w h hk hobs hl hn0 hn1 hs0 ht0 ht1 N hN hbd hval;have HEN:Hid (Env w0 w own eb ef):=hen;have HOP:Hid (1<=op∧op<=6):=hop;have hA1:(0:Int)<=k:=by omega
 have hA2:(k:Int)<=7:=by
  obtain⟨h,_⟩:=af.1 hk;omega
 have hB:(rKind op !=(k:Int) % 4)=true:=by simpa using fun e=>hkd e.symm
 clear h h1 hen hk hobs hl hn0 hn1 hs0 ht0 ht1 hN hbd hval hop hkd;go_enter func40,ntmps40;go_wp2_with fail
 refine HC.out.mono ?_;rintro e w1 ⟨v,d,own',rfl,hE,hO,hB⟩;have HB:Hid (Below w.heap.size w w1):=hB;obtain⟨tw,pw,hvf⟩:=ObAt.face hO;subst hvf;clear hE hO hB HC;go_wp2_with fail
 refine(zbg op w1 eb ef (HEN.out.below HB.out) HOP.out).mono ?_;rintro e w2 ⟨rfl,hB2⟩;unfold ruleV;have HB2:Hid (Below w.heap.size w w2):=HB.out.trans (hB2.mono HB.out.size);clear hB2;go_wp2_with fail
 go_quiet (first | (go_at_call 68;exact Calls.quiet_of_same (zb7 _ hA1 hA2 _)))
 go_wp2;go_ret;exact⟨rfl,za7 (HB2.out.alloc HB2.out.size _) _⟩
theorem AddOk.from{w w5 w6:World}{own:Clr}{c p:Nat}{R:Rp}{cg cc hp:Nat}{mv hv:Value}{hs:List Bm}{es:List Em}(hB:Below w.heap.size w w5)(h:AddOk w5 (newTo own w.heap.size 0) c p R cg cc hp mv hv hs es w6):AddOk w own c p R cg cc hp mv hv hs es w6:=by
 obtain⟨own',ev',hE,hR,hT⟩:=h;refine⟨own',ev',(zab own w.heap.size 0).trans hE hB.size,hR,(Tch.below hB).trans hT (fun _ _ h=>h) (fun k hk h=> ?_)⟩;rw [zae _ _ _ _ hk] at h;exact h
theorem zwz(own:Clr)(c p:Nat)(R:Rp)(cg cc hp:Nat)(mv hv ev:Value)(hs:List Bm)(es:List Em)(x:Bm)(w:World)(h:RpIn w own c p R cg cc hp mv hv ev hs es)(hf:¬hs.length<6):
  Calls prog 128 #[.pointer (some ⟨p,0,none⟩),bmV x] w fun e w'=>e= .returned (.tuple #[])∧Below w.heap.size w w':=by
 obtain⟨wA,hwA⟩:∃wA,wA=w.alloc (.cells (bmC x) 134):=⟨_,rfl⟩
 have HBA:Hid (Below w.heap.size w wA):=by rw [hwA];exact(Below.refl _ _).alloc (ac _) _
 have HX:Hid (Blk wA w.heap.size (bmC x) 134):=by rw [hwA];exact heap_alloc_new w _
 have HR:Hid (RpIn wA own c p R cg cc hp mv hv ev hs es):=h.keep (fun b hb _=>HBA.out.block b hb) (fun d _ _ b hb _=>HBA.out.block b hb) (Ext.refl _ _);have hfi:decide ((hs.length:Int)<6)=false:=decide_eq_false (by omega);have c7:wA.cell? ⟨p,7,none⟩=some (.pointer (some ⟨hp,0,none⟩)):=HR.out.blk.cell 7;clear h hf;go_enter func128,ntmps128;go_wp2_with fail
 change Code.wp _ _ _ _ (w.alloc (.cells (bmC x) 134));rw [←hwA];clear hwA;go_quiet (first | (go_at_call 103;exact Calls.quiet_of_same (zkp hp hv hs _ (by first | exact HR.out.held.hpx | exact HR.out.held.hpx.kept (za7 (Below.refl _ _) _) | exact HR.out.held.hpx.kept (Below.refl _ _).drew))))
 go_wp2;go_end0;exact⟨rfl,za7 HBA.out _⟩
theorem hold_has(own:Clr)(c p:Nat)(R:Rp)(cg cc hp:Nat)(mv hv ev:Value)(hs:List Bm)(es:List Em)(x:Bm)(w:World)(h:RpIn w own c p R cg cc hp mv hv ev hs es)(hf:hs.length<6)(han:(hs.any fun m=>likeB x.b m.b)=true):
  Calls prog 128 #[.pointer (some ⟨p,0,none⟩),bmV x] w fun e w'=>e= .returned (.tuple #[])∧Below w.heap.size w w':=by
 obtain⟨wA,hwA⟩:∃wA,wA=w.alloc (.cells (bmC x) 134):=⟨_,rfl⟩
 have HBA:Hid (Below w.heap.size w wA):=by rw [hwA];exact(Below.refl _ _).alloc (ac _) _
 have HX:Hid (Blk wA w.heap.size (bmC x) 134):=by rw [hwA];exact heap_alloc_new w _
 have HR:Hid (RpIn wA own c p R cg cc hp mv hv ev hs es):=h.keep (fun b hb _=>HBA.out.block b hb) (fun d _ _ b hb _=>HBA.out.block b hb) (Ext.refl _ _);have HRW:Hid (RpIn w own c p R cg cc hp mv hv ev hs es):=h;have hfi:decide ((hs.length:Int)<6)=true:=aT (by omega);have hfl:hs.length<=1048576:=by omega
 have c7:wA.cell? ⟨p,7,none⟩=some (.pointer (some ⟨hp,0,none⟩)):=HR.out.blk.cell 7;have HXD:Hid (Blk wA.drew w.heap.size (bmC x) 134):=HX.out;have HAN:Hid ((hs.any fun m=>likeB x.b m.b)=true):=han;clear h hf han;have d7:wA.drew.cell? ⟨p,7,none⟩=some (.pointer (some ⟨hp,0,none⟩)):=c7;have dy0:wA.drew.cell? ⟨w.heap.size,0,none⟩=some (I x.b.o):=HXD.out.cell 0;have dy1:wA.drew.cell? ⟨w.heap.size,1,none⟩=some (I x.b.s):=HXD.out.cell 1;have dy2:wA.drew.cell? ⟨w.heap.size,2,none⟩=some (I x.b.t):=HXD.out.cell 2;have dy3:wA.drew.cell? ⟨w.heap.size,3,none⟩=some (.slice x.ca x.b.clock.length x.cc):=HXD.out.cell 3;have dy4:wA.drew.cell? ⟨w.heap.size,4,none⟩=some (.slice x.ea x.b.effs.length x.ec):=HXD.out.cell 4;go_enter func128,ntmps128;go_wp2_with fail
 change Code.wp _ _ _ _ (w.alloc (.cells (bmC x) 134));rw [←hwA];clear hwA
 go_region_held_law (fun w'=>w'.cell? ⟨p,7,none⟩=some (.pointer (some ⟨hp,0,none⟩))∧w'.cell? ⟨w.heap.size,0,none⟩=some (I x.b.o)∧w'.cell? ⟨w.heap.size,1,none⟩=some (I x.b.s)∧w'.cell? ⟨w.heap.size,2,none⟩=some (I x.b.t)∧w'.cell? ⟨w.heap.size,3,none⟩=some (.slice x.ca x.b.clock.length x.cc)∧w'.cell? ⟨w.heap.size,4,none⟩=some (.slice x.ea x.b.effs.length x.ec)) (exact⟨by with_reducible assumption,by with_reducible assumption,by with_reducible assumption,by with_reducible assumption,by with_reducible assumption,by with_reducible assumption⟩)
  (first
  | (go_at_call 103;refine(zkp hp hv hs _ (HR.out.held.hpx.kept (Below.refl _ _).drew)).mono ?_;rintro e w3 ⟨rfl,hw3⟩;subst hw3)
  | (go_at_call 100;refine(zki x _).mono ?_;rintro e w4 ⟨rfl,hw4⟩;have HB4:Hid (Below wA.heap.size wA w4):=(by rw [hw4];exact((Below.refl _ _).drew).alloc (ac _) _);have HG4:Hid (Blk w4 wA.heap.size (bmC x) 134):=(by rw [hw4];exact heap_alloc_new wA.drew _);clear hw4;have HX4:Hid (Blk w4 w.heap.size (bmC x) 134):=HX.out.kept HB4.out HX.out.lt;have f7:w4.cell? ⟨p,7,none⟩=some (.pointer (some ⟨hp,0,none⟩)):=zaa HB4.out c7;have fy0:w4.cell? ⟨w.heap.size,0,none⟩=some (I x.b.o):=HX4.out.cell 0;have fy1:w4.cell? ⟨w.heap.size,1,none⟩=some (I x.b.s):=HX4.out.cell 1;have fy2:w4.cell? ⟨w.heap.size,2,none⟩=some (I x.b.t):=HX4.out.cell 2;have fy3:w4.cell? ⟨w.heap.size,3,none⟩=some (.slice x.ca x.b.clock.length x.cc):=HX4.out.cell 3;have fy4:w4.cell? ⟨w.heap.size,4,none⟩=some (.slice x.ea x.b.effs.length x.ec):=HX4.out.cell 4)
  | (go_at_call 166;refine(zp7 hp hv hs x wA.heap.size _ (HR.out.held.hpx.kept HB4.out) HG4.out hfl).mono ?_;rintro e w5 ⟨rfl,hb5⟩;have HB5:Hid (Below wA.heap.size wA w5):=HB4.out.trans (hb5.mono HB4.out.size);clear hb5;have HX5:Hid (Blk w5 w.heap.size (bmC x) 134):=HX.out.kept HB5.out HX.out.lt;have g7:w5.cell? ⟨p,7,none⟩=some (.pointer (some ⟨hp,0,none⟩)):=zaa HB5.out c7;have gy0:w5.cell? ⟨w.heap.size,0,none⟩=some (I x.b.o):=HX5.out.cell 0;have gy1:w5.cell? ⟨w.heap.size,1,none⟩=some (I x.b.s):=HX5.out.cell 1;have gy2:w5.cell? ⟨w.heap.size,2,none⟩=some (I x.b.t):=HX5.out.cell 2;have gy3:w5.cell? ⟨w.heap.size,3,none⟩=some (.slice x.ca x.b.clock.length x.cc):=HX5.out.cell 3;have gy4:w5.cell? ⟨w.heap.size,4,none⟩=some (.slice x.ea x.b.effs.length x.ec):=HX5.out.cell 4;rw [HAN.out]))
 go_wp2;go_end0;exact⟨rfl,HBA.out.trans (HB5.out.mono HBA.out.size)⟩
