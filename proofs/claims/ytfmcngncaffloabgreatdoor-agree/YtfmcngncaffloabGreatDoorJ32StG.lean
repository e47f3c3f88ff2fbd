import Derived.Test.YtfmcngncaffloabGreatDoorJ31RkE
set_option maxHeartbeats 1600000
namespace Go.Proofs.YtfmcngncaffloabGreatDoor
open Go.RowKit Go.Proofs.Tryz Wv
set_option maxRecDepth 100000
structure Sto where
 reps:List Rp
 msgs:List Ms
structure StIn(w:World)(own:Clr)(s rg cc pp ch:Nat)(pv:Value)(prs:List Nat)(S:Sto):Prop where
 blk:Blk w s #[.slice (some ⟨rg,0,none⟩) S.reps.length cc, .pointer (some ⟨pp,0,none⟩)] 92
 row:∀r (h:r<prs.length),w.cell? ⟨rg,r,none⟩=some (.pointer (some ⟨prs[r],0,none⟩))
 len:prs.length=S.reps.length
 most:S.reps.length<=4
 least:2<=S.reps.length
 own1:own s=900
 own2:own rg=900
 reps:∀r (h1:r<prs.length) (h2:r<S.reps.length),RpAt w own (1+11*r) prs[r] S.reps[r]
 post:PoIn w own 100 pp ch pv S.msgs
theorem StIn.rlt{w:World}{own:Clr}{s rg cc pp ch:Nat}{pv:Value}{prs:List Nat}{S:Sto}(h:StIn w own s rg cc pp ch pv prs S):rg<w.heap.size:=zad (h.row 0 (by have:=h.least;have:=h.len;omega))
theorem RpAt.keep{w w':World}{own own':Clr}{c p:Nat}{R:Rp}(h:RpAt w own c p R)(h0:Same own 0 w w')(hS:∀d,c<=d->d<=c+10->Same own d w w')(he:Ext own own' w.heap.size):RpAt w' own' c p R:=by
 obtain⟨cg,cc,hp,mv,hv,ev,hs,es,h⟩:=h;exact⟨_,_,_,_,_,_,_,_,h.keep h0 hS he⟩
def StOk(w0 w:World)(own:Clr)(s:Nat)(S:Sto)(eb ef:Addr)(w':World):Prop:=∃own' rg cc pp ch pv prs,Ext own own' w.heap.size∧StIn w' own' s rg cc pp ch pv prs S∧Env w0 w' own' eb ef∧Tch (fun k=>1<=own k∧own k<=100) w w'
theorem StIn.below{w w':World}{own:Clr}{s rg cc pp ch:Nat}{pv:Value}{prs:List Nat}{S:Sto}(h:StIn w own s rg cc pp ch pv prs S)(hb:Below w.heap.size w w'):StIn w' (newTo own w.heap.size 0) s rg cc pp ch pv prs S:=by
 have he:=zab own w.heap.size 0;have hS:∀d,Same own d w w':=fun d b hl _=>hb.block b hl
 have hr:=h.rlt;exact⟨h.blk.kept hb h.blk.lt,fun r hr=>zaa hb (h.row r hr),h.len,h.most,h.least,(he s h.blk.lt).trans h.own1,(he rg hr).trans h.own2,fun r h1 h2=>(h.reps r h1 h2).keep (hS 0) (fun d _ _=>hS d) he,h.post.keep (hS 100) he⟩
theorem StOk.below{w0 w w':World}{own:Clr}{s rg cc pp ch:Nat}{pv:Value}{prs:List Nat}{S:Sto}{eb ef:Addr}(h:StIn w own s rg cc pp ch pv prs S)(hen:Env w0 w own eb ef)(hb:Below w.heap.size w w'):StOk w0 w own s S eb ef w':=
 ⟨_,_,_,_,_,_,_,zab _ _ _,h.below hb,hen.tch (F:=fun _=>False) (Tch.below hb) (fun _ _ h=>h) (zab _ _ _),Tch.below hb⟩
theorem StOk.rep{w0 w w':World}{own:Clr}{s rg cc pp ch:Nat}{pv:Value}{prs:List Nat}{S:Sto}{eb ef:Addr}(h:StIn w own s rg cc pp ch pv prs S)(hen:Env w0 w own eb ef)(r:Nat)(hr:r<prs.length){R:Rp}(ho:ROk w own (1+11*r) prs[r] R w'):StOk w0 w own s {S with reps:=S.reps.set r R} eb ef w':=by
 obtain⟨own',hE,hR,hT⟩:=ho;have hS:∀d,¬(1+11*r<=d∧d<=1+11*r+10)->Same own d w w':=fun d hd=>hT.same (fun k e e2=>hd (by rw [←e];exact e2))
 have hrg:∀k (hk:k<prs.length),rg<w.heap.size:=fun k hk=>zad (h.row k hk)
 have hm:=h.most;have hl:=h.len;refine⟨own',rg,cc,pp,ch,pv,prs,hE,⟨?_,fun k hk=>zbb (h.row k hk) (hS 900 (by omega) rg (hrg k hk) h.own2), ?_, ?_, ?_,(hE s h.blk.lt).trans h.own1,(hE rg (hrg r hr)).trans h.own2,fun k h1 h2=> ?_,h.post.keep (hS 100 (by omega)) hE⟩,hen.tch hT (fun k e e2=>by rw [e] at e2;omega) hE,hT.mono (fun k _ e=>by omega)⟩
 ·show Blk w' s #[.slice (some ⟨rg,0,none⟩) (S.reps.set r R).length cc, .pointer (some ⟨pp,0,none⟩)] 92
  rw [aE];exact(hS 900 (by omega) s h.blk.lt h.own1).trans h.blk
 ·show prs.length=(S.reps.set r R).length
  rw [aE];exact h.len
 ·show(S.reps.set r R).length<=4
  rw [aE];exact h.most
 ·show 2<=(S.reps.set r R).length
  rw [aE];exact h.least
 ·show RpAt w' own' (1+11*k) prs[k] (S.reps.set r R)[k]
  by_cases hk:r=k
  ·subst hk
   rw [List.getElem_set_self];exact hR
  ·rw [List.getElem_set_ne hk]
   exact(h.reps k h1 (by omega)).keep (hS 0 (by omega)) (fun d a b=>hS d (by omega)) hE
theorem StOk.po{w0 w w':World}{own:Clr}{s rg cc pp ch:Nat}{pv:Value}{prs:List Nat}{S:Sto}{eb ef:Addr}(h:StIn w own s rg cc pp ch pv prs S)(hen:Env w0 w own eb ef){ms:List Ms}(ho:PoOk w own 100 pp ch ms w'):StOk w0 w own s {S with msgs:=ms} eb ef w':=by
 obtain⟨own',pv',hE,hP,hT⟩:=ho;have hS:∀d,d ≠ 100->Same own d w w':=fun d hd=>hT.same (fun k e e2=>hd (by have e2:own k=100:=e2;omega))
 have hm:=h.most;have hl:=h.len;refine⟨own',rg,cc,pp,ch,pv',prs,hE,⟨(hS 900 (by omega) s h.blk.lt h.own1).trans h.blk,fun k hk=>zbb (h.row k hk) (hS 900 (by omega) rg (zad (h.row k hk)) h.own2),h.len,h.most,h.least,(hE s h.blk.lt).trans h.own1,(hE rg h.rlt).trans h.own2,fun k h1 h2=>(h.reps k h1 h2).keep (hS 0 (by omega)) (fun d a b=>hS d (by omega)) hE,hP⟩,hen.tch hT (fun k e e2=>by have e2:own k=100:=e2;omega) hE,hT.mono (fun k _ e=>by have e:own k=100:=e;omega)⟩
theorem StOk.from{w0 w w5 w6:World}{own own5:Clr}{s:Nat}{S:Sto}{eb ef:Addr}(hE5:Ext own own5 w.heap.size)(hT5:Tch (fun k=>1<=own k∧own k<=100) w w5)(h:StOk w0 w5 own5 s S eb ef w6):StOk w0 w own s S eb ef w6:=by
 obtain⟨own',rg,cc,pp,ch,pv,prs,hE,hR,hen,hT⟩:=h;exact⟨own',rg,cc,pp,ch,pv,prs,hE5.trans hE hT5.size,hR,hen,hT5.trans hT (fun _ _ h=>h) (fun k hk h=>by rw [hE5 k hk] at h;exact h)⟩
theorem zhb(own:Clr)(s rg cc pp ch:Nat)(pv:Value)(prs:List Nat)(S:Sto)(r:Int)(w:World)(h:StIn w own s rg cc pp ch pv prs S):
  Calls prog 58 #[.pointer (some ⟨s,0,none⟩),I r] w fun e w'=>e= .returned (.bool (decide (0<=r∧r<S.reps.length)))∧w'=w:=by
 have c1:w.cell? ⟨s,0,none⟩=some (.slice (some ⟨rg,0,none⟩) S.reps.length cc):=h.blk.cell 0;clear h;obtain⟨bq,HQ⟩:∃bq,Hid (decide (0<=r∧r<(S.reps.length:Int))=bq):=⟨_,rfl⟩
 rw [HQ.out];go_enter func58,ntmps58;by_cases h0:0<=r
 ·by_cases h1:r<(S.reps.length:Int)
  ·have HD:Hid (true=bq):=(aT (p:=0<=r∧r<(S.reps.length:Int)) ⟨h0,h1⟩).symm.trans HQ.out
   clear HQ;go_wp2;go_ret;exact⟨by rw [←HD.out];rfl,rfl⟩
  ·have HD:Hid (false=bq):=(decide_eq_false (p:=0<=r∧r<(S.reps.length:Int)) (fun h=>h1 h.2)).symm.trans HQ.out
   clear HQ;go_wp2;go_ret;exact⟨by rw [←HD.out];rfl,rfl⟩
 ·have HD:Hid (false=bq):=(decide_eq_false (p:=0<=r∧r<(S.reps.length:Int)) (fun h=>h0 h.1)).symm.trans HQ.out
  clear HQ;go_wp2;go_ret;exact⟨by rw [←HD.out];rfl,rfl⟩
theorem zdg(own:Clr)(s rg cc pp ch:Nat)(pv:Value)(prs:List Nat)(S:Sto)(r:Nat)(hr:r<prs.length)(w:World)(h:StIn w own s rg cc pp ch pv prs S):
  Calls prog 35 #[.pointer (some ⟨s,0,none⟩),I r] w fun e w'=>e= .returned (.tuple #[.pointer (some ⟨prs[r],0,none⟩),I 0])∧w'=w:=by
 have HS:Hid (StIn w own s rg cc pp ch pv prs S):=h;have c0:w.cell? ⟨s,0,none⟩=some (.slice (some ⟨rg,0,none⟩) S.reps.length cc):=h.blk.cell 0;have c1:w.cell? ⟨rg,r,none⟩=some (.pointer (some ⟨prs[r],0,none⟩)):=h.row r hr;have hri:(r:Int)<(S.reps.length:Int):=by have:=h.len;omega
 have hrn:r<S.reps.length:=by omega
 have hd:decide (0<=(r:Int)∧(r:Int)<(S.reps.length:Int))=true:=aT ⟨by omega,hri⟩;clear h;generalize prs[r]=p at *
 go_enter func35,ntmps35;go_wp2_with fail
 refine(zhb own s rg cc pp ch pv prs S r w HS.out).mono ?_;rintro e w1 ⟨rfl,hw1⟩;subst hw1;rw [hd];go_wp2;go_ret2;exact⟨rfl,rfl⟩
theorem zbn(own:Clr)(s rg cc pp ch:Nat)(pv:Value)(prs:List Nat)(S:Sto)(r:Nat)(hr:r<prs.length)(R:Rp)(hR:S.reps[r]?=some R)(hst:R.st ≠ 2)(w:World)(h:StIn w own s rg cc pp ch pv prs S):
  Calls prog 37 #[.pointer (some ⟨s,0,none⟩),I r] w fun e w'=>e= .returned (.tuple #[.pointer (some ⟨prs[r],0,none⟩),I 0])∧w'=w:=by
 have HS:Hid (StIn w own s rg cc pp ch pv prs S):=h;obtain⟨hrn,rfl⟩:=af.1 hR;obtain⟨cg,cc',hp,mv,hv,ev,hs,es,hrp⟩:=h.reps r hr hrn;have HR:Hid (RpIn w own (1+11*r) prs[r] S.reps[r] cg cc' hp mv hv ev hs es):=hrp;have hb:(S.reps[r].st==2)=false:=by simp [hst]
 have HC:Hid (Calls prog 35 #[.pointer (some ⟨s,0,none⟩),I r] w fun e w'=>e= .returned (.tuple #[.pointer (some ⟨prs[r],0,none⟩),I 0])∧w'=w):=zdg own s rg cc pp ch pv prs S r hr w h;clear h hrp hR hst;generalize prs[r]=p at *
 go_enter func37,ntmps37;go_wp2_with fail
 refine HC.out.mono ?_;rintro e w1 ⟨rfl,hw1⟩;subst hw1;go_wp2_with fail
 refine(ziw own (1+11*r) p _ cg cc' hp mv hv ev hs es w1 HR.out).mono ?_;rintro e w2 ⟨rfl,hw2⟩;subst hw2;rw [hb];go_wp2;go_ret2;exact⟨rfl,rfl⟩
structure Rup(R:Rp):Prop where
 ok:Rok R
 n0:0<=R.n
 n1:R.n<R.clock.length
 up:R.st ≠ 2
 el:R.effs.length<=5
 ev:∀e∈R.effs,0<=e.ob∧e.ob<8∧ -1000<=e.va∧e.va<=1000∧e.dots.length<=1048576
theorem Rup.hl{R:Rp}(h:Rup R):R.clock.length<=1000:=by have:=h.ok.len;omega
theorem Rup.hs0{R:Rp}(h:Rup R):∀z∈R.clock,0<=z∧z<=1000000:=fun z hz=>⟨(h.ok.clk z hz).1,by have:=(h.ok.clk z hz).2;omega⟩
theorem Rup.ht1{R:Rp}(h:Rup R):R.time<=1000000000:=by have:=h.ok.time1;omega
theorem Rup.hN{R:Rp}(h:Rup R):5*sumN R.clock+R.effs.length<=100000:=by have:=h.ok.sum;have:=h.el;omega
theorem Rup.hv{R:Rp}(h:Rup R):∀e∈R.effs, -1000<=e.va∧e.va<=1000∧e.dots.length<=1048576:=fun e he=>(h.ev e he).2.2
theorem StIn.prl{w:World}{own:Clr}{s rg cc pp ch:Nat}{pv:Value}{prs:List Nat}{S:Sto}(h:StIn w own s rg cc pp ch pv prs S){r:Nat}{R:Rp}(hR:S.reps[r]?=some R):∃hr:r<prs.length,RpAt w own (1+11*r) prs[r] R:=by
 obtain⟨hrn,rfl⟩:=af.1 hR;have hl:=h.len;exact⟨by omega,h.reps r (by omega) hrn⟩
theorem zrk(own:Clr)(s rg cc pp ch:Nat)(pv:Value)(prs:List Nat)(S:Sto)(r:Nat)(R:Rp)(w w0:World)(eb ef:Addr)(hen:Env w0 w own eb ef)(h:StIn w own s rg cc pp ch pv prs S)(hR:S.reps[r]?=some R)(hup:Rup R):
  Calls prog 16 #[.pointer (some ⟨s,0,none⟩),I r] w fun e w'=>e= .returned (I (zbt R).2)∧StOk w0 w own s {S with reps:=S.reps.set r (zbt R).1} eb ef w':=by
 obtain⟨hr,cg,cc',hp,mv,hv,ev,hs,es,hrp⟩:=h.prl hR;have HU:Hid (Calls prog 37 #[.pointer (some ⟨s,0,none⟩),I r] w fun e w'=>e= .returned (.tuple #[.pointer (some ⟨prs[r],0,none⟩),I 0])∧w'=w):=zbn own s rg cc pp ch pv prs S r hr R hR hup.up w h;have HC:Hid (Calls prog 39 #[.pointer (some ⟨prs[r],0,none⟩)] w fun e w'=>e= .returned (I (zbt R).2)∧StOk w0 w own s {S with reps:=S.reps.set r (zbt R).1} eb ef w'):=(zr1 own (1+11*r) prs[r] R cg cc' hp mv hv ev hs es w (by omega) hrp hup.n0 hup.n1).mono (fun e w' hh=>⟨hh.1,StOk.rep h hen r hr (ROk.self hrp.own1 hh.2)⟩);clear h hrp hup hen hR;generalize prs[r]=p at *
 generalize (zbt R).2=z at *
 generalize (zbt R).1=R' at *
 go_enter func16,ntmps16;go_wp2_with fail
 refine HU.out.mono ?_;rintro e w1 ⟨rfl,hw1⟩;subst hw1;go_wp2_with fail
 refine HC.out.mono ?_;rintro e w2 ⟨rfl,h2⟩;have HE:Hid (StOk w0 w1 own s {S with reps:=S.reps.set r R'} eb ef w2):=h2;clear h2;go_wp2;go_ret;exact⟨rfl,HE.out⟩
theorem zri(own:Clr)(s rg cc pp ch:Nat)(pv:Value)(prs:List Nat)(S:Sto)(r:Nat)(R:Rp)(w:World)(h:StIn w own s rg cc pp ch pv prs S)(hR:S.reps[r]?=some R)(hl:R.clock.length<=1000):
  Calls prog 13 #[.pointer (some ⟨s,0,none⟩),I r] w fun e w'=>zoj w R.clock e w':=by
 obtain⟨hr,cg,cc',hp,mv,hv,ev,hs,es,hrp⟩:=h.prl hR;have HU:Hid (Calls prog 35 #[.pointer (some ⟨s,0,none⟩),I r] w fun e w'=>e= .returned (.tuple #[.pointer (some ⟨prs[r],0,none⟩),I 0])∧w'=w):=zdg own s rg cc pp ch pv prs S r hr w h;have HC:Hid (Calls prog 36 #[.pointer (some ⟨prs[r],0,none⟩)] w fun e w'=>∃v,e= .returned v∧w'.ownsRow w.heap.size 3 1 v R.clock.length (R.clock.map I)∧Below w.heap.size w w'):=zj8 own (1+11*r) prs[r] R cg cc' hp mv hv ev hs es w hrp hl;clear h hrp hR;generalize prs[r]=p at *
 go_enter func13,ntmps13;go_wp2_with fail
 refine HU.out.mono ?_;rintro e w1 ⟨rfl,hw1⟩;subst hw1;go_wp2_with fail
 refine HC.out.mono ?_;rintro e w2 ⟨v,rfl,h2,hb2⟩;have HO:Hid (w2.ownsRow w1.heap.size 3 1 v R.clock.length (R.clock.map I)):=h2;have HB:Hid (Below w1.heap.size w1 w2):=hb2;clear h2 hb2;go_wp2;go_ret2;exact⟨v,rfl,HO.out,HB.out⟩
def zcm(R:Rp):Rp:=zjk R (takeP zah (likeB (pendB R)) R.held).2
theorem zu7(own:Clr)(s rg cc pp ch:Nat)(pv:Value)(prs:List Nat)(S:Sto)(w:World)(h:StIn w own s rg cc pp ch pv prs S):
  Calls prog 34 #[.pointer (some ⟨s,0,none⟩)] w fun e w'=>∃v,e= .returned (.tuple #[v,I 0])∧w'.ownsRow w.heap.size 72 4 v S.msgs.length (flat zay S.msgs)∧Below w.heap.size w w':=by
 have HC:Hid (Calls prog 63 #[.pointer (some ⟨pp,0,none⟩)] w fun e w'=>MsgsOk w S.msgs e w'):=zwa own 100 pp ch pv S.msgs w h.post;have c1:w.cell? ⟨s,1,none⟩=some (.pointer (some ⟨pp,0,none⟩)):=h.blk.cell 1;clear h;have HG:Hid (∀e w',(∃v,e=Ending.returned (.tuple #[v,I 0])∧w'.ownsRow w.heap.size 72 4 v S.msgs.length (flat zay S.msgs)∧Below w.heap.size w w')->(∃v,e=Ending.returned (.tuple #[v,I 0])∧w'.ownsRow w.heap.size 72 4 v S.msgs.length (flat zay S.msgs)∧Below w.heap.size w w')):=fun _ _ h=>h
 clear HG;go_enter func34,ntmps34;go_wp2_with fail
 refine HC.out.mono ?_;rintro e w1 ⟨v,rfl,h1,hb1⟩;have HO:Hid (w1.ownsRow w.heap.size 72 4 v S.msgs.length (flat zay S.msgs)):=h1;have HB:Hid (Below w.heap.size w w1):=hb1;clear h1 hb1;go_wp2;go_ret2;exact⟨v,rfl,HO.out,HB.out⟩
theorem zre(own:Clr)(s rg cc pp ch:Nat)(pv:Value)(prs:List Nat)(S:Sto)(i j k:Nat)(m:Ms)(w w0:World)(eb ef:Addr)(hen:Env w0 w own eb ef)(h:StIn w own s rg cc pp ch pv prs S)(hi:S.msgs[i]?=some m)(hsp:m.sp=false)(hk0:1<=k)(hk1:k<=255)(hj:j<m.bs.length)(hl:m.bs.length<=100000):
  Calls prog 46 #[.pointer (some ⟨s,0,none⟩),I i,I j,I k] w fun e w'=>e= .returned (I 0)∧StOk w0 w own s {S with msgs:=S.msgs.set i (zds m j k)} eb ef w':=by
 have HC:Hid (Calls prog 80 #[.pointer (some ⟨pp,0,none⟩),I i,I j,I k] w fun e w'=>e= .returned (I 0)∧StOk w0 w own s {S with msgs:=S.msgs.set i (zds m j k)} eb ef w'):=(zr8 own 100 pp ch pv S.msgs i j k m w h.post hi hsp hk0 hk1 hj hl).mono (fun e w' hh=>⟨hh.1,StOk.po h hen hh.2⟩);have c1:w.cell? ⟨s,1,none⟩=some (.pointer (some ⟨pp,0,none⟩)):=h.blk.cell 1;clear h hen hi;go_enter func46,ntmps46;go_wp2_with fail
 refine HC.out.mono ?_;rintro e w1 ⟨rfl,h1⟩;have HE:Hid (StOk w0 w own s {S with msgs:=S.msgs.set i (zds m j k)} eb ef w1):=h1;clear h1;go_wp2;go_ret;exact⟨rfl,HE.out⟩
def zoi(w0:World)(eb ef:Addr)(R:Rp)(l:List UInt8)(R':Rp):Prop:=∀(own:Clr) (c p:Nat) (w:World),0<c->Env w0 w own eb ef->RpAt w own c p R->Calls prog 90 #[.pointer (some ⟨p,0,none⟩), .string ⟨l.toArray⟩] w fun e w'=>e= .returned (.tuple #[])∧ROk w own c p R' w'
theorem zou{w0:World}{eb ef:Addr}{R:Rp}{l:List UInt8}(hI:zaj)(hg:Gd w0)(hl:l.length<=9223372036854775807)(hd:dec l=none):zoi w0 eb ef R l R:=
 fun own c p w _ hen h=>zjv own c p R l w w0 eb ef hI (hg.kept hen.bel) hen h hl hd
theorem zrr{w0:World}{eb ef:Addr}{R:Rp}{l:List UInt8}{b:Bt}(hI:zaj)(hg:Gd w0)(hok:Rok R)(hd:dec l=some b)(hf:b.clock.length=R.clock.length)(hs:¬b.s<=R.clock.getD b.o.toNat 0):zoi w0 eb ef R l (za4 R l):=
 fun own c p w hc hen h=>zlj own c p R l b w w0 eb ef hI (hg.kept hen.bel) hen hc h hok hd hf hs
theorem zlh(own:Clr)(s rg cc pp ch:Nat)(pv:Value)(prs:List Nat)(S:Sto)(f:Int)(t:Nat)(l:List UInt8)(R R':Rp)(w w0:World)(eb ef:Addr)(hen:Env w0 w own eb ef)(h:StIn w own s rg cc pp ch pv prs S)(hR:S.reps[t]?=some R)(hst:R.st ≠ 2)(hTF:zoi w0 eb ef R l R'):
  Calls prog 57 #[.pointer (some ⟨s,0,none⟩), .agg #[I 1,I f,I t, .string ⟨l.toArray⟩]] w fun e w'=>e= .returned (.tuple #[])∧StOk w0 w own s {S with reps:=S.reps.set t R'} eb ef w':=by
 obtain⟨wA,hwA⟩:∃wA,wA=w.alloc (.cells #[I 1,I f,I t, .string ⟨l.toArray⟩] 72):=⟨_,rfl⟩
 have hBA:Below w.heap.size w wA:=by rw [hwA];exact(Below.refl _ _).alloc (ac _) _
 have HX:Hid (Blk wA w.heap.size #[I 1,I f,I t, .string ⟨l.toArray⟩] 72):=by rw [hwA];exact heap_alloc_new w _
 have hSA:StIn wA (newTo own w.heap.size 0) s rg cc pp ch pv prs S:=h.below hBA;have henA:Env w0 wA (newTo own w.heap.size 0) eb ef:=hen.tch (F:=fun _=>False) (Tch.below hBA) (fun _ _ h=>h) (zab _ _ _);obtain⟨hr,hrp⟩:=hSA.prl hR;have HU:Hid (Calls prog 37 #[.pointer (some ⟨s,0,none⟩),I t] wA fun e w'=>e= .returned (.tuple #[.pointer (some ⟨prs[t],0,none⟩),I 0])∧w'=wA):=zbn _ s rg cc pp ch pv prs S t hr R hR hst wA hSA;have HC:Hid (Calls prog 90 #[.pointer (some ⟨prs[t],0,none⟩), .string ⟨l.toArray⟩] wA fun e w'=>e= .returned (.tuple #[])∧StOk w0 w own s {S with reps:=S.reps.set t R'} eb ef w'):=(hTF _ (1+11*t) prs[t] wA (by omega) henA hrp).mono (fun e w' hh=>⟨hh.1,StOk.from (zab _ _ _) (Tch.below hBA) (StOk.rep hSA henA t hr hh.2)⟩);clear h hen hSA henA hrp hR hst hTF hBA;generalize prs[t]=p at *
 have x0:wA.cell? ⟨w.heap.size,0,none⟩=some (I 1):=HX.out.cell 0;have x1:wA.cell? ⟨w.heap.size,1,none⟩=some (I f):=HX.out.cell 1;have x2:wA.cell? ⟨w.heap.size,2,none⟩=some (I t):=HX.out.cell 2;have x3:wA.cell? ⟨w.heap.size,3,none⟩=some (.string ⟨l.toArray⟩):=HX.out.cell 3;go_enter func57,ntmps57;go_wp2_with fail
 rw [←hwA];clear hwA;refine HU.out.mono ?_;rintro e w1 ⟨rfl,hw1⟩;subst hw1;go_wp2_with fail
 refine HC.out.mono ?_;rintro e w2 ⟨rfl,h2⟩;have HE:Hid (StOk w0 w own s {S with reps:=S.reps.set t R'} eb ef w2):=h2;clear h2;go_wp2;go_end0;exact⟨rfl,HE.out⟩
