import Derived.Test.YtfmcngncaffloabGreatDoorJ39CrB
set_option maxHeartbeats 3200000
namespace Go.Proofs.YtfmcngncaffloabGreatDoor
open Go.RowKit Go.Proofs.Tryz Wv
set_option maxRecDepth 100000
def digN(cl:List Int):List UInt8:=cl.flatMap be1
def digB(cl:List Int):List UInt8:=digN cl++be4 (Wv.sum (digN cl):Nat)
theorem zqu(cl:List Int):(digN cl).length=cl.length:=flat1_len cl
theorem zwe{w:World}{B n cap:Nat}{a:Option Addr}{l:List UInt8}(h:OwnB w B (.slice a n cap) l):
  (convert 191 9 (.slice a n cap)).run prog w= .ok (.string ⟨l.toArray⟩) w:=by
 rcases h.2 with⟨e1,e2⟩ | ⟨g,cap',cur,e1,_⟩
 ·cases e1
  have hl:l= []:=aw e2;subst hl;rfl
 ·cases e1
  exact zkb h
theorem zxl(cl:List Int)(g cc:Nat)(w:World)(hat:∀j (hj:j<cl.length),w.cell? ⟨g,j,none⟩=some (I cl[j]))(hl:cl.length<=4):
  Calls prog 93 #[.slice (some ⟨g,0,none⟩) cl.length cc] w fun e w'=>e= .returned (.string ⟨(digB cl).toArray⟩)∧Below w.heap.size w w':=by
 obtain⟨i,hi,hz0,hz1,hz2⟩:=info_parts zft;have HAT:Hid (∀j (hj:j<cl.length),w.cell? ⟨g,j,none⟩=some (I cl[j])):=hat;clear hat;go_enter func93,ntmps93;have HN0:Hid (OwnB w w.heap.size (.slice none 0 0) (digN (cl.take 0))):=OwnB.nil w w.heap.size;go_wp2_with fail
 go_loopw [3,8] (fun t x wr=>∃k:Nat,k<=cl.length∧x=I k∧Hid (OwnB wr w.heap.size t (digN (cl.take k)))∧Hid (Grew w wr (.slice none 0 0) t)) (fun _ x _=>cl.length - (intOf x).toNat)
 case atStart=>exact⟨0,az _,rfl,HN0,Grew.refl _ _⟩
 case round=>
  obtain⟨k,hk,rfl,hok,hgk⟩:=hrel;have HB:Hid (Below w.heap.size w wr):=hgk.out.below (l:= []) (ac _) (OwnB.nil _ _)
  have HLn:Hid ((digN (cl.take k)).length<=4):=by
   show _<=_;rw [zqu,al];omega
  by_cases hlt:k<cl.length
  ·have c0:wr.cell? ⟨g,k,none⟩=some (I (cl.getD k 0)):=zaa HB.out (by rw [HAT.out k hlt];simp [hlt])
   have hpr:=zad c0
   have HT:Hid (digN (cl.take (k+1))=digN (cl.take k)++be1 (cl.getD k 0)):=by
    show _=_;unfold digN;rw [take_flat _ _ _ hlt];simp [hlt]
   generalize cl.getD k 0=z at c0 HT;generalize digN (cl.take k)=L at hok HLn HT;have hLn:=HLn.out;have hszr:=HB.out.size;go_wp2_with (first | (at_builtin;go_must (refine wpList_append_own_at _ rfl _ _ _ rfl w.heap.size 5 i (.int .u8 0) 1 1 underlying191 hi hz0 hz1 hz2 rfl (by omega) u3 L.length (L.map B8) rfl (hok.out.alloc _) ⟨wr.heap.size,0,none⟩ 1 1 ((be1 z).map B8) rfl rfl (zcw wr _ _ (zir z)) (zdf _) (by unfold maxLen;omega) (by omega) (by simp;omega) ?_;intro v1 w1 hown hgrow hnil hat;have HG:Hid (Grew wr w1 u3 v1):=(Grew.new _ u3).trans (Grew.app hgrow hat);have HO1:Hid (OwnB w1 w.heap.size v1 (L++be1 z)):=OwnB.append rfl hown;clear hown hgrow hnil hat)))
   go_roundw
   case rel=>exact⟨k+1,by omega,by go_num,by rw [HT.out];exact HO1,hgk.out.trans HG.out⟩
   case measure=>simp [intOf];omega
  ·obtain rfl:k=cl.length:=by omega
   have hok2:=hok.out;have hLn:=HLn.out;rw [List.take_length] at hok2 hLn;have HSE:Hid (digN cl++be4 (Wv.sum (digN cl):Nat)=digB cl):=rfl;clear hok;generalize digN cl=L at *
   have HS:Hid (∀wx:World,Calls prog 131 #[.string ⟨L.toArray⟩] wx fun e w'=>e= .returned (.string ⟨(L++be4 (Wv.sum L:Nat)).toArray⟩)∧Below wx.heap.size wx w'):=fun wx=>zhd ⟨L.toArray⟩ wx (by rw [zaz];omega)
   rcases zd0 hok2 with⟨a,cp,rfl⟩
   have hcv:(convert 191 9 (.slice a L.length cp)).run prog wr= .ok (.string ⟨L.toArray⟩) wr:=zwe hok2;clear hok2;go_wp2_with fail
   refine(HS.out wr).mono ?_;rintro e w2 ⟨rfl,hb2⟩;have HB2:Hid (Below wr.heap.size wr w2):=hb2;clear hb2;go_wp2;go_ret;exact⟨by rw [HSE.out];rfl,HB.out.trans (HB2.out.mono HB.out.size)⟩
theorem zr0(own:Clr)(c p:Nat)(R:Rp)(k:Int)(w:World)(h:RpAt w own c p R)(h1:R.st ≠ 1):
  Calls prog 43 #[.pointer (some ⟨p,0,none⟩),I k] w fun e w'=>e= .returned (I 7)∧w'=w:=by
 obtain⟨cg,cc,hp,mv,hv,ev,hs,es,h⟩:=h;have c1:w.cell? ⟨p,1,none⟩=some (I R.st):=h.blk.cell 1;have hb:(R.st==1)=false:=by simp [h1]
 clear h;go_enter func43,ntmps43;go_wp2;go_ret;exact⟨rfl,rfl⟩
def failR(R:Rp)(k:Int):Rp:=if R.effs= [] then zch R k else zch {R with log:=R.log++frameB (pendB R)} k
theorem zrz(own:Clr)(c p:Nat)(R:Rp)(k:Int)(w:World)(hc0:0<c)(h:RpAt w own c p R)(h1:R.st=1)(he:R.effs= [])
  (hl:R.clock.length<=1000) (hn0:0<=R.n) (hn1:R.n<R.clock.length) (hs0:∀z∈R.clock,0<=z∧z<=1000000) (ht0:0<=R.time) (ht1:R.time<=1000000000) (hy0:0<=R.synced) (hy1:R.synced<=R.log.length) (hll:R.log.length<=100000000):
  Calls prog 43 #[.pointer (some ⟨p,0,none⟩),I k] w fun e w'=>e= .returned (I 0)∧ROk w own c p (failR R k) w':=by
 have HRA:Hid (RpAt w own c p R):=h;obtain⟨cg,cc,hp,mv,hv,ev,hs,es,h⟩:=h;have HRW:Hid (RpIn w own c p R cg cc hp mv hv ev hs es):=h;have c1:w.cell? ⟨p,1,none⟩=some (I R.st):=h.blk.cell 1;have hb:(R.st==1)=true:=by simp [h1]
 have HEE:Hid (R.effs= []):=he;have HF:Hid (failR R k=zch R k):=by show _=_;unfold failR;rw [aA he]
 rw [HF.out];have HS0:Hid (∀z∈R.clock,0<=z∧z<=1000000):=hs0;clear h h1 he hs0;go_enter func43,ntmps43;go_wp2_with fail
 refine(zc8 own c p R cg cc hp mv hv ev hs es w HRW.out hl hn0 hn1 HS0.out ht0 ht1).mono ?_;rintro e w1 ⟨x,rfl,hxb,hxm,hB1,hK1⟩;have HXL:Hid (x.b.effs.length=0):=by show _=_;rw [hxb];show R.effs.length=0;rw [HEE.out];rfl
 have HB1:Hid (Below w.heap.size w w1):=hB1;clear hxb hxm hB1 hK1 c1 hb hl hn0 hn1 ht0 ht1;obtain⟨w2,hw2⟩:∃w2,w2=w1.alloc (.cells (bmC x) 134):=⟨_,rfl⟩
 have HB2:Hid (Below w.heap.size w w2):=by rw [hw2];exact HB1.out.alloc HB1.out.size _
 have HX2:Hid (Blk w2 w1.heap.size (bmC x) 134):=by rw [hw2];exact heap_alloc_new w1 _
 have hzi:(x.b.effs.length:Int)=0:=by rw [HXL.out];rfl
 have HC:Hid (Calls prog 44 #[.pointer (some ⟨p,0,none⟩),I k] w2 fun e w'=>e= .returned (.tuple #[])∧ROk w own c p (zch R k) w'):=(zgv (newTo own w.heap.size 0) c p R k w2 hc0 (HRA.out.keep (fun b hb _=>HB2.out.block b hb) (fun _ _ _ b hb _=>HB2.out.block b hb) (zab _ _ _)) hy0 hy1 hll).mono (fun e w' hh=>⟨hh.1,ROk.from (zab _ _ _) (Tch.below HB2.out) hh.2⟩);go_wp2_with fail
 change Calls _ _ _ (w1.alloc (.cells (bmC x) 134)) _;rw [←hw2];refine HC.out.mono ?_;rintro e w3 ⟨rfl,h3⟩;have HE:Hid (ROk w own c p (zch R k) w3):=h3;clear h3 hw2;go_wp2;go_ret;exact⟨rfl,HE.out⟩
theorem zry(own:Clr)(c p:Nat)(R:Rp)(k:Int)(w w0:World)(eb ef:Addr)(hI:zaj)(hen:Env w0 w own eb ef)(hc0:0<c)(h:RpAt w own c p R)(h1:R.st=1)(he:R.effs ≠ [])
  (hl:R.clock.length<=1000) (hn0:0<=R.n) (hn1:R.n<R.clock.length) (hs0:∀z∈R.clock,0<=z∧z<=1000000) (ht0:0<=R.time) (ht1:R.time<=1000000000) (hisb:Wv.isB (pendB R)=true) (hy0:0<=R.synced) (hy1:R.synced<=R.log.length) (hll:R.log.length+(frameB (pendB R)).length<=100000000):
  Calls prog 43 #[.pointer (some ⟨p,0,none⟩),I k] w fun e w'=>e= .returned (I 0)∧ROk w own c p (failR R k) w':=by
 obtain⟨cg,cc,hp,mv,hv,ev,hs,es,h⟩:=h;have HRW:Hid (RpIn w own c p R cg cc hp mv hv ev hs es):=h;have HEN:Hid (Env w0 w own eb ef):=hen;have c1:w.cell? ⟨p,1,none⟩=some (I R.st):=h.blk.cell 1;have hb:(R.st==1)=true:=by simp [h1]
 have HEE:Hid (0<R.effs.length):=List.length_pos_iff.2 he;have HF:Hid (failR R k=zch {R with log:=R.log++frameB (pendB R)} k):=by show _=_;unfold failR;rw [ap he]
 rw [HF.out];have HS0:Hid (∀z∈R.clock,0<=z∧z<=1000000):=hs0;have HIB:Hid (Wv.isB (pendB R)=true):=hisb;have HLL:Hid (R.log.length+(frameB (pendB R)).length<=100000000):=hll;clear h h1 he hs0 hen hisb hll;go_enter func43,ntmps43;go_wp2_with fail
 refine(zc8 own c p R cg cc hp mv hv ev hs es w HRW.out hl hn0 hn1 HS0.out ht0 ht1).mono ?_;rintro e w1 ⟨x,rfl,hxb,hxm,hB1,hK1⟩;rw [←hxb] at HIB HLL;have HXB:Hid (x.b=pendB R):=hxb;have HXE:Hid (0<x.b.effs.length):=by show _<_;rw [hxb];exact HEE.out
 have HB1:Hid (Below w.heap.size w w1):=hB1;have HK1:Hid (BatK (fun d=>d=0∨d=c+10) w1 (newTo own w.heap.size 0) x):=hK1;clear hxb hxm hB1 hK1 c1 hb hl hn0 hn1 ht0 ht1 HEE HF;obtain⟨w2,hw2⟩:∃w2,w2=w1.alloc (.cells (bmC x) 134):=⟨_,rfl⟩
 have hB12:Below w1.heap.size w1 w2:=by rw [hw2];exact(Below.refl _ _).alloc (ac _) _
 have HB2:Hid (Below w.heap.size w w2):=HB1.out.trans (hB12.mono HB1.out.size);have HX2:Hid (Blk w2 w1.heap.size (bmC x) 134):=by rw [hw2];exact heap_alloc_new w1 _
 have HK2:Hid (BatAt w2 x.b x.ca x.ea x.ms):=(HK1.out.keep (fun _ _ b hl _=>hB12.block b hl) (Ext.refl _ _)).at
 have HEN2:Hid (Env w0 w2 (newTo own w.heap.size 0) eb ef):=HEN.out.tch (F:=fun _=>False) (Tch.below HB2.out) (fun _ _ h=>h) (zab _ _ _);have HC2:Hid (∀wx,Below w2.heap.size w2 wx->Calls prog 72 #[bmV x] wx fun e w'=>e= .returned (.string ⟨(frameB x.b).toArray⟩)∧Below wx.heap.size wx w'):=fun wx hb=>zfw x wx eb ef hI ((HEN2.out.gl.kept HEN2.out.bel).kept hb) ((HEN2.out.pw.kept HEN2.out.bel).kept hb) ((HK1.out.keep (fun _ _ b hl _=>hB12.block b hl) (Ext.refl _ _)).keep (own':=newTo own w.heap.size 0) (fun _ _ b hl _=>hb.block b hl) (Ext.refl _ _)).at HIB.out
 have HR2:Hid (∀wx,Below w2.heap.size w2 wx->RpIn wx (newTo own w.heap.size 0) c p R cg cc hp mv hv ev hs es):=fun wx hb=>(HRW.out.keep (fun b hl _=>HB2.out.block b hl) (fun _ _ _ b hl _=>HB2.out.block b hl) (zab _ _ _)).keep (fun b hl _=>hb.block b hl) (fun _ _ _ b hl _=>hb.block b hl) (Ext.refl _ _)
 have y0:w2.cell? ⟨w1.heap.size,0,none⟩=some (I x.b.o):=HX2.out.cell 0;have y1:w2.cell? ⟨w1.heap.size,1,none⟩=some (I x.b.s):=HX2.out.cell 1;have y2:w2.cell? ⟨w1.heap.size,2,none⟩=some (I x.b.t):=HX2.out.cell 2;have y3:w2.cell? ⟨w1.heap.size,3,none⟩=some (.slice x.ca x.b.clock.length x.cc):=HX2.out.cell 3;have y4:w2.cell? ⟨w1.heap.size,4,none⟩=some (.slice x.ea x.b.effs.length x.ec):=HX2.out.cell 4;have hzi:¬(x.b.effs.length:Int)=0:=by have:=HXE.out;omega
 have hzj:0<(x.b.effs.length:Int):=by have:=HXE.out;omega
 clear hB12;go_wp2_with fail
 change Code.wp _ _ _ _ (w1.alloc (.cells (bmC x) 134));rw [←hw2];clear hw2
 go_region_law (first
  | (go_simp;go_at_call 72;refine(HC2.out _ (Below.refl _ _).drew).mono ?_;rintro e w3 ⟨rfl,hb3⟩;have HB3:Hid (Below w2.heap.size w2 w3):=(Below.refl _ _).drew.trans hb3;clear hb3)
  | (go_simp;go_at_call 75;refine(zp0 (newTo own w.heap.size 0) c p R cg cc hp mv hv ev hs es (frameB x.b) w3 hc0 (HR2.out w3 HB3.out) HLL.out).mono ?_;rintro e w4 ⟨rfl,hS4⟩;have HS4:Hid (zb2 w3 (newTo own w.heap.size 0) c p {R with log:=R.log++frameB x.b} cg cc hp mv hv ev hs es w4):=hS4;clear hS4))
 have HC4:Hid (Calls prog 44 #[.pointer (some ⟨p,0,none⟩),I k] w4 fun e w'=>e= .returned (.tuple #[])∧ROk w own c p (zch {R with log:=R.log++frameB (pendB R)} k) w'):=by
  rw [←HXB.out];have ho:newTo own w.heap.size 0 p=c:=by rw [zae _ _ _ _ HRW.out.blk.lt];exact HRW.out.own1
  have hb:=HB2.out.trans (HB3.out.mono HB2.out.size);refine(zgv (newTo own w.heap.size 0) c p {R with log:=R.log++frameB x.b} k w4 hc0 ⟨_,_,_,_,_,_,_,_,HS4.out.1⟩ hy0 ?_ ?_).mono (fun e w' hh=>⟨hh.1,ROk.from (zab _ _ _) ((Tch.below (F:=fun k=>c<=own k∧own k<=c+10) hb).trans HS4.out.2 (fun _ _ h=>h) (fun j hj e2=> ?_)) hh.2⟩)
  ·show R.synced<=((R.log++frameB x.b).length:Int);rw [ah];omega
  ·show(R.log++frameB x.b).length<=100000000;rw [ah];exact HLL.out
  ·rw [e2,HRW.out.own1];exact⟨ac _,by omega⟩
 clear y0 y1 y2 y3 y4 HC2 HR2 HS4 HB3 HX2 HK2;go_wp2_with fail
 refine HC4.out.mono ?_;rintro e w5 ⟨rfl,h5⟩;have HE:Hid (ROk w own c p (zch {R with log:=R.log++frameB (pendB R)} k) w5):=h5;clear h5 HC4;go_wp2;go_ret;exact⟨rfl,HE.out⟩
theorem zpd(own:Clr)(c p:Nat)(R:Rp)(w:World)(h:RpAt w own c p R)(hl:R.clock.length<=4):
  Calls prog 60 #[.pointer (some ⟨p,0,none⟩)] w fun e w'=>e= .returned (.string ⟨(digB R.clock).toArray⟩)∧Below w.heap.size w w':=by
 obtain⟨cg,cc,hp,mv,hv,ev,hs,es,h⟩:=h;have c2:w.cell? ⟨p,2,none⟩=some (.slice (some ⟨cg,0,none⟩) R.clock.length cc):=h.blk.cell 2;have HC:Hid (Calls prog 93 #[.slice (some ⟨cg,0,none⟩) R.clock.length cc] w fun e w'=>e= .returned (.string ⟨(digB R.clock).toArray⟩)∧Below w.heap.size w w'):=zxl R.clock cg cc w (fun j hj=>h.clkAt.row j hj) hl;clear h;go_enter func60,ntmps60;go_wp2_with fail
 refine HC.out.mono ?_;rintro e w1 ⟨rfl,h1⟩;have HB:Hid (Below w.heap.size w w1):=h1;clear h1 HC;go_wp2;go_ret;exact⟨rfl,HB.out⟩
structure Gg(w:World):Prop where
 len:∃a,w.cell? ⟨3,0,none⟩=some (Sent a)
 sum:∃a,w.cell? ⟨4,0,none⟩=some (Sent a)
theorem Gg.kept{w w':World}(g:Gg w)(hb:Below w.heap.size w w'):Gg w':=
 ⟨g.len.imp fun _ h=>zaa hb h,g.sum.imp fun _ h=>zaa hb h⟩
def digI(l:List UInt8):List Int:=(Wv.body l).map (fun c=>(c.toNat:Int))
def digOk(l:List UInt8)(n:Nat):Bool:=decide (l.length=n+4∧tail4 l=be4 (Wv.sum (Wv.body l):Nat))
theorem zxo(l:List UInt8)(n:Nat)(w:World)(g0:Gg w)(hn:n<=4)(h:¬l.length=n+4):
  Calls prog 130 #[.string ⟨l.toArray⟩,I n] w fun e w'=>(∃a,e= .returned (.tuple #[.slice none 0 0,Sent a]))∧Below w.heap.size w w':=by
 obtain⟨ad,ha⟩:=g0.len;have hs:=zaz l;have hne:((l.length:Int)==(n:Int)+4)=false:=beq_eq_false_iff_ne.2 (by omega);have hw:IntKind.i64.wrap ((n:Int)+4)=(n:Int)+4:=wrapI _ (by omega) (by omega);have hn2:((l.length:Int) !=(n:Int)+4)=true:=by rw [bne,hne];rfl
 have hz:=zad ha;clear g0;go_enter func130,ntmps130;go_wp2;go_region
 all_goals
  (go_wp2
   go_ret2
   exact⟨⟨_,rfl⟩,(Below.refl _ _).drew⟩)
theorem zxn(l:List UInt8)(n:Nat)(w:World)(g0:Gg w)(hn:n<=4)(h:l.length=n+4)(ht:¬tail4 l=be4 (Wv.sum (Wv.body l):Nat)):
  Calls prog 130 #[.string ⟨l.toArray⟩,I n] w fun e w'=>(∃a,e= .returned (.tuple #[.slice none 0 0,Sent a]))∧Below w.heap.size w w':=by
 have G0:Hid (Gg w):=g0;have hs:=zaz l;have HC:Hid (Calls prog 167 #[.string ⟨l.toArray⟩] w fun e w'=>e= .returned (.tuple #[.string ⟨#[]⟩, .bool false])∧Below w.heap.size w w'):=zo3 l w (by omega) (by omega) ht;have hne:((l.length:Int)==(n:Int)+4)=true:=beq_iff_eq.2 (by omega);have hw:IntKind.i64.wrap ((n:Int)+4)=(n:Int)+4:=wrapI _ (by omega) (by omega);clear g0 ht;go_enter func130,ntmps130;go_wp2_with fail
 refine HC.out.mono ?_;rintro e w1 ⟨rfl,hb1⟩;obtain⟨ad,ha⟩:=(G0.out.kept hb1).sum;have hz:=zad ha;have HB:Hid (Below w.heap.size w w1):=hb1;clear hb1 HC;go_wp2;go_region
 all_goals
  (go_wp2
   go_ret2
   exact⟨⟨_,rfl⟩,HB.out.drew⟩)
theorem dg_grown{w wr w7:World}{v:Value}{k g:Nat}{pre:List Value}{m:List UInt8}{o:Obj}(hb:Below w.heap.size w wr)(ho:wr.ownsRow w.heap.size 3 1 v k pre)(ht:Tb wr g m)(hg:(wr.alloc o).grownBy w7 v.ownBlock):Below w.heap.size w w7∧Tb w7 g m:=by
 have hbA:Below w.heap.size w (wr.alloc o):=hb.alloc hb.size o;refine⟨hbA.grown hg hbA.size (fun j e=>(ho.lt j e).1), ?_⟩;have htA:Tb (wr.alloc o) g m:=ht.kept ((Below.refl _ _).alloc (ac _) _);obtain⟨cur,h1,h2⟩:=htA;refine⟨cur,(hg.block g (am.1 h1).1 (fun e=> ?_)).trans h1,h2⟩;obtain⟨cu,h3,_⟩:=ht;rcases ho.2 with⟨e1,_⟩ | ⟨g',cap,cur',e1,_,h4,_⟩
 ·rw [e1] at e;cases e
 ·rw [e1] at e
  cases e
  cases h4.symm.trans h3
theorem zxm(l:List UInt8)(n:Nat)(w:World)(hn:n<=4)(h:l.length=n+4)(ht:tail4 l=be4 (Wv.sum (Wv.body l):Nat)):
  Calls prog 130 #[.string ⟨l.toArray⟩,I n] w fun e w'=>(∃a c,e= .returned (.tuple #[.slice a n c, .nilIface])∧w'.ownsRow w.heap.size 3 1 (.slice a n c) n ((digI l).map I))∧Below w.heap.size w w':=by
 have hs:=zaz l;have HC:Hid (Calls prog 167 #[.string ⟨l.toArray⟩] w fun e w'=>e= .returned (.tuple #[.string ⟨(Wv.body l).toArray⟩, .bool true])∧Below w.heap.size w w'):=zl4 l w (by omega) (by omega) ht;have hne:((l.length:Int)==(n:Int)+4)=true:=beq_iff_eq.2 (by omega);have hw:IntKind.i64.wrap ((n:Int)+4)=(n:Int)+4:=wrapI _ (by omega) (by omega);have hbl:(Wv.body l).length=n:=by rw [body_len];omega
 have HDI:Hid (digI l=(Wv.body l).map (fun c=>(c.toNat:Int))):=rfl;clear ht;generalize Wv.body l=m at *
 go_enter func130,ntmps130;go_wp2_with fail
 refine HC.out.mono ?_;rintro e w1 ⟨rfl,hb1⟩;have HB:Hid (Below w.heap.size w w1):=hb1;clear hb1 HC;have hcv:(convert 9 191 (.string ⟨m.toArray⟩)).run prog w1= .ok (.slice (some ⟨w1.heap.size,0,none⟩) m.length (grownCap w1 m.length 0 5)) (Lib.bytesWorld w1 5 ⟨m.toArray⟩):=Lib.run_convert_string_bytes w1 _ _ _ _ underlying9 underlying191 underlying5;have TB2:Hid (Tb (Lib.bytesWorld w1 5 ⟨m.toArray⟩) w1.heap.size m):=Tb.begin w1 m;have HB2:Hid (Below w.heap.size w (Lib.bytesWorld w1 5 ⟨m.toArray⟩)):=HB.out.trans ((zi8 w1 _ _).mono HB.out.size);obtain⟨wB,hwB⟩:∃wB,wB=Lib.bytesWorld w1 5 ⟨m.toArray⟩:=⟨_,rfl⟩
 rw [←hwB] at hcv TB2 HB2;clear hwB;obtain⟨i,HI⟩:∃i,Hid (prog.info? 3=some i∧i.zero=some (.int .i64 0)∧i.size=1∧i.bytes=8):=by obtain⟨i,h⟩:=info_parts zkn;exact⟨i,h⟩
 have O1:Hid (wB.ownsRow w.heap.size 3 1 (.slice none 0 0) 0 (([]:List Int).map I)):=⟨rfl, .inl ⟨rfl,rfl⟩⟩
 go_wp2_with fail
 go_loopw [8,28] (fun v x wr=>∃k:Nat,k<=n∧x=I k∧Hid (wr.ownsRow w.heap.size 3 1 v k (((m.take k).map (fun c=>(c.toNat:Int))).map I))∧Hid (Below w.heap.size w wr)∧Hid (Tb wr w1.heap.size m)) (fun _ x _=>n - (intOf x).toNat)
 case atStart=>exact⟨0,az _,rfl,O1,HB2,TB2⟩
 case round=>
  obtain⟨k,hk,rfl,HO,HBr,HTb⟩:=hrel;clear O1 HB2 TB2 hcv;by_cases hlt:k<n
  ·have hkm:k<m.length:=by omega
   have e0:wr.cell? ⟨w1.heap.size,k,none⟩=some (B8 m[k]):=HTb.out.cell k hkm
   have HTK:Hid (((m.take (k+1)).map (fun c=>(c.toNat:Int))).map I=((m.take k).map (fun c=>(c.toNat:Int))).map I++ [I (m[k].toNat:Int)]):=by
    show _=_;rw [aC hkm,aO,aO];rfl
   have hb0:m[k].toNat<256:=m[k].toNat_lt;generalize m[k]=el at *
   generalize ((m.take k).map (fun c=>(c.toNat:Int))).map I=pre at *
   have hki:(k:Int)<n:=by omega
   have n1:k+1<=maxLen:=by unfold maxLen;omega
   have n2:(k+1)*8<=140737488355328:=by omega
   have hw1:w.heap.size<=wr.heap.size:=HBr.out.size;have OX:Hid ((wr.alloc (.cells #[I (el.toNat:Int)] 3)).ownsRow w.heap.size 3 1 u8 k pre):=HO.out.alloc _;have n3:w.heap.size<=(wr.alloc (.cells #[I (el.toNat:Int)] 3)).heap.size:=by simp;omega
   have HTA:Hid (Tb (wr.alloc (.cells #[I (el.toNat:Int)] 3)) w1.heap.size m):=HTb.out.kept ((Below.refl _ _).alloc (ac _) _);go_wp2_with (first | (at_builtin;refine wpList_append_own_at _ rfl _ _ _ rfl w.heap.size 3 i (.int .i64 0) 1 8 underlying32 HI.out.1 HI.out.2.1 HI.out.2.2.1 HI.out.2.2.2 rfl (by decide) u8 k pre rfl OX.out ⟨wr.heap.size,0,none⟩ 1 1 [I (el.toNat:Int)] rfl rfl (litAt _ _ _ _ rfl) (zsw _) n1 n2 n3 ?_;intro v7 w7 hown7 hgrow7 hnil7 hat7;have LO:Hid (w7.ownsRow w.heap.size 3 1 v7 (k+1) (pre++ [I (el.toNat:Int)])):=hown7;have LB:Hid (Below w.heap.size w w7∧Tb w7 w1.heap.size m):=dg_grown HBr.out HO.out HTb.out hgrow7;clear hown7 hgrow7 hnil7 hat7))
   go_roundw
   case rel=>exact⟨k+1,hlt,by go_num,by rw [HTK.out];exact LO,LB.out.1,LB.out.2⟩
   case measure=>simp [intOf];omega
  ·obtain rfl:k=n:=by omega
   have HE:Hid (wr.ownsRow w.heap.size 3 1 u8 k ((digI l).map I)):=by
    have:=HO.out;rw [aM (by omega),←HDI.out] at this;exact this
   obtain⟨a,cp,rfl⟩:=zd0 HE.out;clear HO HTb;go_wp2;go_ret2;exact⟨⟨_,_,rfl,HE.out⟩,HBr.out⟩
theorem zli(own:Clr)(c p:Nat)(R:Rp)(l:List UInt8)(b:Bt)(w w0:World)(eb ef:Addr)(hI:zaj)(hg:Gd w)(hen:Env w0 w own eb ef)(h:RpAt w own c p R)(hok:Rok R)(hd:dec l=some b)(hf:b.clock.length=R.clock.length)(hs:b.s<=R.clock.getD b.o.toNat 0):
  Calls prog 90 #[.pointer (some ⟨p,0,none⟩), .string ⟨l.toArray⟩] w fun e w'=>e= .returned (.tuple #[])∧ROk w own c p R w':=by
 obtain⟨cg,cc,hp,mv,hv,ev,hs',es,hR⟩:=h;have HR:Hid (RpIn w own c p R cg cc hp mv hv ev hs' es):=hR;have HEN:Hid (Env w0 w own eb ef):=hen;have HOK:Hid (Rok R):=hok;have HIB:Hid (Wv.isB b=true∧l.length<=65535):=zht hd;have HC:Hid (Calls prog 126 #[.string ⟨l.toArray⟩] w fun e w'=>(∃ca ea cc ec ms,e= .returned (.tuple #[bV b ca ea cc ec, .nilIface])∧b.effs=ms.map (·.e)∧OwB w' w.heap.size (.slice ca b.clock.length cc) (.slice ea b.effs.length ec) b.clock ms)∧Below w.heap.size w w'):=zii l b w eb ef hI (hen.gl.kept hen.bel) (hen.pw.kept hen.bel) hg hd;have HSQ:Hid (b.s<=R.clock.getD b.o.toNat 0):=hs;have HFT:Hid (b.clock.length=R.clock.length):=hf;clear hR hen hok hd hs hf hg;go_enter func90,ntmps90;go_wp2_with fail
 refine HC.out.mono ?_;rintro e w1 ⟨⟨ca,ea,cb,ec,ms,rfl,he,ho⟩,hb1⟩;obtain⟨x,hx⟩:∃x:Bm,x=⟨b,ca,ea,cb,ec,ms⟩:=⟨_,rfl⟩
 obtain⟨w2,hw2⟩:∃w2,w2=w1.alloc (.cells (bmC x) 134):=⟨_,rfl⟩
 have HT2:Hid (TfAt w w0 w2 own (newTo (newTo own w.heap.size 0) w1.heap.size 0) c p R cg cc hp mv hv ev hs' es x w1.heap.size eb ef):=by
  have hB2:Below w1.heap.size w1 w2:=by rw [hw2];exact(Below.refl _ _).alloc (ac _) _
  have hbat:BatIn w1 (newTo own w.heap.size 0) x:=by rw [hx];exact zse he ho
  have h1:RpIn w1 (newTo own w.heap.size 0) c p R cg cc hp mv hv ev hs' es:=HR.out.keep (fun b hl _=>hb1.block b hl) (fun _ _ _ b hl _=>hb1.block b hl) (zab _ _ _);exact⟨h1.keep (fun b hl _=>hB2.block b hl) (fun _ _ _ b hl _=>hB2.block b hl) (zab _ _ _),hbat.keep (fun b hl _=>hB2.block b hl) (zab _ _ _),by rw [hw2];exact heap_alloc_new w1 _,zaf _ _ _ _ (ac _),(zab own w.heap.size 0).trans (zab _ _ _) hb1.size,hb1.trans (hB2.mono hb1.size),(HEN.out.tch (F:=fun _=>False) (Tch.below hb1) (fun _ _ h=>h) (zab _ _ _)).tch (F:=fun _=>False) (Tch.below hB2) (fun _ _ h=>h) (zab _ _ _)⟩
 have HXB:Hid (b=x.b):=by rw [hx];exact(rfl:b=b)
 have hca:ca=x.ca:=by rw [hx]
 have hea:ea=x.ea:=by rw [hx]
 have hcb:cb=x.cc:=by rw [hx]
 have hec:ec=x.ec:=by rw [hx]
 have hbb:b=x.b:=HXB.out;clear hx he ho hb1 HC HR HEN HXB;subst hca hea hcb hec hbb;generalize newTo (newTo own w.heap.size 0) w1.heap.size 0=own2 at *
 go_wp2_with fail
 change Code.wp _ _ _ _ (w1.alloc (.cells (bmC x) 134));rw [←hw2];clear hw2;have HBD:Hid (Blk w2.drew w1.heap.size (bmC x) 134):=HT2.out.box;have y0:w2.drew.cell? ⟨w1.heap.size,0,none⟩=some (I x.b.o):=HBD.out.cell 0;have y1:w2.drew.cell? ⟨w1.heap.size,1,none⟩=some (I x.b.s):=HBD.out.cell 1;have y2:w2.drew.cell? ⟨w1.heap.size,2,none⟩=some (I x.b.t):=HBD.out.cell 2;have y3:w2.drew.cell? ⟨w1.heap.size,3,none⟩=some (.slice x.ca x.b.clock.length x.cc):=HBD.out.cell 3;have y4:w2.drew.cell? ⟨w1.heap.size,4,none⟩=some (.slice x.ea x.b.effs.length x.ec):=HBD.out.cell 4;have y5:w2.drew.cell? ⟨p,2,none⟩=some (.slice (some ⟨cg,0,none⟩) R.clock.length cc):=HT2.out.rp.clkAt.cell;have hox0:0<=x.b.o:=(zal HIB.out.1).2.1;have hox1:x.b.o<(R.clock.length:Int):=by have:=(zal HIB.out.1).2.2.1;have:=HFT.out;omega
 have hoxn:x.b.o.toNat<R.clock.length:=by omega
 have y6:w2.drew.cell? ⟨cg,x.b.o.toNat,none⟩=some (I (R.clock.getD x.b.o.toNat 0)):=by
  have:=HT2.out.rp.clkAt.row x.b.o.toNat hoxn;rw [show w2.drew.cell? ⟨cg,x.b.o.toNat,none⟩=w2.cell? ⟨cg,x.b.o.toNat,none⟩ from rfl,this];simp [hoxn]
 have hlt:decide (x.b.s<=R.clock.getD x.b.o.toNat 0)=true:=aT HSQ.out;obtain⟨dk,HDK⟩:∃dk,Hid (R.clock.getD x.b.o.toNat 0=dk):=⟨_,rfl⟩
 rw [HDK.out] at y6 hlt;have hdec:decide (x.b.clock.length=R.clock.length)=true:=aT HFT.out;have HDEC:Hid (decide (x.b.clock.length=R.clock.length)=true):=hdec;clear hdec
 go_region_held_law (fun w'=>w'.cell? ⟨w1.heap.size,0,none⟩=some (I x.b.o)∧w'.cell? ⟨w1.heap.size,1,none⟩=some (I x.b.s)∧w'.cell? ⟨w1.heap.size,2,none⟩=some (I x.b.t)∧w'.cell? ⟨w1.heap.size,3,none⟩=some (.slice x.ca x.b.clock.length x.cc)∧w'.cell? ⟨w1.heap.size,4,none⟩=some (.slice x.ea x.b.effs.length x.ec)∧w'.cell? ⟨p,2,none⟩=some (.slice (some ⟨cg,0,none⟩) R.clock.length cc)∧w'.cell? ⟨cg,x.b.o.toNat,none⟩=some (I dk)) (exact⟨by with_reducible assumption,by with_reducible assumption,by with_reducible assumption,by with_reducible assumption,by with_reducible assumption,by with_reducible assumption,by with_reducible assumption⟩)
  (first
  | (go_at_call 127;refine(zkw p cg cc R.clock x _ (HT2.out.rp.clkAt.kept (Below.refl _ _).drew)).mono ?_;rintro e w3 ⟨rfl,hb3⟩;have HB3:Hid (Below w2.heap.size w2 w3):=(Below.refl _ _).drew.trans hb3;clear hb3;have HX3:Hid (Blk w3 w1.heap.size (bmC x) 134):=HT2.out.box.kept HB3.out HT2.out.box.lt;have f0:w3.cell? ⟨w1.heap.size,0,none⟩=some (I x.b.o):=HX3.out.cell 0;have f1:w3.cell? ⟨w1.heap.size,1,none⟩=some (I x.b.s):=HX3.out.cell 1;have f2:w3.cell? ⟨w1.heap.size,2,none⟩=some (I x.b.t):=HX3.out.cell 2;have f3:w3.cell? ⟨w1.heap.size,3,none⟩=some (.slice x.ca x.b.clock.length x.cc):=HX3.out.cell 3;have f4:w3.cell? ⟨w1.heap.size,4,none⟩=some (.slice x.ea x.b.effs.length x.ec):=HX3.out.cell 4;have f5:w3.cell? ⟨p,2,none⟩=some (.slice (some ⟨cg,0,none⟩) R.clock.length cc):=zaa HB3.out y5;have f6:w3.cell? ⟨cg,x.b.o.toNat,none⟩=some (I dk):=zaa HB3.out y6;rw [HDEC.out]))
 have HE:Hid (ROk w own c p R w3):=by
  have hT3:=HT2.out.below HB3.out;exact ROk.from hT3.ext (Tch.below hT3.bel) (ROk.below ⟨_,_,_,_,_,_,_,_,hT3.rp⟩ (Below.refl _ _))
 clear HT2 HB3 HBD y0 y1 y2 y3 y4 y5 y6 f5 f6 HX3 HDEC HDK HSQ;go_wp2;refine bodyPost_ret (results_none rfl _ _ _) rfl ?_;exact⟨rfl,HE.out⟩
theorem starC : "*" ++ "errors.errorString" = "*errors.errorString" := by decide
theorem zhe (u : TypeId) (h : prog.typeName? 3 u = some "*errors.errorString") : u = 299 :=
  typeName_ptr_named (nm := "errors.errorString") (by rw [starC]; kernel_rfl) (by kernel_rfl) (by decide) u (by rw [starC]; exact h)
theorem zge:prog.cellsOf 380=1:=by kernel_rfl
theorem zgc:prog.cellsOf 9=1:=by kernel_rfl
theorem zr4{P:Program}{W:World}{n:String}(hg:P.globalNamed n=some 8)(h:Lib.TabIs P W n .u64 Lib.pow10Tab):Pw W:=by
 unfold Lib.TabIs World.var? at h;rw [hg] at h;simp only [Option.bind_some] at h;split at h
 ·rename_i cs t fr e
  cases h
  exact⟨t,fr,e⟩
 ·cases h
theorem zs0{W:World}(h:laidMetH prog Rows.refusedRow.laid W):(∃eb ef,Gl W eb ef∧Pw W)∧Gd W∧Gg W:=by
 have h3:laidMet prog _ W:=laidMet.tail (laidMet.tail (show laidMet prog Rows.refusedRow.laid W from h));have h4:=laidMet.tail h3;have h5:=laidMet.tail h4;have h6:=laidMet.tail h5;have h8:=laidMet.tail (laidMet.tail h6);have h10:=laidMet.tail (laidMet.tail h8)
 have hp:Pw W:=by
  have:=Lib.tabIs_of_head (P:=prog) (zs:=Lib.pow10Tab) (k:= .u64) (g:=8) (by kernel_rfl) (by kernel_rfl) underlying293 underlying287 (by kernel_rfl) (by kernel_rfl) h3;exact zr4 (by kernel_rfl) this
 refine⟨?_, ?_, ?_⟩
 ·obtain⟨a0,a1,s0,s1,c0,c1,t0,t1,hv0,hv1,hc0,hs0,hz0,hc1,hs1,hz1,hne,hb0,hb1⟩:=laid_sentinels2 (laidMet.less h4) (g0:=0) (g1:=3) (by kernel_rfl) (by kernel_rfl) (by kernel_rfl) (by kernel_rfl) underlying120 zhe underlying299 underlying380 rfl rfl underlying9 zge zgc
  refine⟨a0,a1,⟨by simpa using World.var?_cell (by kernel_rfl) hv0 0,trivial,hne,⟨_,_,hb0⟩,⟨_,_,hb1⟩, ?_⟩,hp⟩;obtain⟨ps,⟨g,t,cs,fuel,p,q,hg,ht,hv,hd,_,_⟩,_,_⟩:=h5;obtain rfl:1=g:=Option.some.inj ((show prog.globalNamed _=some 1 by kernel_rfl).symm.trans hg);obtain rfl:180=t:=Option.some.inj ((show(prog.globals[1]?).map (·.type)=some 180 by kernel_rfl).symm.trans ht);intro j hj;rw [World.var?_cell hg hv j,←Array.getElem?_toList];exact zvc hd j hj
 ·obtain⟨a0,a1,s0,s1,c0,c1,t0,t1,hv0,hv1,_⟩:=laid_sentinels2 h8 (g0:=5) (g1:=6) (by kernel_rfl) (by kernel_rfl) (by kernel_rfl) (by kernel_rfl) underlying120 zhe underlying299 underlying380 rfl rfl underlying9 zge zgc
  obtain⟨a2,a3,s2,s3,c2,c3,t2,t3,hv2,hv3,_⟩:=laid_sentinels2 h10 (g0:=7) (g1:=2) (by kernel_rfl) (by kernel_rfl) (by kernel_rfl) (by kernel_rfl) underlying120 zhe underlying299 underlying380 rfl rfl underlying9 zge zgc;exact⟨⟨a2,by simpa using World.var?_cell (by kernel_rfl) hv2 0⟩,⟨a0,by simpa using World.var?_cell (by kernel_rfl) hv0 0⟩,⟨a1,by simpa using World.var?_cell (by kernel_rfl) hv1 0⟩,⟨a3,by simpa using World.var?_cell (by kernel_rfl) hv3 0⟩⟩
 ·obtain⟨a0,a1,s0,s1,c0,c1,t0,t1,hv0,hv1,_⟩:=laid_sentinels2 h6 (g0:=3) (g1:=4) (by kernel_rfl) (by kernel_rfl) (by kernel_rfl) (by kernel_rfl) underlying120 zhe underlying299 underlying380 rfl rfl underlying9 zge zgc
  exact⟨⟨a0,by simpa using World.var?_cell (by kernel_rfl) hv0 0⟩,⟨a1,by simpa using World.var?_cell (by kernel_rfl) hv1 0⟩⟩
