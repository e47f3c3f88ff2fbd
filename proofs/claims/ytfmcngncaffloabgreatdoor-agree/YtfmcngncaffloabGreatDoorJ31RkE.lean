import Derived.Test.YtfmcngncaffloabGreatDoorJ30RkB
import Derived.Test.YtfmcngncaffloabGreatDoorJ20AnA
set_option maxHeartbeats 3200000
namespace Go.Proofs.YtfmcngncaffloabGreatDoor
open Go.RowKit Go.Proofs.Tryz Wv
set_option maxRecDepth 100000
def stepH(n:Nat)(R:Rp)(r:Option Bm)(l:List Bm):Rp×List Bm:=match r with
 | none=>({R with held:=l.map (·.b)},l)
 | some x=>zbx n (zam R x.b (frameB x.b) ((takeP lessM (fun m=>likeB x.b m.b) l).2.map (·.b))) (takeP lessM (fun m=>likeB x.b m.b) l).2
theorem zn1(n:Nat)(R:Rp)(hs:List Bm):zbx (n+1) R hs=stepH n R (takeP lessM (fun m=>dueB R.clock m.b) hs).1 (takeP lessM (fun m=>dueB R.clock m.b) hs).2:=by
 cases h:(takeP lessM (fun m=>dueB R.clock m.b) hs).1 with
 | none=>exact zhn h
 | some x=>exact zhm h
theorem HeldAt.ats{w:World}{own:Clr}{c hp:Nat}{hv:Value}{hs:List Bm}(h:HeldAt w own c hp hv hs)(hc:0<c)(hb:∀m∈hs,Wv.isB m.b=true):∀w',Tch (fun k=>k=hp∨hv.ownBlock=some k) w w'->∀x∈hs,At w' x.ca (x.b.clock.map I)∧0<=x.b.o∧x.b.o<x.b.clock.length:=by
 intro w' hT x hx
 have h0:Same own 0 w w':=hT.same (fun k e hk=>by
  rcases hk with rfl | hk
  ·have:=h.own1;omega
  ·have:=h.own2 k hk;omega)
 obtain⟨_,h1,h2,_⟩:=zal (hb x hx);exact⟨((h.bats x hx).keep h0 (Ext.refl _ _)).k.at.1,h1,h2⟩
structure DhAt(w wr:World)(own own':Clr)(c p:Nat)(R:Rp)(cg cc hp:Nat)(mv hv ev:Value)(l:List Bm)(es:List Em):Prop where
 rp:RpIn wr own' c p R cg cc hp mv hv ev l es
 ext:Ext own own' w.heap.size
 tch:TchR own c w wr
theorem DhAt.took{w wr w':World}{own own':Clr}{c p:Nat}{R:Rp}{cg cc hp:Nat}{mv hv ev:Value}{hs l:List Bm}{es:List Em}(h:DhAt w wr own own' c p R cg cc hp mv hv ev hs es)(ho:HpOk wr hp hv l w')(hm:∀m∈l,m∈hs):∃own2 hv',DhAt w w' own own2 c p {R with held:=l.map (·.b)} cg cc hp mv hv' ev l es∧Ext own' own2 wr.heap.size∧TchC own' (c+9) wr w':=by
 obtain⟨hv',hR,hT⟩:=h.rp.took ho hm;refine⟨_,hv',⟨hR,h.ext.trans (zab _ _ _) h.tch.size,h.tch.trans hT (fun _ _ h=>h) (fun k hk e=> ?_)⟩,zab _ _ _,hT⟩;have e:own' k=c+9:=e;rw [h.ext k hk] at e;exact⟨by omega,by omega⟩
theorem DhAt.belowD{w wr w2:World}{own own':Clr}{c p:Nat}{R:Rp}{cg cc hp:Nat}{mv hv ev:Value}{hs:List Bm}{es:List Em}(h:DhAt w wr own own' c p R cg cc hp mv hv ev hs es)(hb:Below wr.heap.size wr w2)(d:Nat):DhAt w w2 own (newTo own' wr.heap.size d) c p R cg cc hp mv hv ev hs es:=
 ⟨h.rp.keep (fun b hl _=>hb.block b hl) (fun _ _ _ b hl _=>hb.block b hl) (zab _ _ _),h.ext.trans (zab _ _ _) h.tch.size,h.tch.then (Tch.below hb)⟩
theorem DhAt.below{w wr w2:World}{own own':Clr}{c p:Nat}{R:Rp}{cg cc hp:Nat}{mv hv ev:Value}{hs:List Bm}{es:List Em}(h:DhAt w wr own own' c p R cg cc hp mv hv ev hs es)(hb:Below wr.heap.size wr w2):DhAt w w2 own (newTo own' wr.heap.size 0) c p R cg cc hp mv hv ev hs es:=h.belowD hb 0
theorem DhAt.box{w wr w2:World}{own own':Clr}{c p:Nat}{R:Rp}{cg cc hp:Nat}{mv hv ev:Value}{hs:List Bm}{es:List Em}{bb:Nat}(h:DhAt w wr own own' c p R cg cc hp mv hv ev hs es)(hT:Tch (fun k=>k=bb) wr w2)(hb0:own' bb ≠ 0)(hb1:¬(c<=own' bb∧own' bb<=c+10))(hbw:w.heap.size<=bb):DhAt w w2 own own' c p R cg cc hp mv hv ev hs es:=by
 have hS:∀d,d ≠ own' bb->Same own' d wr w2:=fun d hd=>hT.same (fun k e e2=>hd (by rw [←e,e2]))
 exact⟨h.rp.keep (hS 0 (fun e=>hb0 e.symm)) (fun d h1 h2=>hS d (fun e=>hb1 ⟨by omega,by omega⟩)) (Ext.refl _ _),h.ext,h.tch.trans hT (fun _ _ h=>h) (fun k hk e=>absurd (show k=bb from e) (by omega))⟩
theorem DhAt.delivered{w wr w2:World}{own own':Clr}{c p:Nat}{R R2:Rp}{cg cc hp:Nat}{mv hv ev:Value}{hs l:List Bm}{es:List Em}(h:DhAt w wr own own' c p R cg cc hp mv hv ev hs es)(hd:DelOk wr own' c p R2 cg cc hp mv ev l es w2):∃own2 hv2,DhAt w w2 own own2 c p R2 cg cc hp mv hv2 ev l es∧Ext own' own2 wr.heap.size∧TchR own' c wr w2:=by
 obtain⟨own2,hv2,hE,hR,hT⟩:=hd;refine⟨own2,hv2,⟨hR,h.ext.trans hE h.tch.size,h.tch.trans hT (fun _ _ h=>h) (fun k hk e=> ?_)⟩,hE,hT⟩;rw [h.ext k hk] at e;exact e
def lenH(hp:Nat)(w:World):Nat:=match w.cell? ⟨hp,0,none⟩ with
 | some (.slice _ n _)=>n
 | _=>0
def flagN:Value->Nat
 | .bool true=>1
 | _=>0
theorem HpIn.lenH{w:World}{hp:Nat}{v:Value}{bs:List Bm}(h:HpIn w hp v bs):lenH hp w=bs.length:=by
 have h0:w.cell? ⟨hp,0,none⟩=some v:=h.blk.cell 0
 have:∃a c,v= .slice a bs.length c:=by
  rcases h.row.2 with⟨rfl,hz⟩ | ⟨g,cap,cur,rfl,_⟩
  ·exact⟨_,_,by rw [hz]⟩
  ·exact⟨_,_,rfl⟩
 obtain⟨a,c,rfl⟩:=this;unfold Go.Proofs.YtfmcngncaffloabGreatDoor.lenH;rw [h0]
structure DhSt(w w0 wX:World)(own own':Clr)(c p:Nat)(R:Rp)(cg cc hp:Nat)(mv hv ev:Value)(l:List Bm)(es:List Em)(r:Option Bm)(n bb:Nat)(eb ef:Addr)(F:Rp×List Bm):Prop where
 d:DhAt w wX own own' c p R cg cc hp mv hv ev l es
 ans:F=stepH n R r l
 ok:Rok R
 cnt:l.length+r.toList.length<=n
 due:∀x,r=some x->dueB R.clock x.b=true∧Wv.isB x.b=true∧BatIn wX own' x
 box:Blk wX bb (bmC (r.getD bmZ)) 134
 boxc:¬(c<=own' bb∧own' bb<=c+10)
 env:Env w0 wX own' eb ef
theorem zqw{w w0 wr w' wX:World}{own own':Clr}{c p:Nat}{R:Rp}{cg cc hp:Nat}{mv hv ev:Value}{hs:List Bm}{es:List Em}{n bb:Nat}{eb ef:Addr}(h:DhAt w wr own own' c p R cg cc hp mv hv ev hs es)(hok:Rok R)(hen:Env w0 wr own' eb ef)(ho:HpOk wr hp hv (takeP lessM (fun m=>dueB R.clock m.b) hs).2 w')(hn:hs.length<=n)
  (hx:∀own2 hv',DhAt w w' own own2 c p {R with held:=(takeP lessM (fun m=>dueB R.clock m.b) hs).2.map (·.b)} cg cc hp mv hv' ev (takeP lessM (fun m=>dueB R.clock m.b) hs).2 es->Ext own' own2 wr.heap.size->TchC own' (c+9) wr w'->∃own3,DhAt w wX own own3 c p {R with held:=(takeP lessM (fun m=>dueB R.clock m.b) hs).2.map (·.b)} cg cc hp mv hv' ev (takeP lessM (fun m=>dueB R.clock m.b) hs).2 es∧Ext own' own3 wr.heap.size∧Tch (fun k=>own' k ≠ 0) wr wX∧¬(c<=own3 bb∧own3 bb<=c+10)) (hb:Blk wX bb (bmC ((takeP lessM (fun m=>dueB R.clock m.b) hs).1.getD bmZ)) 134):
  ∃own3 hv3,DhSt w w0 wX own own3 c p {R with held:=(takeP lessM (fun m=>dueB R.clock m.b) hs).2.map (·.b)} cg cc hp mv hv3 ev (takeP lessM (fun m=>dueB R.clock m.b) hs).2 es (takeP lessM (fun m=>dueB R.clock m.b) hs).1 n bb eb ef (zbx (n+1) R hs):=by
 obtain⟨own2,hv2,hD,hE,hT⟩:=h.took ho (fun m hm=>za6 _ _ _ m (Or.inr hm));obtain⟨own3,hD3,hE3,hT3,hb0⟩:=hx own2 hv2 hD hE hT;have hhb:∀m∈hs,Wv.isB m.b=true:=fun m hm=>hok.held m.b (by rw [h.rp.heldB];exact List.mem_map_of_mem hm)
 have hhl:hs.length<=6:=by have:=hok.most;rw [h.rp.heldB,av] at this;exact this
 have hlen:=zdl lessM (fun m=>dueB R.clock m.b) hs;refine⟨own3,hv2,hD3,zn1 n R hs,hok.heldTo (fun b hb=> ?_) ?_,by omega,fun x hx=> ?_,hb,hb0,hen.tch hT3 (fun k e e2=>e2 e) hE3⟩
 ·obtain⟨m,hm,rfl⟩:=aG.1 hb
  exact hhb m (za6 _ _ _ m (Or.inr hm))
 ·rw [av];omega
 ·have hm:x∈hs:=za6 _ _ _ x (Or.inl (by rw [hx];simp))
  exact⟨zju (f:=fun m:Bm=>dueB R.clock m.b) hx,hhb x hm,(h.rp.held.bats x hm).keep (hT3.same (fun k e e2=>e2 e)) hE3⟩
theorem zxk(own:Clr)(c p:Nat)(R:Rp)(cg cc hp:Nat)(mv hv ev:Value)(hs:List Bm)(es:List Em)(w w0:World)(eb ef:Addr)(hI:zaj)(hen:Env w0 w own eb ef)(hc0:0<c)(h:RpIn w own c p R cg cc hp mv hv ev hs es)(hok:Rok R):
  Calls prog 129 #[.pointer (some ⟨p,0,none⟩)] w fun e w'=>e= .returned (.tuple #[])∧DelOk w own c p (zbx (hs.length+1) R hs).1 cg cc hp mv ev (zbx (hs.length+1) R hs).2 es w':=by
 have HR:Hid (RpIn w own c p R cg cc hp mv hv ev hs es):=h;have HEN:Hid (Env w0 w own eb ef):=hen;have HOK:Hid (Rok R):=hok;have c7:w.cell? ⟨p,7,none⟩=some (.pointer (some ⟨hp,0,none⟩)):=h.blk.cell 7;clear h hen hok;obtain⟨F,HF⟩:∃F,Hid (zbx (hs.length+1) R hs=F):=⟨_,rfl⟩
 rw [HF.out];go_enter func129,ntmps129;go_wp2_with fail
 have HNV:Hid (hp ≠ p∧¬hv.ownBlock=some p):=by
  have h9:=HR.out.held.own1;have h8:=HR.out.own1;refine⟨fun e=> ?_,fun e=> ?_⟩
  ·rw [e,h8] at h9;omega
  ·have:=HR.out.held.own2 p e;omega
 have HNG:Hid (hp ≠ cg∧¬hv.ownBlock=some cg):=by
  have h9:=HR.out.held.own1;have h8:=HR.out.own2;refine⟨fun e=> ?_,fun e=> ?_⟩
  ·rw [e,h8] at h9;omega
  ·have:=HR.out.held.own2 cg e;omega
 have HHB:Hid (∀m∈hs,Wv.isB m.b=true):=fun m hm=>HOK.out.held m.b (by rw [HR.out.heldB];exact List.mem_map_of_mem hm)
 have HHL:Hid (hs.length<=6):=by have:=HOK.out.most;rw [HR.out.heldB,av] at this;exact this
 refine(zmj hp hv hs p cg cc R.clock w HR.out.held.hpx (aQ HHL.out (by omega)) HR.out.clkAt ⟨HNV.out.1.symm,HNV.out.2⟩ ⟨HNG.out.1.symm,HNG.out.2⟩ (aQ HOK.out.len (by omega)) (fun j=>Int.le_trans (HOK.out.getD j).2 (by omega)) (fun j=>Int.le_trans (by omega) (HOK.out.getD j).1) (HR.out.held.ats (by omega) HHB.out)).mono ?_;rintro e w1 ⟨rfl,ho1⟩;obtain⟨own1,hv1,hS1⟩:=zqw (n:=hs.length) (bb:=w1.heap.size) (wX:=w1.alloc (.cells (bmC ((takeP lessM (fun m=>dueB R.clock m.b) hs).1.getD bmZ)) 134)) ⟨HR.out,Ext.refl _ _,Tch.refl _ _⟩ HOK.out HEN.out ho1 (ac _) (fun own2 hv2 hD hE hT=>⟨newTo own2 w1.heap.size 0,hD.below ((Below.refl _ _).alloc (ac _) _),hE.trans (zab _ _ _) hT.size,(hT.mono (fun k _ e=>by show own k ≠ 0;have e:own k=c+9:=e;omega)).alloc _,by rw [zaf _ _ _ _ (ac _)];omega⟩) (heap_alloc_new w1 _);rw [HF.out] at hS1;have HS1:Hid (DhSt w w0 (w1.alloc (.cells (bmC ((takeP lessM (fun m=>dueB R.clock m.b) hs).1.getD bmZ)) 134)) own own1 c p {R with held:=(takeP lessM (fun m=>dueB R.clock m.b) hs).2.map (·.b)} cg cc hp mv hv1 ev (takeP lessM (fun m=>dueB R.clock m.b) hs).2 es (takeP lessM (fun m=>dueB R.clock m.b) hs).1 hs.length w1.heap.size eb ef F):=hS1;have HPW:Hid (p<w.heap.size∧own p=c):=⟨HR.out.blk.lt,HR.out.own1⟩
 clear ho1 hS1 c7;generalize (takeP lessM (fun m=>dueB R.clock m.b) hs).2=l1 at *
 generalize (takeP lessM (fun m=>dueB R.clock m.b) hs).1=r1 at *
 go_wp2_with fail
 go_loopw [2,3] (fun vb vf wX=>∃(n bb:Nat) (r:Option Bm) (l:List Bm) (R':Rp) (own':Clr) (hv':Value),vb= .pointer (some ⟨bb,0,none⟩)∧vf= .bool r.isSome∧Hid (DhSt w w0 wX own own' c p R' cg cc hp mv hv' ev l es r n bb eb ef F)) (fun _ vf wX=>lenH hp wX+flagN vf)
 case atStart=>exact⟨_,_,_,_,_,_,_,rfl,rfl,HS1⟩
 case round=>
  obtain⟨n,bb,r,l,R',own',hv',rfl,rfl,HS⟩:=hrel;clear HS1 HR HEN HOK HNV HNG HHB HHL;cases r with
  | none=>
   have HE:Hid (DelOk w own c p F.1 cg cc hp mv ev F.2 es wr):=by
    have h9:=HS.out.ans;show DelOk _ _ _ _ _ _ _ _ _ _ _ _ _;rw [h9];have hd:=HS.out.d
    have e:{R' with held:=l.map (·.b)}=R':=by
     have:=hd.rp.heldB;cases R'
     simp only at this;subst this;rfl
    show DelOk w own c p {R' with held:=l.map (·.b)} cg cc hp mv ev l es wr;rw [e];exact⟨own',hv',hd.ext,hd.rp,hd.tch⟩
   go_wp2;go_end0;exact⟨rfl,HE.out⟩
  | some x=>
   obtain⟨hdue,hisb,hbat⟩:=HS.out.due x rfl;have HDUE:Hid (dueB R'.clock x.b=true):=hdue;have HISB:Hid (Wv.isB x.b=true):=hisb;have HBAT:Hid (BatIn wr own' x):=hbat;have HXB:Hid (Blk wr bb (bmC x) 134):=HS.out.box;clear hdue hisb hbat;have HBD:Hid (Blk wr.drew bb (bmC x) 134):=HXB.out;have y0:wr.drew.cell? ⟨bb,0,none⟩=some (I x.b.o):=HBD.out.cell 0;have y1:wr.drew.cell? ⟨bb,1,none⟩=some (I x.b.s):=HBD.out.cell 1;have y2:wr.drew.cell? ⟨bb,2,none⟩=some (I x.b.t):=HBD.out.cell 2;have y3:wr.drew.cell? ⟨bb,3,none⟩=some (.slice x.ca x.b.clock.length x.cc):=HBD.out.cell 3;have y4:wr.drew.cell? ⟨bb,4,none⟩=some (.slice x.ea x.b.effs.length x.ec):=HBD.out.cell 4;have HBAT2:Hid (BatAt wr.drew x.b x.ca x.ea x.ms):=HBAT.out.k.at.kept (Below.refl _ _).drew;have HGL:Hid (Gl wr.drew eb ef):=HS.out.env.gl.kept HS.out.env.bel.drew;have HPWR:Hid (Pw wr.drew):=HS.out.env.pw.kept HS.out.env.bel.drew
   have HLG:Hid (R'.log.length+(frameB x.b).length<=100000000):=by
    have h1:=HS.out.ok.logl;have h2:=HS.out.ok.sum;have h3:=frame_len x.b HISB.out;show _<=_;omega
   have HOX:Hid (0<=x.b.o∧x.b.o<(R'.clock.length:Int)):=by
    obtain⟨_,h1,h2,_⟩:=zal HISB.out;have h3:=(zbf HDUE.out).1;exact⟨h1,by omega⟩
   have HNN:Hid (5*sumN R'.clock+x.b.effs.length<=100000):=by
    have h2:=HS.out.ok.sum;obtain⟨_,_,_,_,_,_,_,h3⟩:=zal HISB.out;show _<=_;omega
   have HLL:Hid (l.length<=1000):=by
    have h1:=HS.out.ok.most;rw [HS.out.d.rp.heldB,av] at h1;show _<=_;omega
   go_wp2_with fail
   go_region_held_law (fun w'=>w'.cell? ⟨bb,0,none⟩=some (I x.b.o)∧w'.cell? ⟨bb,1,none⟩=some (I x.b.s)∧w'.cell? ⟨bb,2,none⟩=some (I x.b.t)∧w'.cell? ⟨bb,3,none⟩=some (.slice x.ca x.b.clock.length x.cc)∧w'.cell? ⟨bb,4,none⟩=some (.slice x.ea x.b.effs.length x.ec)) (exact⟨by with_reducible assumption,by with_reducible assumption,by with_reducible assumption,by with_reducible assumption,by with_reducible assumption⟩)
    (first
    | (go_at_call 72;refine(zfw x _ eb ef hI HGL.out HPWR.out HBAT2.out HISB.out).mono ?_;rintro e w4 ⟨rfl,hb4⟩;have HB4:Hid (Below wr.heap.size wr w4):=(Below.refl _ _).drew.trans hb4;clear hb4;have HX4:Hid (Blk w4 bb (bmC x) 134):=HXB.out.kept HB4.out HXB.out.lt;have f0:w4.cell? ⟨bb,0,none⟩=some (I x.b.o):=HX4.out.cell 0;have f1:w4.cell? ⟨bb,1,none⟩=some (I x.b.s):=HX4.out.cell 1;have f2:w4.cell? ⟨bb,2,none⟩=some (I x.b.t):=HX4.out.cell 2;have f3:w4.cell? ⟨bb,3,none⟩=some (.slice x.ca x.b.clock.length x.cc):=HX4.out.cell 3;have f4:w4.cell? ⟨bb,4,none⟩=some (.slice x.ea x.b.effs.length x.ec):=HX4.out.cell 4)
    | (go_at_call 73;refine(zea (newTo own' wr.heap.size 0) c p R' cg cc hp mv hv' ev l es x (frameB x.b) _ hc0 (HS.out.d.below HB4.out).rp ((HBAT.out.keep (fun b hb _=>HB4.out.block b hb) (zab _ _ _)).k.mono (fun d e=>Or.inl e)) HLL.out HLG.out HOX.out.1 HOX.out.2 HS.out.ok.obs8 (5*sumN R'.clock) HNN.out HS.out.ok.bd (zhl HISB.out)).mono ?_;rintro e w5 ⟨rfl,hd5⟩;have HD5:Hid (DelOk w4 (newTo own' wr.heap.size 0) c p (zam R' x.b (frameB x.b) ((takeP lessM (fun m=>likeB x.b m.b) l).2.map (·.b))) cg cc hp mv ev (takeP lessM (fun m=>likeB x.b m.b) l).2 es w5):=hd5;clear hd5;have HX5:Hid (Blk w5 bb (bmC x) 134):=(by obtain⟨_,_,_,_,hT⟩:=HD5.out;refine hT.blk HX4.out (fun e=> ?_);rw [zae _ _ _ _ HXB.out.lt] at e;have:=HS.out.boxc;omega);have g0:w5.cell? ⟨bb,0,none⟩=some (I x.b.o):=HX5.out.cell 0;have g1:w5.cell? ⟨bb,1,none⟩=some (I x.b.s):=HX5.out.cell 1;have g2:w5.cell? ⟨bb,2,none⟩=some (I x.b.t):=HX5.out.cell 2;have g3:w5.cell? ⟨bb,3,none⟩=some (.slice x.ca x.b.clock.length x.cc):=HX5.out.cell 3;have g4:w5.cell? ⟨bb,4,none⟩=some (.slice x.ea x.b.effs.length x.ec):=HX5.out.cell 4))
   obtain⟨own5,hv5,hD5,hE5,hT5⟩:=(HS.out.d.below HB4.out).delivered HD5.out;obtain⟨dc,hdc,hdm⟩:=zhp own5 (c+10) w5.heap.size;have hen4:Env w0 w4 (newTo own' wr.heap.size 0) eb ef:=HS.out.env.tch (F:=fun _=>False) (Tch.below HB4.out) (fun _ _ h=>h) (zab _ _ _);have hen5:Env w0 w5 own5 eb ef:=hen4.tch hT5 (fun k e h=>by rw [e] at h;omega) hE5;obtain⟨w6,hw6⟩:∃w6,w6=w5.alloc (.cells (bmC x) 134):=⟨_,rfl⟩
   have hB6:Below w5.heap.size w5 w6:=by rw [hw6];exact(Below.refl _ _).alloc (ac _) _
   have HX6:Hid (Blk w6 w5.heap.size (bmC x) 134):=by rw [hw6];exact heap_alloc_new w5 _
   have HSZ6:Hid (w5.heap.size<w6.heap.size):=HX6.out.lt;have HEN6:Hid (Env w0 w6 (newTo own5 w5.heap.size dc) eb ef):=hen5.tch (F:=fun _=>False) (Tch.below hB6) (fun _ _ h=>h) (zab _ _ _);have HDC:Hid (c+10<dc):=hdc;obtain⟨Rd,HRD⟩:∃Rd,Hid (zam R' x.b (frameB x.b) ((takeP lessM (fun m=>likeB x.b m.b) l).2.map (·.b))=Rd):=⟨_,rfl⟩
   have hok5:Rok Rd:=by
    rw [←HRD.out];have hhb:∀m∈l,Wv.isB m.b=true:=fun m hm=>HS.out.ok.held m.b (by rw [HS.out.d.rp.heldB];exact List.mem_map_of_mem hm)
    refine HS.out.ok.deliver HISB.out (zbd HISB.out) HDUE.out (fun y hy=> ?_) ?_
    ·obtain⟨m,hm,rfl⟩:=aG.1 hy
     exact hhb m (za6 _ _ _ m (Or.inr hm))
    ·have h1:=HS.out.ok.most
     rw [HS.out.d.rp.heldB,av] at h1;have:=zdl lessM (fun m=>likeB x.b m.b) l;rw [av];omega
   have HOK5:Hid (Rok Rd):=hok5
   have HANS:Hid (F=zbx n Rd (takeP lessM (fun m=>likeB x.b m.b) l).2):=by
    show _=_;rw [HS.out.ans,←HRD.out];rfl
   have HLE2:Hid ((takeP lessM (fun m=>likeB x.b m.b) l).2.length<=l.length):=by
    have:=zdl lessM (fun m=>likeB x.b m.b) l;show _<=_;omega
   have HCNT:Hid (l.length+1<=n):=by have:=HS.out.cnt;show _<=_;simpa using this
   have hlH:lenH hp wr=l.length:=HS.out.d.rp.held.hpx.lenH;have HLH:Hid (lenH hp wr=l.length):=hlH;rw [HRD.out] at hD5;have HD6:Hid (DhAt w w6 own (newTo own5 w5.heap.size dc) c p Rd cg cc hp mv hv5 ev (takeP lessM (fun m=>likeB x.b m.b) l).2 es):=hD5.belowD hB6 dc;have HW5:Hid (w.heap.size<=w5.heap.size):=hD5.tch.size;have HBC:Hid (newTo own5 w5.heap.size dc w5.heap.size=dc):=zaf _ _ _ _ (ac _);clear hD5 hE5 hT5 hdc hdm hen4 hen5 hB6 hok5 hlH HD5 HX5 HX4 HB4 f0 f1 f2 f3 f4 HS HXB HBD HBAT HBAT2 HGL HPWR HLG HOX HNN HLL HRD HDUE HISB;generalize (takeP lessM (fun m=>likeB x.b m.b) l).2=l2 at *
   generalize newTo own5 w5.heap.size dc=own6 at *
   have c7:(w5.alloc (.cells #[I x.b.o,I x.b.s,I x.b.t, .slice x.ca x.b.clock.length x.cc, .slice x.ea x.b.effs.length x.ec] 134)).cell? ⟨p,7,none⟩=some (.pointer (some ⟨hp,0,none⟩)):=by
    have e:w5.alloc (.cells #[I x.b.o,I x.b.s,I x.b.t, .slice x.ca x.b.clock.length x.cc, .slice x.ea x.b.effs.length x.ec] 134)=w6:=hw6.symm;rw [e];exact HD6.out.rp.blk.cell 7
   go_wp2_with fail
   change Calls _ _ _ (w5.alloc (.cells (bmC x) 134)) _;rw [←hw6];clear hw6 g0 g1 g2 g3 g4 y0 y1 y2 y3 y4 c7;have HHB:Hid (∀m∈l2,Wv.isB m.b=true):=fun m hm=>HOK5.out.held m.b (by rw [HD6.out.rp.heldB];exact List.mem_map_of_mem hm)
   have HNV:Hid (hp ≠ p∧¬hv5.ownBlock=some p):=by
    have h9:=HD6.out.rp.held.own1;have h8:=HD6.out.rp.own1;refine⟨fun e=> ?_,fun e=> ?_⟩
    ·rw [e,h8] at h9;omega
    ·have:=HD6.out.rp.held.own2 p e;omega
   have HNG:Hid (hp ≠ cg∧¬hv5.ownBlock=some cg):=by
    have h9:=HD6.out.rp.held.own1;have h8:=HD6.out.rp.own2;refine⟨fun e=> ?_,fun e=> ?_⟩
    ·rw [e,h8] at h9;omega
    ·have:=HD6.out.rp.held.own2 cg e;omega
   have HBN:Hid (w5.heap.size ≠ hp∧¬hv5.ownBlock=some w5.heap.size):=by
    have h9:=HD6.out.rp.held.own1;have h8:=HBC.out;have h7:=HDC.out;refine⟨fun e=> ?_,fun e=> ?_⟩
    ·rw [e] at h8;omega
    ·have:=HD6.out.rp.held.own2 _ e;omega
   have HL6:Hid (l2.length<=1000):=by
    have h1:=HOK5.out.most;rw [HD6.out.rp.heldB,av] at h1;show _<=_;omega
   refine(zmj hp hv5 l2 p cg cc Rd.clock w6 HD6.out.rp.held.hpx HL6.out HD6.out.rp.clkAt ⟨HNV.out.1.symm,HNV.out.2⟩ ⟨HNG.out.1.symm,HNG.out.2⟩ (aQ HOK5.out.len (by omega)) (fun j=>Int.le_trans (HOK5.out.getD j).2 (by omega)) (fun j=>Int.le_trans (by omega) (HOK5.out.getD j).1) (HD6.out.rp.held.ats (by omega) HHB.out)).mono ?_;rintro e w7 ⟨rfl,ho7⟩;have HO7:Hid (HpOk w6 hp hv5 (takeP lessM (fun m=>dueB Rd.clock m.b) l2).2 w7):=ho7
   have HX7:Hid (Blk w7 w5.heap.size (bmC x) 134):=by
    obtain⟨_,_,hT,_⟩:=ho7;exact hT.blk HX6.out (by rintro(e | e);exact HBN.out.1 e;exact HBN.out.2 e)
   clear ho7 HX6;have x0:w7.cell? ⟨w5.heap.size,0,none⟩=some (I x.b.o):=HX7.out.cell 0;have x1:w7.cell? ⟨w5.heap.size,1,none⟩=some (I x.b.s):=HX7.out.cell 1;have x2:w7.cell? ⟨w5.heap.size,2,none⟩=some (I x.b.t):=HX7.out.cell 2;have x3:w7.cell? ⟨w5.heap.size,3,none⟩=some (.slice x.ca x.b.clock.length x.cc):=HX7.out.cell 3;have x4:w7.cell? ⟨w5.heap.size,4,none⟩=some (.slice x.ea x.b.effs.length x.ec):=HX7.out.cell 4;have z0:=HX7.out.frozen 0;have z1:=HX7.out.frozen 1;have z2:=HX7.out.frozen 2;have z3:=HX7.out.frozen 3;have z4:=HX7.out.frozen 4;obtain⟨n',rfl⟩:∃n',n=n'+1:=⟨n - 1,by have:=HCNT.out;omega⟩
   have HNX:Hid (∃own3 hv3,DhSt w w0 (put5b w7 w5.heap.size 0 ((takeP lessM (fun m=>dueB Rd.clock m.b) l2).1.getD bmZ)) own own3 c p {Rd with held:=(takeP lessM (fun m=>dueB Rd.clock m.b) l2).2.map (·.b)} cg cc hp mv hv3 ev (takeP lessM (fun m=>dueB Rd.clock m.b) l2).2 es (takeP lessM (fun m=>dueB Rd.clock m.b) l2).1 n' w5.heap.size eb ef F):=by
    have h9:=zqw (n:=n') (bb:=w5.heap.size) (wX:=put5b w7 w5.heap.size 0 ((takeP lessM (fun m=>dueB Rd.clock m.b) l2).1.getD bmZ)) HD6.out HOK5.out HEN6.out HO7.out (by have:=HCNT.out;have:=HLE2.out;omega) (fun own2 hv2 hD hE hT=>by
     have hbl:w5.heap.size<w6.heap.size:=HSZ6.out;have hcol:own2 w5.heap.size=dc:=(hE _ hbl).trans HBC.out;have hd:=HDC.out;have hP:=zav w7 w5.heap.size 0 ((takeP lessM (fun m=>dueB Rd.clock m.b) l2).1.getD bmZ);refine⟨own2,hD.box hP (by omega) (by omega) HW5.out,hE,hT.trans hP (fun k _ e=> ?_) (fun k _ e=> ?_),by omega⟩
     ·have e:own6 k=c+9:=e
      show own6 k ≠ 0;omega
     ·have e:k=w5.heap.size:=e
      show own6 k ≠ 0;rw [e,HBC.out]
      omega) (((((HX7.out.set 0 _).set 1 _).set 2 _).set 3 _).set 4 _)
    rw [←HANS.out] at h9;exact h9
   have HLM:Hid ((takeP lessM (fun m=>dueB Rd.clock m.b) l2).2.length+(takeP lessM (fun m=>dueB Rd.clock m.b) l2).1.toList.length<=l2.length):=by
    have:=zdl lessM (fun m=>dueB Rd.clock m.b) l2;show _<=_;omega
   clear HO7 HX7 HD6 HOK5 HEN6;generalize (takeP lessM (fun m=>dueB Rd.clock m.b) l2).2=l7 at *
   generalize (takeP lessM (fun m=>dueB Rd.clock m.b) l2).1=r7 at *
   obtain⟨own3,hv3,HS7⟩:=HNX.out;have HS7:Hid (DhSt w w0 (put5b w7 w5.heap.size 0 (r7.getD bmZ)) own own3 c p {Rd with held:=l7.map (·.b)} cg cc hp mv hv3 ev l7 es r7 n' w5.heap.size eb ef F):=HS7;clear HNX;go_wp2_with fail
   go_roundw
   case rel=>exact⟨_,_,_,_,_,_,_,rfl,rfl,HS7⟩
   case measure=>
    have h1:=HS7.out.d.rp.held.hpx.lenH;have h2:=HLH.out;have h3:=HLM.out;have h4:=HLE2.out;have h5:flagN (.bool r7.isSome)=r7.toList.length:=by cases r7<;>rfl
    show lenH hp (put5b w7 w5.heap.size 0 (r7.getD bmZ))+flagN (.bool r7.isSome)<lenH hp wr+flagN (.bool true);rw [h1,h2,h5];show _<l.length+1;omega
def ROk(w:World)(own:Clr)(c p:Nat)(R:Rp)(w':World):Prop:=∃own',Ext own own' w.heap.size∧RpAt w' own' c p R∧Tch (fun k=>c<=own k∧own k<=c+10) w w'
theorem ROk.del{w w':World}{own:Clr}{c p:Nat}{R:Rp}{cg cc hp:Nat}{mv ev:Value}{hs:List Bm}{es:List Em}(h:DelOk w own c p R cg cc hp mv ev hs es w'):ROk w own c p R w':=by
 obtain⟨own',hv',hE,hR,hT⟩:=h;exact⟨own',hE,⟨_,_,_,_,_,_,_,_,hR⟩,hT.mono (fun k _ h=>⟨h.1,by omega⟩)⟩
theorem ROk.below{w w':World}{own:Clr}{c p:Nat}{R:Rp}(h:RpAt w own c p R)(hb:Below w.heap.size w w'):ROk w own c p R w':=by
 obtain⟨cg,cc,hp,mv,hv,ev,hs,es,h⟩:=h;exact⟨newTo own w.heap.size 0,zab _ _ _,⟨_,_,_,_,_,_,_,_,h.keep (fun b hl _=>hb.block b hl) (fun _ _ _ b hl _=>hb.block b hl) (zab _ _ _)⟩,Tch.below hb⟩
theorem ROk.self{w w':World}{own:Clr}{c p:Nat}{R:Rp}{cg cc hp:Nat}{mv hv ev:Value}{hs:List Bm}{es:List Em}(ho:own p=c)(h:zb2 w own c p R cg cc hp mv hv ev hs es w'):ROk w own c p R w':=
 ⟨own,Ext.refl _ _,⟨_,_,_,_,_,_,_,_,h.1⟩,h.2.mono (fun k _ e=>by rw [e,ho];omega)⟩
theorem ROk.add{w w':World}{own:Clr}{c p:Nat}{R:Rp}{cg cc hp:Nat}{mv hv:Value}{hs:List Bm}{es:List Em}(h:AddOk w own c p R cg cc hp mv hv hs es w'):ROk w own c p R w':=by
 obtain⟨own',ev',hE,hR,hT⟩:=h;exact⟨own',hE,⟨_,_,_,_,_,_,_,_,hR⟩,hT.mono (fun k _ h=>by rcases h with h | h<;>omega)⟩
theorem ROk.cm{w w':World}{own:Clr}{c p:Nat}{R:Rp}{cg cc hp:Nat}{mv:Value}{hs:List Bm}(h:CmOk w own c p R cg cc hp mv hs w'):ROk w own c p R w':=by
 obtain⟨own',hv',hE,hR,hT⟩:=h;exact⟨own',hE,⟨_,_,_,_,_,_,_,_,hR⟩,hT.mono (fun k _ h=>⟨h.1,by omega⟩)⟩
theorem ROk.hold{w w':World}{own:Clr}{c p:Nat}{R:Rp}{cg cc hp:Nat}{mv ev:Value}{hs:List Bm}{es:List Em}(h:zok w own c p R cg cc hp mv ev hs es w'):ROk w own c p R w':=by
 obtain⟨own',hv',hE,hR,hT⟩:=h;exact⟨own',hE,⟨_,_,_,_,_,_,_,_,hR⟩,hT.mono (fun k _ h=>⟨h.1,by omega⟩)⟩
theorem ROk.from{w w5 w6:World}{own own5:Clr}{c p:Nat}{R:Rp}(hE5:Ext own own5 w.heap.size)(hT5:Tch (fun k=>c<=own k∧own k<=c+10) w w5)(h:ROk w5 own5 c p R w6):ROk w own c p R w6:=by
 obtain⟨own',hE,hR,hT⟩:=h;exact⟨own',hE5.trans hE hT5.size,hR,hT5.trans hT (fun _ _ h=>h) (fun k hk h=>by rw [hE5 k hk] at h;exact h)⟩
def za4(R:Rp)(l:List UInt8):Rp:=match dec l with
 | none=>R
 | some b=>if b.clock.length ≠ R.clock.length∨b.s<=R.clock.getD b.o.toNat 0 then R
  else if dueB R.clock b then heldR ((takeP zah (likeB b) R.held).2.length+1) (zam R b l (takeP zah (likeB b) R.held).2)
  else if R.held.length<6∧(R.held.any (likeB b))=false then {R with held:=pushP zah R.held b} else R
theorem zht{l:List UInt8}{b:Bt}(h:dec l=some b):Wv.isB b=true∧l.length<=65535:=by
 unfold dec at h;split at h
 ·rename_i ho
  unfold decC at h;split at h
  ·rename_i hq
   cases h
   refine⟨hq.2, ?_⟩;have h2:=ho.2.1
   have:num2 l<=65535:=by
    unfold num2;have h8:=(l.getD 0 0).toNat_lt;have h9:=(l.getD 1 0).toNat_lt;omega
   omega
  ·cases h
 ·cases h
theorem znt{w':World}{own:Clr}{base:Nat}{e:TypeId}{z n m c:Nat}{a:Option Addr}{xs:List Value}(h:w'.ownsRow base e z (.slice a m c) n xs):At0 w' (newTo own base 0) a xs:=by
 intro j u hj;rcases h.2 with⟨_,hn⟩ | ⟨g,cap,cur,e1,hb,_⟩
 ·have h1:=h.1
  rw [hn,Nat.zero_mul] at h1;rw [aw h1] at hj;simp at hj
 ·cases e1
  have hc:=h.cells (g:=g) rfl j u hj;rw [Addr.add_lit] at hc;exact⟨g,0,rfl,zaf _ _ _ _ hb,hc⟩
theorem zse{w w':World}{own:Clr}{b:Bt}{ca ea:Option Addr}{cc ec:Nat}{ms:List Em}(he:b.effs=ms.map (·.e))(h:OwB w' w.heap.size (.slice ca b.clock.length cc) (.slice ea b.effs.length ec) b.clock ms):BatIn w' (newTo own w.heap.size 0) ⟨b,ca,ea,cc,ec,ms⟩:=
 ⟨znt h.clock,he,znt h.cells,fun x hx=>znt (h.dots x hx)⟩
theorem zjv(own:Clr)(c p:Nat)(R:Rp)(l:List UInt8)(w w0:World)(eb ef:Addr)(hI:zaj)(hg:Gd w)(hen:Env w0 w own eb ef)(h:RpAt w own c p R)(hl:l.length<=9223372036854775807)(hd:dec l=none):
  Calls prog 90 #[.pointer (some ⟨p,0,none⟩), .string ⟨l.toArray⟩] w fun e w'=>e= .returned (.tuple #[])∧ROk w own c p R w':=by
 have HR:Hid (RpAt w own c p R):=h;have HC:Hid (Calls prog 126 #[.string ⟨l.toArray⟩] w fun e w'=>(∃n y,e= .returned (.tuple #[zeroBat,FltF n y]))∧Below w.heap.size w w'):=zi4 l w eb ef hI (hen.gl.kept hen.bel) (hen.pw.kept hen.bel) hg hl hd;clear h hen hg;go_enter func90,ntmps90;go_wp2_with fail
 refine HC.out.mono ?_;rintro e w1 ⟨⟨n,y,rfl⟩,hb1⟩;have HB:Hid (Below w.heap.size w w1):=hb1;clear hb1 HC;go_wp2_with fail
 go_quiet (fail)
 go_wp2;refine bodyPost_ret (results_none rfl _ _ _) rfl ?_;exact⟨rfl,ROk.below HR.out (za7 (HB.out.alloc HB.out.size _) _)⟩
structure TfAt(w w0 wr:World)(own own':Clr)(c p:Nat)(R:Rp)(cg cc hp:Nat)(mv hv ev:Value)(hs:List Bm)(es:List Em)(x:Bm)(bb:Nat)(eb ef:Addr):Prop where
 rp:RpIn wr own' c p R cg cc hp mv hv ev hs es
 bat:BatIn wr own' x
 box:Blk wr bb (bmC x) 134
 boxc:own' bb=0
 ext:Ext own own' w.heap.size
 bel:Below w.heap.size w wr
 env:Env w0 wr own' eb ef
theorem TfAt.below{w w0 wr w2:World}{own own':Clr}{c p:Nat}{R:Rp}{cg cc hp:Nat}{mv hv ev:Value}{hs:List Bm}{es:List Em}{x:Bm}{bb:Nat}{eb ef:Addr}(h:TfAt w w0 wr own own' c p R cg cc hp mv hv ev hs es x bb eb ef)(hb:Below wr.heap.size wr w2):TfAt w w0 w2 own (newTo own' wr.heap.size 0) c p R cg cc hp mv hv ev hs es x bb eb ef:=
 ⟨h.rp.keep (fun b hl _=>hb.block b hl) (fun _ _ _ b hl _=>hb.block b hl) (zab _ _ _),h.bat.keep (fun b hl _=>hb.block b hl) (zab _ _ _),h.box.kept hb h.box.lt,(zae _ _ _ _ h.box.lt).trans h.boxc,h.ext.trans (zab _ _ _) h.bel.size,h.bel.trans (hb.mono h.bel.size),h.env.tch (F:=fun _=>False) (Tch.below hb) (fun _ _ h=>h) (zab _ _ _)⟩
theorem zlj(own:Clr)(c p:Nat)(R:Rp)(l:List UInt8)(b:Bt)(w w0:World)(eb ef:Addr)(hI:zaj)(hg:Gd w)(hen:Env w0 w own eb ef)(hc0:0<c)(h:RpAt w own c p R)(hok:Rok R)(hd:dec l=some b)(hf:b.clock.length=R.clock.length)(hs:¬b.s<=R.clock.getD b.o.toNat 0):
  Calls prog 90 #[.pointer (some ⟨p,0,none⟩), .string ⟨l.toArray⟩] w fun e w'=>e= .returned (.tuple #[])∧ROk w own c p (za4 R l) w':=by
 obtain⟨cg,cc,hp,mv,hv,ev,hs',es,hR⟩:=h;have HR:Hid (RpIn w own c p R cg cc hp mv hv ev hs' es):=hR;have HEN:Hid (Env w0 w own eb ef):=hen;have HOK:Hid (Rok R):=hok;have HIB:Hid (Wv.isB b=true∧l.length<=65535):=zht hd;have HC:Hid (Calls prog 126 #[.string ⟨l.toArray⟩] w fun e w'=>(∃ca ea cc ec ms,e= .returned (.tuple #[bV b ca ea cc ec, .nilIface])∧b.effs=ms.map (·.e)∧OwB w' w.heap.size (.slice ca b.clock.length cc) (.slice ea b.effs.length ec) b.clock ms)∧Below w.heap.size w w'):=zii l b w eb ef hI (hen.gl.kept hen.bel) (hen.pw.kept hen.bel) hg hd;obtain⟨F,HF⟩:∃F,Hid (za4 R l=F):=⟨_,rfl⟩
 rw [HF.out]
 have HFR:Hid (F=if dueB R.clock b then heldR ((takeP zah (likeB b) R.held).2.length+1) (zam R b l (takeP zah (likeB b) R.held).2) else if R.held.length<6∧(R.held.any (likeB b))=false then {R with held:=pushP zah R.held b} else R):=by
  show _=_;rw [←HF.out];unfold za4;rw [hd];simp only;rw [ap (by rintro(h | h);exact h hf;exact hs h)]
 have HSQ:Hid (¬b.s<=R.clock.getD b.o.toNat 0):=hs;have HFT:Hid (b.clock.length=R.clock.length):=hf;clear hR hen hok hd hs hf HF hg;go_enter func90,ntmps90;go_wp2_with fail
 refine HC.out.mono ?_;rintro e w1 ⟨⟨ca,ea,cb,ec,ms,rfl,he,ho⟩,hb1⟩;obtain⟨x,hx⟩:∃x:Bm,x=⟨b,ca,ea,cb,ec,ms⟩:=⟨_,rfl⟩
 obtain⟨w2,hw2⟩:∃w2,w2=w1.alloc (.cells (bmC x) 134):=⟨_,rfl⟩
 have HT2:Hid (TfAt w w0 w2 own (newTo (newTo own w.heap.size 0) w1.heap.size 0) c p R cg cc hp mv hv ev hs' es x w1.heap.size eb ef):=by
  have hB2:Below w1.heap.size w1 w2:=by rw [hw2];exact(Below.refl _ _).alloc (ac _) _
  have hbat:BatIn w1 (newTo own w.heap.size 0) x:=by rw [hx];exact zse he ho
  have h1:RpIn w1 (newTo own w.heap.size 0) c p R cg cc hp mv hv ev hs' es:=HR.out.keep (fun b hl _=>hb1.block b hl) (fun _ _ _ b hl _=>hb1.block b hl) (zab _ _ _);exact⟨h1.keep (fun b hl _=>hB2.block b hl) (fun _ _ _ b hl _=>hB2.block b hl) (zab _ _ _),hbat.keep (fun b hl _=>hB2.block b hl) (zab _ _ _),by rw [hw2];exact heap_alloc_new w1 _,zaf _ _ _ _ (ac _),(zab own w.heap.size 0).trans (zab _ _ _) hb1.size,hb1.trans (hB2.mono hb1.size),(HEN.out.tch (F:=fun _=>False) (Tch.below hb1) (fun _ _ h=>h) (zab _ _ _)).tch (F:=fun _=>False) (Tch.below hB2) (fun _ _ h=>h) (zab _ _ _)⟩
 have HXB:Hid (b=x.b):=by rw [hx];exact(rfl:b=b)
 have hca:ca=x.ca:=by rw [hx]
 have hea:ea=x.ea:=by rw [hx]
 have hcb:cb=x.cc:=by rw [hx]
 have hec:ec=x.ec:=by rw [hx]
 have hbb:b=x.b:=HXB.out;clear hx he ho hb1 HC HR HEN HXB;subst hca hea hcb hec hbb;generalize newTo (newTo own w.heap.size 0) w1.heap.size 0=own2 at *
 go_wp2_with fail
 change Code.wp _ _ _ _ (w1.alloc (.cells (bmC x) 134));rw [←hw2];clear hw2;have HBD:Hid (Blk w2.drew w1.heap.size (bmC x) 134):=HT2.out.box;have y0:w2.drew.cell? ⟨w1.heap.size,0,none⟩=some (I x.b.o):=HBD.out.cell 0;have y1:w2.drew.cell? ⟨w1.heap.size,1,none⟩=some (I x.b.s):=HBD.out.cell 1;have y2:w2.drew.cell? ⟨w1.heap.size,2,none⟩=some (I x.b.t):=HBD.out.cell 2;have y3:w2.drew.cell? ⟨w1.heap.size,3,none⟩=some (.slice x.ca x.b.clock.length x.cc):=HBD.out.cell 3;have y4:w2.drew.cell? ⟨w1.heap.size,4,none⟩=some (.slice x.ea x.b.effs.length x.ec):=HBD.out.cell 4;have y5:w2.drew.cell? ⟨p,2,none⟩=some (.slice (some ⟨cg,0,none⟩) R.clock.length cc):=HT2.out.rp.clkAt.cell;have hox0:0<=x.b.o:=(zal HIB.out.1).2.1;have hox1:x.b.o<(R.clock.length:Int):=by have:=(zal HIB.out.1).2.2.1;have:=HFT.out;omega
 have hoxn:x.b.o.toNat<R.clock.length:=by omega
 have y6:w2.drew.cell? ⟨cg,x.b.o.toNat,none⟩=some (I (R.clock.getD x.b.o.toNat 0)):=by
  have:=HT2.out.rp.clkAt.row x.b.o.toNat hoxn;rw [show w2.drew.cell? ⟨cg,x.b.o.toNat,none⟩=w2.cell? ⟨cg,x.b.o.toNat,none⟩ from rfl,this];simp [hoxn]
 have hlt:decide (x.b.s<=R.clock.getD x.b.o.toNat 0)=false:=decide_eq_false (by have:=HSQ.out;omega);obtain⟨dk,HDK⟩:∃dk,Hid (R.clock.getD x.b.o.toNat 0=dk):=⟨_,rfl⟩
 rw [HDK.out] at y6 hlt;have hdec:decide (x.b.clock.length=R.clock.length)=true:=aT HFT.out;have HDEC:Hid (decide (x.b.clock.length=R.clock.length)=true):=hdec;clear hdec
 go_region_held_law (fun w'=>w'.cell? ⟨w1.heap.size,0,none⟩=some (I x.b.o)∧w'.cell? ⟨w1.heap.size,1,none⟩=some (I x.b.s)∧w'.cell? ⟨w1.heap.size,2,none⟩=some (I x.b.t)∧w'.cell? ⟨w1.heap.size,3,none⟩=some (.slice x.ca x.b.clock.length x.cc)∧w'.cell? ⟨w1.heap.size,4,none⟩=some (.slice x.ea x.b.effs.length x.ec)∧w'.cell? ⟨p,2,none⟩=some (.slice (some ⟨cg,0,none⟩) R.clock.length cc)∧w'.cell? ⟨cg,x.b.o.toNat,none⟩=some (I dk)) (exact⟨by with_reducible assumption,by with_reducible assumption,by with_reducible assumption,by with_reducible assumption,by with_reducible assumption,by with_reducible assumption,by with_reducible assumption⟩)
  (first
  | (go_at_call 127;refine(zkw p cg cc R.clock x _ (HT2.out.rp.clkAt.kept (Below.refl _ _).drew)).mono ?_;rintro e w3 ⟨rfl,hb3⟩;have HB3:Hid (Below w2.heap.size w2 w3):=(Below.refl _ _).drew.trans hb3;clear hb3;have HX3:Hid (Blk w3 w1.heap.size (bmC x) 134):=HT2.out.box.kept HB3.out HT2.out.box.lt;have f0:w3.cell? ⟨w1.heap.size,0,none⟩=some (I x.b.o):=HX3.out.cell 0;have f1:w3.cell? ⟨w1.heap.size,1,none⟩=some (I x.b.s):=HX3.out.cell 1;have f2:w3.cell? ⟨w1.heap.size,2,none⟩=some (I x.b.t):=HX3.out.cell 2;have f3:w3.cell? ⟨w1.heap.size,3,none⟩=some (.slice x.ca x.b.clock.length x.cc):=HX3.out.cell 3;have f4:w3.cell? ⟨w1.heap.size,4,none⟩=some (.slice x.ea x.b.effs.length x.ec):=HX3.out.cell 4;have f5:w3.cell? ⟨p,2,none⟩=some (.slice (some ⟨cg,0,none⟩) R.clock.length cc):=zaa HB3.out y5;have f6:w3.cell? ⟨cg,x.b.o.toNat,none⟩=some (I dk):=zaa HB3.out y6;rw [HDEC.out]))
 have HT3:Hid (TfAt w w0 w3 own (newTo own2 w2.heap.size 0) c p R cg cc hp mv hv ev hs' es x w1.heap.size eb ef):=HT2.out.below HB3.out;generalize newTo own2 w2.heap.size 0=own3 at *
 clear HT2 HB3 HBD y0 y1 y2 y3 y4 y5 y6 f5 f6 HX3 HDEC HDK HSQ;go_wp2_with fail
 refine(zia p cg cc R.clock x w3 HT3.out.rp.clkAt HT3.out.bat.k.at.1 hox0 (by have:=HFT.out;omega) (aQ HOK.out.len (by omega)) (fun j=>Int.le_trans (HOK.out.getD j).2 (by omega)) (fun j=>Int.le_trans (by omega) (HOK.out.getD j).1)).mono ?_;rintro e w4 ⟨rfl,hb4⟩;have HT4:Hid (TfAt w w0 w4 own (newTo own3 w3.heap.size 0) c p R cg cc hp mv hv ev hs' es x w1.heap.size eb ef):=HT3.out.below hb4;generalize newTo own3 w3.heap.size 0=own4 at *
 clear HT3 hb4 f0 f1 f2 f3 f4;have f0:w4.cell? ⟨w1.heap.size,0,none⟩=some (I x.b.o):=HT4.out.box.cell 0;have f1:w4.cell? ⟨w1.heap.size,1,none⟩=some (I x.b.s):=HT4.out.box.cell 1;have f2:w4.cell? ⟨w1.heap.size,2,none⟩=some (I x.b.t):=HT4.out.box.cell 2;have f3:w4.cell? ⟨w1.heap.size,3,none⟩=some (.slice x.ca x.b.clock.length x.cc):=HT4.out.box.cell 3;have f4:w4.cell? ⟨w1.heap.size,4,none⟩=some (.slice x.ea x.b.effs.length x.ec):=HT4.out.box.cell 4;have HTW:Hid (Tch (fun k=>c<=own k∧own k<=c+10) w w4):=Tch.below HT4.out.bel
 have HHS:Hid (hs'.length<=6):=by
  have h1:=HOK.out.most;rw [HT4.out.rp.heldB,av] at h1;exact h1
 cases hdu:dueB R.clock x.b with
 | true=>
  have HFT2:Hid (F=heldR ((takeP zah (likeB x.b) R.held).2.length+1) (zam R x.b l (takeP zah (likeB x.b) R.held).2)):=by
   have:=HFR.out;rw [hdu] at this;exact this
  have HDU:Hid (dueB R.clock x.b=true):=hdu
  have HLG:Hid (R.log.length+l.length<=100000000):=by
   have h1:=HOK.out.logl;have h2:=HOK.out.sum;have h3:=HIB.out.2;show _<=_;omega
  have HNN:Hid (5*sumN R.clock+x.b.effs.length<=100000):=by
   have h2:=HOK.out.sum;obtain⟨_,_,_,_,_,_,_,h3⟩:=zal HIB.out.1;show _<=_;omega
  clear hdu HFR;go_wp2_with fail
  refine(zea own4 c p R cg cc hp mv hv ev hs' es x l w4 hc0 HT4.out.rp (HT4.out.bat.k.mono (fun d e=>Or.inl e)) (aQ HHS.out (by omega)) HLG.out hox0 hox1 HOK.out.obs8 (5*sumN R.clock) HNN.out HOK.out.bd (zhl HIB.out.1)).mono ?_;rintro e w5 ⟨rfl,hd5⟩;obtain⟨own5,hv5,hE5,hR5,hT5⟩:=hd5;have HR5:Hid (RpIn w5 own5 c p (zam R x.b l ((takeP lessM (fun m=>likeB x.b m.b) hs').2.map (·.b))) cg cc hp mv hv5 ev (takeP lessM (fun m=>likeB x.b m.b) hs').2 es):=hR5;have HEN5:Hid (Env w0 w5 own5 eb ef):=HT4.out.env.tch hT5 (fun k e h=>by rw [e] at h;omega) hE5;have HE5:Hid (Ext own own5 w.heap.size):=HT4.out.ext.trans hE5 HT4.out.bel.size;have HT5:Hid (Tch (fun k=>c<=own k∧own k<=c+10) w w5):=HTW.out.trans hT5 (fun _ _ h=>h) (fun k hk h=>by rw [HT4.out.ext k hk] at h;exact⟨h.1,by omega⟩)
  have HM:Hid ((takeP zah (likeB x.b) R.held).2=(takeP lessM (fun m=>likeB x.b m.b) hs').2.map (·.b)):=by
   show _=_;rw [HT4.out.rp.heldB,zf0 (likeB x.b) hs']
  have HOK5:Hid (Rok (zam R x.b l ((takeP lessM (fun m=>likeB x.b m.b) hs').2.map (·.b)))):=by
   have hhb:∀m∈hs',Wv.isB m.b=true:=fun m hm=>HOK.out.held m.b (by rw [HT4.out.rp.heldB];exact List.mem_map_of_mem hm)
   refine HOK.out.deliver HIB.out.1 (aQ HIB.out.2 (by omega)) HDU.out (fun y hy=> ?_) ?_
   ·obtain⟨m,hm,rfl⟩:=aG.1 hy
    exact hhb m (za6 _ _ _ m (Or.inr hm))
   ·have h1:=HHS.out
    have:=zdl lessM (fun m=>likeB x.b m.b) hs';rw [av];omega
  rw [HM.out,av] at HFT2;clear hE5 hR5 hT5 HT4 HM f0 f1 f2 f3 f4 HTW HHS HLG HNN HDU;generalize (takeP lessM (fun m=>likeB x.b m.b) hs').2=l5 at *
  go_wp2_with fail
  refine(zxk own5 c p _ cg cc hp mv hv5 ev l5 es w5 w0 eb ef hI HEN5.out hc0 HR5.out HOK5.out).mono ?_;rintro e w6 ⟨rfl,hd6⟩
  have HE:Hid (ROk w own c p F w6):=by
   have h9:=(zw1 (l5.length+1) (zam R x.b l (l5.map (·.b))) l5 rfl).1;rw [h9,←HFT2.out] at hd6;exact ROk.from HE5.out HT5.out (ROk.del hd6)
  clear hd6;go_wp2;go_end0;exact⟨rfl,HE.out⟩
 | false=>
  have HFT2:Hid (F=if R.held.length<6∧(R.held.any (likeB x.b))=false then {R with held:=pushP zah R.held x.b} else R):=by
   have:=HFR.out;rw [hdu] at this;exact this
  clear hdu HFR;have HRL:Hid (R.held.length=hs'.length):=by show _=_;rw [HT4.out.rp.heldB,av]
  have HRA:Hid (R.held.any (likeB x.b)=hs'.any (fun m=>likeB x.b m.b)):=by show _=_;rw [HT4.out.rp.heldB,List.any_map];rfl
  have HRP:Hid (pushP zah R.held x.b=(pushP lessM hs' x).map (·.b)):=by show _=_;rw [HT4.out.rp.heldB];exact zv7 hs' x
  rw [HRL.out,HRA.out,HRP.out] at HFT2
  have HSAME:Hid (∀w5,F=R->Below w4.heap.size w4 w5->ROk w own c p F w5):=fun w5 e hb=>by
   rw [e];exact ROk.from HT4.out.ext HTW.out (ROk.below ⟨_,_,_,_,_,_,_,_,HT4.out.rp⟩ hb)
  clear HRL HRA HRP;by_cases hfu:hs'.length<6
  ·cases hany:(hs'.any fun m=>likeB x.b m.b) with
   | true=>
    have HFQ:Hid (F=R):=by show _=_;have:=HFT2.out;rw [hany] at this;simpa using this
    have HAN:Hid ((hs'.any fun m=>likeB x.b m.b)=true):=hany;clear hany HFT2;go_wp2_with fail
    refine(hold_has own4 c p R cg cc hp mv hv ev hs' es x w4 HT4.out.rp hfu HAN.out).mono ?_;rintro e w5 ⟨rfl,hb5⟩;have HE:Hid (ROk w own c p F w5):=HSAME.out w5 HFQ.out hb5;clear hb5;go_wp2;refine bodyPost_ret (results_none rfl _ _ _) rfl ?_;exact⟨rfl,HE.out⟩
   | false=>
    have HFQ:Hid (F={R with held:=(pushP lessM hs' x).map (·.b)}):=by show _=_;have:=HFT2.out;rw [hany] at this;simpa [hfu] using this
    have HAN:Hid ((hs'.any fun m=>likeB x.b m.b)=false):=hany;clear hany HFT2;go_wp2_with fail
    refine(zwy own4 c p R cg cc hp mv hv ev hs' es x w4 HT4.out.rp hfu HAN.out HT4.out.bat).mono ?_;rintro e w5 ⟨rfl,hb5⟩
    have HE:Hid (ROk w own c p F w5):=by
     show ROk _ _ _ _ _ _;rw [HFQ.out];exact ROk.from HT4.out.ext HTW.out (ROk.hold hb5)
    clear hb5;go_wp2;refine bodyPost_ret (results_none rfl _ _ _) rfl ?_;exact⟨rfl,HE.out⟩
  ·have HFQ:Hid (F=R):=by show _=_;have:=HFT2.out;simpa [hfu] using this
   clear HFT2;go_wp2_with fail
   refine(zwz own4 c p R cg cc hp mv hv ev hs' es x w4 HT4.out.rp hfu).mono ?_;rintro e w5 ⟨rfl,hb5⟩;have HE:Hid (ROk w own c p F w5):=HSAME.out w5 HFQ.out hb5;clear hb5;go_wp2;refine bodyPost_ret (results_none rfl _ _ _) rfl ?_;exact⟨rfl,HE.out⟩
theorem mkmapL(w:World):(Instr.makeMap 200 none).run prog w= .ok (.map (some w.heap.size)) (w.alloc (.map #[] 0)):=by
 simp [Instr.makeMap]
theorem mkmapO(w:World):(Instr.makeMap 104 none).run prog w= .ok (.map (some w.heap.size)) (w.alloc (.map #[] 0)):=by
 simp [Instr.makeMap]
theorem mkslI(n:Nat)(hn:n<=4)(w:World):(Instr.makeSlice 32 (I n) (I n)).run prog w= .ok (.slice (some ⟨w.heap.size,0,none⟩) n n) (w.alloc (.cells (List.replicate n (I 0)).toArray 3)):=by
 obtain⟨i,h1,h2,h3,h4⟩:=info_parts zkn;have h:=run_makeSlice (P:=prog) (w:=w) _ _ i _ underlying32 h1 h2 .i64 .i64 (n:Int) (n:Int) (by omega) (Int.le_refl _) (by rw [h3];omega) (by rw [h4];omega) (by omega);rw [h,h3]
 have e:Go.madeCells (Value.cells (.int .i64 0)) ((n:Int).toNat*1)=(List.replicate n (I 0)).toArray:=by
  rw [aj,Nat.mul_one];apply Array.ext
  ·simp [Go.madeCells]
  ·intro j h1 h2
   simp [Go.madeCells,Value.cells,Nat.mod_one]
 rw [e];simp
def newOb(k:Int):Ob:=if k=0 then .counter 0 else if k=1 then .set [] else if k=2 then .reg [] else .list []
def NewOk(w:World)(own:Clr)(d:Nat)(o:Ob)(e:Ending)(w':World):Prop:=∃v,e= .returned v∧Below w.heap.size w w'∧ObAt w' (newTo own w.heap.size d) d v o
theorem zzg(own:Clr)(d:Nat)(k:Int)(w:World):
  Calls prog 87 #[I k] w fun e w'=>NewOk w own d (newOb k) e w':=by
 obtain⟨o,HO⟩:∃o,Hid (newOb k=o):=⟨_,rfl⟩
 rw [HO.out];have hmm:=fun W=>mkmapL W
 go_enter func87,ntmps87;by_cases h0:k=0
 ·subst h0
  go_wp2;go_ret;rw [←HO.out];exact⟨_,rfl,(Below.refl _ _).alloc (ac _) _,_,rfl,zaf _ _ _ _ (ac _),heap_alloc_new w _⟩
 ·by_cases h1:k=1
  ·subst h1
   go_wp2;go_ret;rw [←HO.out];refine⟨_,rfl,((Below.refl _ _).alloc (ac _) _).alloc (by simp) _,_,w.heap.size,rfl,zaf _ _ _ _ (by simp),zaf _ _ _ _ (ac _), ?_, ?_⟩
   ·have:=heap_alloc_new (w.alloc (.map #[] 0)) (.cells #[.map (some w.heap.size)] 202)
    rw [World.size_alloc] at this;exact this
   ·exact(MpAt.new w).same (Below.heap_alloc _ _ _ (by simp))
  ·by_cases h2:k=2
   ·subst h2
    go_wp2;go_ret;rw [←HO.out];refine⟨_,rfl,((Below.refl _ _).alloc (ac _) _).alloc (by simp) _,_,w.heap.size,rfl,zaf _ _ _ _ (by simp),zaf _ _ _ _ (ac _), ?_, ?_⟩
    ·have:=heap_alloc_new (w.alloc (.map #[] 0)) (.cells #[.map (some w.heap.size)] 204)
     rw [World.size_alloc] at this;exact this
    ·exact(MpAt.new w).same (Below.heap_alloc _ _ _ (by simp))
   ·have HO2:Hid (o= .list []):=by show _=_;rw [←HO.out];simp [newOb,h0,h1,h2]
    have b0:(k==0)=false:=by simp [h0]
    have b1:(k==1)=false:=by simp [h1]
    have b2:(k==2)=false:=by simp [h2]
    clear h0 h1 h2;go_wp2;go_ret;rw [HO2.out];exact⟨_,rfl,(Below.refl _ _).alloc (ac _) _,_, .slice none 0 0,rfl,zaf _ _ _ _ (ac _),fun g e=>(by simp [Value.ownBlock] at e),heap_alloc_new w _,⟨rfl, .inl ⟨rfl,rfl⟩⟩,az _⟩
def newR(i n:Nat):Rp:=⟨i,0,List.replicate n 0,0, [.counter 0, .set [], .reg [], .list [], .counter 0, .set [], .reg [], .list []], [],0, [], []⟩
theorem hnew_eq(w:World):
  Calls prog 77 #[.func (.func 78) #[] #[]] w fun e w'=>e= .returned (.pointer (some ⟨w.heap.size,0,none⟩))∧w'=w.alloc (.cells #[.slice none 0 0, .func (.func 78) #[] #[]] 188):=by
 go_enter func77,ntmps77;go_wp2;go_ret;exact⟨rfl,rfl⟩
structure NwAt(w wr:World)(p cg mb hp i n:Nat):Prop where
 bel:Below w.heap.size w wr
 blk:Blk wr p #[I i,I 0, .slice (some ⟨cg,0,none⟩) n n,I 0, .map (some mb), .string ⟨#[]⟩,I 0, .pointer (some ⟨hp,0,none⟩), .slice none 0 0] 110
 clk:Blk wr cg (Array.replicate n (I 0)) 3
 om:OmAt wr mb []
 hpx:HpIn wr hp (.slice none 0 0) []
 lp:w.heap.size<=p
 lc:w.heap.size<=cg
 lm:w.heap.size<=mb
 lh:w.heap.size<=hp
theorem al4_1(w:World)(o1 o2 o3 o4:Obj):((((w.alloc o1).alloc o2).alloc o3).alloc o4).drew.heap[w.heap.size]?=some o1:=by
 show((((w.alloc o1).alloc o2).alloc o3).alloc o4).heap[w.heap.size]?=some o1;rw [Below.heap_alloc _ _ _ (by simp<;>omega),Below.heap_alloc _ _ _ (by simp<;>omega),Below.heap_alloc _ _ _ (by simp)];exact(MapKept.heap_alloc w _).1
theorem al4_2(w:World)(o1 o2 o3 o4:Obj):((((w.alloc o1).alloc o2).alloc o3).alloc o4).drew.heap[w.heap.size+1]?=some o2:=by
 show((((w.alloc o1).alloc o2).alloc o3).alloc o4).heap[w.heap.size+1]?=some o2;rw [Below.heap_alloc _ _ _ (by simp<;>omega),Below.heap_alloc _ _ _ (by simp)];have:=(MapKept.heap_alloc (w.alloc o1) o2).1;rw [World.size_alloc] at this;exact this
theorem al4_3(w:World)(o1 o2 o3 o4:Obj):((((w.alloc o1).alloc o2).alloc o3).alloc o4).drew.heap[w.heap.size+1+1]?=some o3:=by
 show((((w.alloc o1).alloc o2).alloc o3).alloc o4).heap[w.heap.size+1+1]?=some o3;rw [Below.heap_alloc _ _ _ (by simp)];have:=(MapKept.heap_alloc ((w.alloc o1).alloc o2) o3).1;rw [World.size_alloc,World.size_alloc] at this;exact this
theorem al4_4(w:World)(o1 o2 o3 o4:Obj):((((w.alloc o1).alloc o2).alloc o3).alloc o4).drew.heap[w.heap.size+1+1+1]?=some o4:=by
 show((((w.alloc o1).alloc o2).alloc o3).alloc o4).heap[w.heap.size+1+1+1]?=some o4;have:=(MapKept.heap_alloc (((w.alloc o1).alloc o2).alloc o3) o4).1;rw [World.size_alloc,World.size_alloc,World.size_alloc] at this;exact this
theorem nw_gen(w:World)(o1 o2 o3:Obj)(cg mb hp i n:Nat)(W:World)(hW:W=((((w.alloc o1).alloc o2).alloc o3).alloc (.cells #[I i,I 0, .slice (some ⟨cg,0,none⟩) n n,I 0, .map (some mb), .string ⟨#[]⟩,I 0, .pointer (some ⟨hp,0,none⟩), .slice none 0 0] 110)).drew)
  (hc:W.heap[cg]?=some (.cells (Array.replicate n (I 0)) 3 (0,0))) (hm:W.heap[mb]?=some (.map #[] 0)) (hh:W.heap[hp]?=some (.cells #[.slice none 0 0, .func (.func 78) #[] #[]] 188 (0,0))) (lc:w.heap.size<=cg) (lm:w.heap.size<=mb) (lh:w.heap.size<=hp):
  NwAt w W (w.heap.size+1+1+1) cg mb hp i n:=by
 refine⟨?_, ?_,hc,⟨#[],0,hm,rfl⟩,⟨hh,⟨rfl, .inl ⟨rfl,rfl⟩⟩⟩,by omega,lc,lm,lh⟩
 ·rw [hW]
  exact(((((Below.refl w.heap.size w).alloc (ac _) _).alloc (by simp) _).alloc (by simp<;>omega) _).alloc (by simp<;>omega) _).drew
 ·rw [hW]
  exact al4_4 w o1 o2 o3 _
structure NlAt(w wr:World)(own own':Clr)(c p cg mb hp i n:Nat)(vs:List Value):Prop where
 bel:Below w.heap.size w wr
 blk:Blk wr p #[I i,I 0, .slice (some ⟨cg,0,none⟩) n n,I 0, .map (some mb), .string ⟨#[]⟩,I 0, .pointer (some ⟨hp,0,none⟩), .slice none 0 0] 110
 clk:Blk wr cg (Array.replicate n (I 0)) 3
 om:OmAt wr mb vs
 hpx:HpIn wr hp (.slice none 0 0) []
 lm:w.heap.size<=mb
 ext:Ext own own' w.heap.size
 c1:own' p=c
 c2:own' cg=c
 c3:own' mb=c
 c4:own' hp=c+9
 obs:∀j (h:j<vs.length),ObAt wr own' (c+1+j) vs[j] (newOb ((j:Int) % 4))
theorem NwAt.nl{w wr:World}{own:Clr}{c p cg mb hp i n:Nat}(h:NwAt w wr p cg mb hp i n):NlAt w wr own (fun b=>if b<w.heap.size then own b else if b=hp then c+9 else c) c p cg mb hp i n []:=by
 have hph:p ≠ hp:=by
  rintro rfl;have h9:=h.blk.symm.trans h.hpx.blk;simp at h9
 have hch:cg ≠ hp:=by
  rintro rfl;have h9:=h.clk.symm.trans h.hpx.blk;simp at h9
 have hmh:mb ≠ hp:=by
  rintro rfl;obtain⟨_,_,hx,_⟩:=h.om;cases h.hpx.blk.symm.trans hx
 have lp:=h.lp;have lc:=h.lc;have lm:=h.lm;have lh:=h.lh;refine⟨h.bel,h.blk,h.clk,h.om,h.hpx,h.lm,fun b hb=>aA hb, ?_, ?_, ?_, ?_,fun j hj=>absurd hj (by simp)⟩
 ·show(if p<w.heap.size then own p else if p=hp then c+9 else c)=c
  rw [ap (by omega),ap hph]
 ·show(if cg<w.heap.size then own cg else if cg=hp then c+9 else c)=c
  rw [ap (by omega),ap hch]
 ·show(if mb<w.heap.size then own mb else if mb=hp then c+9 else c)=c
  rw [ap (by omega),ap hmh]
 ·show(if hp<w.heap.size then own hp else if hp=hp then c+9 else c)=c+9
  rw [ap (by omega),aA rfl]
theorem NlAt.step{w wr w5 w6:World}{own own':Clr}{c p cg mb hp i n:Nat}{vs:List Value}{v:Value}(h:NlAt w wr own own' c p cg mb hp i n vs)(hb:Below wr.heap.size wr w5)(ho:ObAt w5 (newTo own' wr.heap.size (c+1+vs.length)) (c+1+vs.length) v (newOb ((vs.length:Int) % 4)))(hm:OmAt w6 mb (vs++ [v]))(hg:w5.grownBy w6 (some mb)):NlAt w w6 own (newTo own' wr.heap.size (c+1+vs.length)) c p cg mb hp i n (vs++ [v]):=by
 have he:=zab own' wr.heap.size (c+1+vs.length);have hT:Tch (fun k=>k=mb) w5 w6:=(Tch.grown hg).mono (fun k _ e=>by simpa using e.symm);have hmw:mb<wr.heap.size:=h.om.lt
 have hpm:p ≠ mb:=by
  rintro rfl;obtain⟨_,_,hx,_⟩:=h.om;cases h.blk.symm.trans hx
 have hcm:cg ≠ mb:=by
  rintro rfl;obtain⟨_,_,hx,_⟩:=h.om;cases h.clk.symm.trans hx
 have hhm:hp ≠ mb:=by
  rintro rfl;obtain⟨_,_,hx,_⟩:=h.om;cases h.hpx.blk.symm.trans hx
 have hS:∀d,d ≠ c->Same (newTo own' wr.heap.size (c+1+vs.length)) d w5 w6:=fun d hd=>hT.same (fun k e e2=>hd (by
  have e2:k=mb:=e2
  rw [←e,e2,zae _ _ _ _ hmw,h.c3]))
 have hbw:Below w.heap.size w w5:=h.bel.trans (hb.mono h.bel.size);refine⟨?_,hT.blk (h.blk.kept hb h.blk.lt) hpm,hT.blk (h.clk.kept hb h.clk.lt) hcm,hm,⟨hT.blk (h.hpx.blk.kept hb h.hpx.blk.lt) hhm,⟨rfl, .inl ⟨rfl,rfl⟩⟩⟩,h.lm,h.ext.trans he h.bel.size,(he p h.blk.lt).trans h.c1,(he cg h.clk.lt).trans h.c2,(he mb hmw).trans h.c3,(he hp h.hpx.blk.lt).trans h.c4,fun j hj=> ?_⟩
 ·have:=h.lm
  exact hbw.trans (hT.toBelow hbw.size (fun k hk e=>by have e:k=mb:=e;omega))
 ·by_cases hjl:j<vs.length
  ·rw [List.getElem_append_left hjl]
   exact((h.obs j hjl).keep (fun b hl _=>hb.block b hl) he).keep (hS _ (by omega)) (Ext.refl _ _)
  ·have:j=vs.length:=by simp at hj;omega
   subst this;rw [List.getElem_concat_length rfl];exact ho.keep (hS _ (by omega)) (Ext.refl _ _)
theorem NlAt.fin{w wr:World}{own own':Clr}{c p cg mb hp i n:Nat}{vs:List Value}(h:NlAt w wr own own' c p cg mb hp i n vs)(hl:vs.length=8):RpAt wr own' c p (newR i n):=by
 refine⟨cg,n,hp, .map (some mb), .slice none 0 0, .slice none 0 0, [], [],⟨?_, ?_,h.c1,h.c2,Or.inr ⟨mb,vs,rfl,h.c3,h.om,hl,rfl,fun k h1 h2=> ?_⟩,⟨h.hpx,h.c4,fun g e=>(by simp [Value.ownBlock] at e),fun m hm=>(by cases hm)⟩,rfl,⟨⟨rfl, .inl ⟨rfl,rfl⟩⟩,fun g e=>(by simp [Value.ownBlock] at e),fun x hx=>(by cases hx)⟩,rfl⟩⟩
 ·have e:(newR i n).clock.length=n:=by simp [newR]
  rw [e];exact h.blk
 ·have e:((newR i n).clock.map I).toArray=Array.replicate n (I 0):=by simp [newR]
  rw [e];exact h.clk
 ·have e:(newR i n).obs[k]=newOb ((k:Int) % 4):=by
   have hk:k<8:=by omega
   clear h1;rcases k with _ | _ | _ | _ | _ | _ | _ | _ | k<;>first | rfl | omega
  rw [e];exact h.obs k h1
def RnewOk(w:World)(own:Clr)(c i n:Nat)(e:Ending)(w':World):Prop:=∃p own',e= .returned (.pointer (some ⟨p,0,none⟩))∧Below w.heap.size w w'∧Ext own own' w.heap.size∧RpAt w' own' c p (newR i n)
theorem zo9(own:Clr)(c:Nat)(i n:Nat)(w:World)(hn:n<=4):
  Calls prog 54 #[I i,I n] w fun e w'=>RnewOk w own c i n e w':=by
 have hmm:=fun W=>mkmapO W
 have hms:=fun W=>mkslI n hn W
 go_enter func54,ntmps54;go_wp2_with fail
 go_cut [5] (fun v5 wx=>∃p cg mb hp,v5= .pointer (some ⟨p,0,none⟩)∧Hid (NwAt w wx p cg mb hp i n))
 case first=>
  go_region_law (first | (go_simp;go_at_call 77;refine(hnew_eq _).mono ?_;rintro e w3 ⟨rfl,rfl⟩))
  all_goals
   (go_wp2_with fail
    go_meet
    exact⟨_,_,_,_,rfl,nw_gen w _ _ _ _ _ _ i n _ rfl (by first | exact al4_1 w _ _ _ _ | exact al4_2 w _ _ _ _ | exact al4_3 w _ _ _ _) (by first | exact al4_1 w _ _ _ _ | exact al4_2 w _ _ _ _ | exact al4_3 w _ _ _ _) (by first | exact al4_1 w _ _ _ _ | exact al4_2 w _ _ _ _ | exact al4_3 w _ _ _ _) (by omega) (by omega) (by omega)⟩)
 case rest=>
  obtain⟨p,cg,mb,hp,rfl,HN⟩:=hcut;clear hmm hms;go_wp2_with fail
  go_loopw [14] (fun x wX=>∃(own':Clr) (vs:List Value),vs.length<=8∧x=I vs.length∧Hid (NlAt w wX own own' c p cg mb hp i n vs)) (fun x _=>8 - (intOf x).toNat)
  case atStart=>exact⟨_, [],by simp,rfl,HN.out.nl⟩
  case round=>
   obtain⟨own',vs,hl,rfl,HL⟩:=hrel;clear HN;by_cases hlt:vs.length<8
   ·have hki:(vs.length:Int)<8:=by omega
    have HLD:Hid (NlAt w wr.drew own own' c p cg mb hp i n vs):=by
     have h:=HL.out;exact⟨h.bel.drew,h.blk,h.clk,h.om.same rfl,⟨h.hpx.blk,⟨rfl, .inl ⟨rfl,rfl⟩⟩⟩,h.lm,h.ext,h.c1,h.c2,h.c3,h.c4,fun j hj=>(h.obs j hj).keep (fun _ _ _=>rfl) (Ext.refl _ _)⟩
    have y4:wr.drew.cell? ⟨p,4,none⟩=some (.map (some mb)):=HLD.out.blk.cell 4;have hA1:0<=(vs.length:Int):=by omega
    have hA2:(vs.length:Int)<=7:=by omega
    go_wp2_with fail
    go_region_held_law (fun w'=>w'.cell? ⟨p,4,none⟩=some (.map (some mb))) (exact(by with_reducible assumption))
     (first
     | (go_at_call 68;refine(zb7 _ hA1 hA2 _).mono ?_;rintro e w4 ⟨rfl,hw4⟩;subst hw4)
     | (go_at_call 87;refine(zzg own' (c+1+vs.length) _ _).mono ?_;rintro e w5 ⟨v,rfl,hb5,ho5⟩;have HB5:Hid (Below wr.drew.heap.size wr.drew w5):=hb5;have HO5:Hid (ObAt w5 (newTo own' wr.drew.heap.size (c+1+vs.length)) (c+1+vs.length) v (newOb ((vs.length:Int) % 4))):=ho5;clear hb5 ho5;have z4:w5.cell? ⟨p,4,none⟩=some (.map (some mb)):=zaa HB5.out y4;obtain⟨w6,hu6,hm6,hg6⟩:=zlk v w5 mb vs (HLD.out.om.same (HB5.out.block mb HLD.out.om.lt));have HM6:Hid (OmAt w6 mb (vs++ [v])):=hm6;have HG6:Hid (w5.grownBy w6 (some mb)):=hg6;clear hm6 hg6;have q4:w6.cell? ⟨p,4,none⟩=some (.map (some mb)):=(by have:=(HLD.out.step HB5.out HO5.out HM6.out HG6.out).blk.cell 4;exact this)))
    have HL6:Hid (NlAt w w6 own (newTo own' wr.drew.heap.size (c+1+vs.length)) c p cg mb hp i n (vs++ [v])):=HLD.out.step HB5.out HO5.out HM6.out HG6.out;have hln:(vs++ [v]).length=vs.length+1:=by simp
    have HLN:Hid ((vs++ [v]).length=vs.length+1):=hln;clear hln hu6 HLD HL HB5 HO5 HM6 HG6 y4 z4 q4;go_wp2_with fail
    go_roundw
    case rel=>exact⟨_,vs++ [v],by rw [HLN.out];omega,by rw [HLN.out];go_num,HL6⟩
    case measure=>simp [intOf];omega
   ·have hki:¬(vs.length:Int)<8:=by omega
    have HE:Hid (RpAt wr own' c p (newR i n)):=HL.out.fin (by omega);go_wp2;go_ret;exact⟨p,own',rfl,HL.out.bel,HL.out.ext,HE.out⟩
