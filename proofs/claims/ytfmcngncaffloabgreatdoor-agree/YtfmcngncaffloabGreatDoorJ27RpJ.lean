import Derived.Test.YtfmcngncaffloabGreatDoorJ26RpG2
set_option maxHeartbeats 3200000
namespace Go.Proofs.YtfmcngncaffloabGreatDoor
open Go.RowKit Go.Proofs.Tryz
set_option maxRecDepth 100000
def DelOk(w:World)(own:Clr)(c p:Nat)(R:Rp)(cg cc hp:Nat)(mv ev:Value)(hs:List Bm)(es:List Em)(w':World):Prop:=∃own' hv',Ext own own' w.heap.size∧RpIn w' own' c p R cg cc hp mv hv' ev hs es∧TchR own c w w'
theorem zea(own:Clr)(c p:Nat)(R:Rp)(cg cc hp:Nat)(mv hv ev:Value)(hs:List Bm)(es:List Em)(x:Bm)(fr:List UInt8)(w:World)(hc0:0<c)(h:RpIn w own c p R cg cc hp mv hv ev hs es)(hx:BatK (fun d=>d=0∨d=c+10) w own x)(hl:hs.length<=1000)(hlog:R.log.length+fr.length<=100000000)(ho0:0<=x.b.o)(ho1:x.b.o<(R.clock.length:Int))(hobs:R.obs.length=8)(N:Nat)(hN:N+x.b.effs.length<=100000)(hbd:∀o∈R.obs,o.bound N)(hval:∀e∈x.b.effs,0<=e.ob∧e.ob<8∧ -1000<=e.va∧e.va<=1000∧e.dots.length<=1048576):
  Calls prog 73 #[.pointer (some ⟨p,0,none⟩),bmV x, .string ⟨fr.toArray⟩] w fun e w'=>e= .returned (.tuple #[])∧DelOk w own c p (zam R x.b fr ((takeP lessM (fun m=>likeB x.b m.b) hs).2.map (·.b))) cg cc hp mv ev (takeP lessM (fun m=>likeB x.b m.b) hs).2 es w':=by
 have HBD:Hid (∀k,k<=x.b.effs.length->∀o∈obsTo x.b R.obs k,o.bound (N+k)):=by
  intro k;induction k with
  | zero=>intro _;exact hbd
  | succ k ih=>
   intro hk;have hq:x.b.effs[k]?=some x.b.effs[k]:=ag (by omega);rw [obsTo,hq];obtain⟨_,_,h1,h2,_⟩:=hval _ (aU (by omega:k<x.b.effs.length));exact zld _ _ (ih (by omega)) h1 h2
 obtain⟨wA,hwA⟩:∃wA,wA=w.alloc (.cells (bmC x) 134):=⟨_,rfl⟩
 have hBA:Below w.heap.size w wA:=by rw [hwA];exact(Below.refl _ _).alloc (ac _) _
 have HBA:Hid (Below w.heap.size w wA):=hBA;have HX:Hid (Blk wA w.heap.size (bmC x) 134):=by rw [hwA];exact heap_alloc_new w _
 have HR:Hid (RpIn wA own c p R cg cc hp mv hv ev hs es):=h.keep (fun b hb _=>hBA.block b hb) (fun d _ _ b hb _=>hBA.block b hb) (Ext.refl _ _);have HBK:Hid (BatK (fun d=>d=0∨d=c+10) wA own x):=hx.keep (fun d _ b hb _=>hBA.block b hb) (Ext.refl _ _);have hpw:p<w.heap.size:=h.blk.lt;have hhw:hp<w.heap.size:=h.held.hpx.blk.lt;have HVW:Hid (∀k,hv.ownBlock=some k->k<w.heap.size):=fun k e=>(h.held.hpx.row.lt k e).2
 have hsA:w.heap.size<wA.heap.size:=HX.out.lt;have HRW:Hid (RpIn w own c p R cg cc hp mv hv ev hs es):=h;have HXW:Hid (BatK (fun d=>d=0∨d=c+10) w own x):=hx;have HAW:Hid (wA=w.alloc (.cells (bmC x) 134)):=hwA;have HMM:Hid (∀m∈(takeP lessM (fun m=>likeB x.b m.b) hs).2,m∈hs):=fun m hm=>za6 _ _ _ m (Or.inr hm)
 clear h hx hBA;have c7:wA.cell? ⟨p,7,none⟩=some (.pointer (some ⟨hp,0,none⟩)):=HR.out.blk.cell 7;have x0:wA.cell? ⟨w.heap.size,0,none⟩=some (I x.b.o):=HX.out.cell 0;have x1:wA.cell? ⟨w.heap.size,1,none⟩=some (I x.b.s):=HX.out.cell 1;have x2:wA.cell? ⟨w.heap.size,2,none⟩=some (I x.b.t):=HX.out.cell 2;have x3:wA.cell? ⟨w.heap.size,3,none⟩=some (.slice x.ca x.b.clock.length x.cc):=HX.out.cell 3;have x4:wA.cell? ⟨w.heap.size,4,none⟩=some (.slice x.ea x.b.effs.length x.ec):=HX.out.cell 4;go_enter func73,ntmps73;go_upto_region 1 with fail
 change Code.wp _ _ _ _ (w.alloc (.cells (bmC x) 134));rw [←hwA];clear hwA;go_cut [] (fun wx=>∃own1 hv1,Hid (DlAt w wx own own1 c p {R with held:=(takeP lessM (fun m=>likeB x.b m.b) hs).2.map (·.b)} cg cc hp mv hv1 ev (takeP lessM (fun m=>likeB x.b m.b) hs).2 es x))
 case first=>
  go_region_law (first
   | (go_simp;go_at_call 100;refine(zki x _).mono ?_;rintro e w3 ⟨rfl,hw3⟩;have HB3:Hid (Below wA.heap.size wA w3):=(by rw [hw3];first | exact((Below.refl _ _).drew).alloc (ac _) _ | exact(Below.refl _ _).alloc (ac _) _);have HG3:Hid (Blk w3 wA.heap.size (bmC x) 134):=(by rw [hw3];first | exact heap_alloc_new wA.drew _ | exact heap_alloc_new wA _);have c73:w3.cell? ⟨p,7,none⟩=some (.pointer (some ⟨hp,0,none⟩)):=zaa HB3.out c7;clear hw3)
   | (go_simp;go_at_call 99;refine(zsx hp hv hs wA.heap.size x _ (HR.out.held.hpx.kept HB3.out) hl HG3.out (by omega) (by intro e;have:=HVW.out _ e;omega)).mono ?_;rintro e w4 ⟨rfl,ho4⟩;have HO4:Hid (HpOk w3 hp hv (takeP lessM (fun m=>likeB x.b m.b) hs).2 w4):=ho4;clear ho4))
  all_goals
   (obtain⟨own1,hv1,hD1⟩:=dl_start hc0 HRW.out HXW.out HAW.out HB3.out HO4.out HMM.out
    have HD1:Hid (DlAt w w4 own own1 c p {R with held:=(takeP lessM (fun m=>likeB x.b m.b) hs).2.map (·.b)} cg cc hp mv hv1 ev (takeP lessM (fun m=>likeB x.b m.b) hs).2 es x):=hD1;clear hD1;go_wp2_with fail
    go_meet
    exact⟨own1,hv1,HD1⟩)
 case rest=>
  obtain⟨own1,hv1,HD1⟩:=hcut;clear HR HBK HX HBA c7 x0 x1 x2 x3 x4;have x4:wc.cell? ⟨w.heap.size,4,none⟩=some (.slice x.ea x.b.effs.length x.ec):=HD1.out.box.cell 4;go_wp2_with fail
  have HDs:Hid (DlAt w wc own own1 c p {R with held:=(takeP lessM (fun m=>likeB x.b m.b) hs).2.map (·.b),obs:=obsTo x.b R.obs 0} cg cc hp mv hv1 ev (takeP lessM (fun m=>likeB x.b m.b) hs).2 es x):=HD1.out;clear HD1 x4;go_loopw [18] (fun v wX=>∃(k:Nat) (own':Clr),k<=x.b.effs.length∧v=I k∧Hid (DlAt w wX own own' c p {R with held:=(takeP lessM (fun m=>likeB x.b m.b) hs).2.map (·.b),obs:=obsTo x.b R.obs k} cg cc hp mv hv1 ev (takeP lessM (fun m=>likeB x.b m.b) hs).2 es x)) (fun v _=>x.b.effs.length - (intOf v).toNat)
  case atStart=>exact⟨0,own1,az _,rfl,HDs⟩
  case round=>
   obtain⟨k,own',hk,rfl,HDk⟩:=hrel;clear HDs;by_cases hlt:k<x.b.effs.length
   ·have hms:x.ms.length=x.b.effs.length:=by rw [HDk.out.bat.effs,av]
    obtain⟨ep,eq,hea,_,hec⟩:=zjj HDk.out.bat.cells.at (by omega)
    obtain⟨g0,g1,g2,g3,g4,g5,g6⟩:=hec k (by omega);obtain⟨m,hm⟩:∃m,x.ms[k]'(by omega)=m:=⟨_,rfl⟩
    have HM:Hid (x.ms[k]'(by omega)=m):=hm;clear hm;rw [HM.out] at g0 g1 g2 g3 g4 g5 g6;have HMM2:Hid (m∈x.ms):=by show m∈x.ms;rw [←HM.out];exact aU _
    have HEF:Hid (x.b.effs[k]?=some m.e):=by
     show _=_;rw [HDk.out.bat.effs,List.getElem?_map,ag (by omega),←HM.out];rfl
    obtain⟨hob0,hob1,hva1,hva2,hdl⟩:=hval m.e (an HEF.out);have HDT:Hid (At wr m.da (flat zac m.e.dots)):=(HDk.out.bat.dots m HMM2.out).at
    have hol2:(obsTo x.b R.obs k).length=8:=by rw [zmd];exact hobs
    obtain⟨mb,vs,rfl,hmo,hom,hvl,_,hobA⟩:∃mb vs,mv= .map (some mb)∧own' mb=c∧OmAt wr mb vs∧vs.length=8∧(obsTo x.b R.obs k).length=8∧∀j (h1:j<vs.length) (h2:j<(obsTo x.b R.obs k).length),ObAt wr own' (c+1+j) vs[j] (obsTo x.b R.obs k)[j]:=by
     rcases HDk.out.rp.obs with h | h
     ·have h8:=hol2;rw [show obsTo x.b R.obs k= [] from h.1] at h8;cases h8
     ·exact h
    have HOM:Hid (OmAt wr mb vs):=hom;have HMO:Hid (own' mb=c):=hmo;have HOBA:Hid (∀j (h1:j<vs.length) (h2:j<(obsTo x.b R.obs k).length),ObAt wr own' (c+1+j) vs[j] (obsTo x.b R.obs k)[j]):=hobA;have HOBR:Hid (0<=m.e.ob∧m.e.ob<vs.length):=⟨hob0,by omega⟩
    obtain⟨v,hvs⟩:∃v,vs[m.e.ob.toNat]'(by omega)=v:=⟨_,rfl⟩
    have HVS:Hid (vs[m.e.ob.toNat]'(by omega)=v):=hvs;clear hvs;obtain⟨o,hoq⟩:∃o,(obsTo x.b R.obs k)[m.e.ob.toNat]'(by omega)=o:=⟨_,rfl⟩
    have HOQ0:Hid ((obsTo x.b R.obs k)[m.e.ob.toNat]'(by omega)=o):=hoq;clear hoq
    have HOB:Hid (ObAt wr own' (c+1+m.e.ob.toNat) v o):=by
     have:=hobA m.e.ob.toNat (by omega) (by omega);rw [HVS.out,HOQ0.out] at this;exact this
    have HBND:Hid (o.bound (N+k)):=by
     show Ob.bound _ _;rw [←HOQ0.out];exact HBD.out k hk _ (aU _)
    have HSTEP:Hid (obsTo x.b R.obs (k+1)=zcg (obsTo x.b R.obs k) (zbi x.b k) m.e):=by
     show _=_;rw [obsTo,HEF.out]
    have HOQ:Hid (zcg (obsTo x.b R.obs k) (zbi x.b k) m.e=(obsTo x.b R.obs k).set m.e.ob.toNat (o.take (zbi x.b k) m.e)):=by
     show _=_;unfold zcg;rw [ag (by omega),HOQ0.out]
    have hki:(k:Int)<x.b.effs.length:=by omega
    have hkN:N+k<=100000:=by omega
    clear hec hom hobA hval;rw [hea];clear hea;go_upto_region 5 with fail
    obtain⟨wB,hwB⟩:∃wB,wB=wr.alloc (.cells #[I m.e.op,I m.e.ob,I m.e.va,I m.e.ref.o,I m.e.ref.s,I m.e.ref.i, .slice m.da m.e.dots.length m.dc] 128):=⟨_,rfl⟩
    change Code.wp _ _ _ _ (wr.alloc (.cells #[I m.e.op,I m.e.ob,I m.e.va,I m.e.ref.o,I m.e.ref.s,I m.e.ref.i, .slice m.da m.e.dots.length m.dc] 128));rw [←hwB];have HBB:Hid (Below wr.heap.size wr wB):=by rw [hwB];exact(Below.refl _ _).alloc (ac _) _
    have HBX:Hid (Blk wB wr.heap.size #[I m.e.op,I m.e.ob,I m.e.va,I m.e.ref.o,I m.e.ref.s,I m.e.ref.i, .slice m.da m.e.dots.length m.dc] 128):=by rw [hwB];exact heap_alloc_new wr _
    have hszB:wr.heap.size<wB.heap.size:=HBX.out.lt;clear hwB g0 g1 g2 g3 g4 g5 g6;have HXB:Hid (Blk wB w.heap.size (bmC x) 134):=HDk.out.box.kept HBB.out HDk.out.box.lt;obtain⟨tv,pv,hvf⟩:=ObAt.face HOB.out;rw [hvf] at HVS HOB;have HBD0:Hid (Blk wB.drew w.heap.size (bmC x) 134):=HXB.out;have HBE0:Hid (Blk wB.drew wr.heap.size #[I m.e.op,I m.e.ob,I m.e.va,I m.e.ref.o,I m.e.ref.s,I m.e.ref.i, .slice m.da m.e.dots.length m.dc] 128):=HBX.out;have y0:wB.drew.cell? ⟨w.heap.size,0,none⟩=some (I x.b.o):=HBD0.out.cell 0;have y1:wB.drew.cell? ⟨w.heap.size,1,none⟩=some (I x.b.s):=HBD0.out.cell 1;have y2:wB.drew.cell? ⟨w.heap.size,2,none⟩=some (I x.b.t):=HBD0.out.cell 2;have y3:wB.drew.cell? ⟨w.heap.size,3,none⟩=some (.slice x.ca x.b.clock.length x.cc):=HBD0.out.cell 3;have y4:wB.drew.cell? ⟨w.heap.size,4,none⟩=some (.slice x.ea x.b.effs.length x.ec):=HBD0.out.cell 4;have q0:wB.drew.cell? ⟨wr.heap.size,0,none⟩=some (I m.e.op):=HBE0.out.cell 0;have q1:wB.drew.cell? ⟨wr.heap.size,1,none⟩=some (I m.e.ob):=HBE0.out.cell 1;have q2:wB.drew.cell? ⟨wr.heap.size,2,none⟩=some (I m.e.va):=HBE0.out.cell 2;have q3:wB.drew.cell? ⟨wr.heap.size,3,none⟩=some (I m.e.ref.o):=HBE0.out.cell 3;have q4:wB.drew.cell? ⟨wr.heap.size,4,none⟩=some (I m.e.ref.s):=HBE0.out.cell 4;have q5:wB.drew.cell? ⟨wr.heap.size,5,none⟩=some (I m.e.ref.i):=HBE0.out.cell 5;have q6:wB.drew.cell? ⟨wr.heap.size,6,none⟩=some (.slice m.da m.e.dots.length m.dc):=HBE0.out.cell 6;have b4:wB.drew.cell? ⟨p,4,none⟩=some (.map (some mb)):=zaa HBB.out (HDk.out.rp.blk.cell 4);have hlk:=zed m.e.ob wB.drew mb vs (HOM.out.same (HBB.out.block mb HOM.out.lt)) HOBR.out;rw [HVS.out] at hlk;have HSM:Hid (o.small):=Ob.bound_small HBND.out hkN;have hpwr:p<wr.heap.size:=HDk.out.rp.blk.lt;have hxwr:w.heap.size<wr.heap.size:=HDk.out.box.lt
    go_region_held_law (fun w'=>w'.cell? ⟨w.heap.size,0,none⟩=some (I x.b.o)∧w'.cell? ⟨w.heap.size,1,none⟩=some (I x.b.s)∧w'.cell? ⟨w.heap.size,2,none⟩=some (I x.b.t)∧w'.cell? ⟨w.heap.size,3,none⟩=some (.slice x.ca x.b.clock.length x.cc)∧w'.cell? ⟨w.heap.size,4,none⟩=some (.slice x.ea x.b.effs.length x.ec)∧w'.cell? ⟨wr.heap.size,0,none⟩=some (I m.e.op)∧w'.cell? ⟨wr.heap.size,1,none⟩=some (I m.e.ob)∧w'.cell? ⟨wr.heap.size,2,none⟩=some (I m.e.va)∧w'.cell? ⟨wr.heap.size,3,none⟩=some (I m.e.ref.o)∧w'.cell? ⟨wr.heap.size,4,none⟩=some (I m.e.ref.s)∧w'.cell? ⟨wr.heap.size,5,none⟩=some (I m.e.ref.i)∧w'.cell? ⟨wr.heap.size,6,none⟩=some (.slice m.da m.e.dots.length m.dc)∧w'.cell? ⟨p,4,none⟩=some (.map (some mb))∧(Instr.lookup 104 (.map (some mb)) (I m.e.ob) false).run prog w'= .ok (.iface tv pv) w') (exact⟨by assumption,by assumption,by assumption,by assumption,by assumption,by assumption,by assumption,by assumption,by assumption,by assumption,by assumption,by assumption,by assumption,by assumption⟩)
     (first | (refine zej rfl _ _ _ _ rfl (.iface tv pv) o (zbi x.b k) m (newTo own' wr.heap.size 0) (c+1+m.e.ob.toNat) (by simp [Act.eval]) (by simp [Act.eval]) (by simp [Act.eval]) (HOB.out.keep (fun b hl _=>HB3.out.block b hl) (zab _ _ _)) HSM.out hva1 hva2 (HDT.out.kept HB3.out) hdl ?_;intro w5 hT5;have HT5:Hid (zee (newTo own' wr.heap.size 0) (c+1+m.e.ob.toNat) (.iface tv pv) (o.take (zbi x.b k) m.e) w3 (.returned (.tuple #[])) w5):=hT5;have HK5:Hid (Tch (fun j=>newTo own' wr.heap.size 0 j=c+1+m.e.ob.toNat) w3 w5):=(by obtain⟨_,_,_,_,hT⟩:=hT5;exact hT);clear hT5;have HX5:Hid (Blk w5 w.heap.size (bmC x) 134):=HK5.out.blk HX3.out (by show¬_=_;rw [zae _ _ _ _ hxwr,HDk.out.boxc];omega);have HE5:Hid (Blk w5 wr.heap.size #[I m.e.op,I m.e.ob,I m.e.va,I m.e.ref.o,I m.e.ref.s,I m.e.ref.i, .slice m.da m.e.dots.length m.dc] 128):=HK5.out.blk HE3.out (by show¬_=_;rw [zaf _ _ _ _ (ac _)];omega);have w5y0:w5.cell? ⟨w.heap.size,0,none⟩=some (I x.b.o):=HX5.out.cell 0;have w5y1:w5.cell? ⟨w.heap.size,1,none⟩=some (I x.b.s):=HX5.out.cell 1;have w5y2:w5.cell? ⟨w.heap.size,2,none⟩=some (I x.b.t):=HX5.out.cell 2;have w5y3:w5.cell? ⟨w.heap.size,3,none⟩=some (.slice x.ca x.b.clock.length x.cc):=HX5.out.cell 3;have w5y4:w5.cell? ⟨w.heap.size,4,none⟩=some (.slice x.ea x.b.effs.length x.ec):=HX5.out.cell 4;have w5q0:w5.cell? ⟨wr.heap.size,0,none⟩=some (I m.e.op):=HE5.out.cell 0;have w5q1:w5.cell? ⟨wr.heap.size,1,none⟩=some (I m.e.ob):=HE5.out.cell 1;have w5q2:w5.cell? ⟨wr.heap.size,2,none⟩=some (I m.e.va):=HE5.out.cell 2;have w5q3:w5.cell? ⟨wr.heap.size,3,none⟩=some (I m.e.ref.o):=HE5.out.cell 3;have w5q4:w5.cell? ⟨wr.heap.size,4,none⟩=some (I m.e.ref.s):=HE5.out.cell 4;have w5q5:w5.cell? ⟨wr.heap.size,5,none⟩=some (I m.e.ref.i):=HE5.out.cell 5;have w5q6:w5.cell? ⟨wr.heap.size,6,none⟩=some (.slice m.da m.e.dots.length m.dc):=HE5.out.cell 6;have w5b4:w5.cell? ⟨p,4,none⟩=some (.map (some mb)):=HK5.out.cell w3b4 (by show¬_=_;rw [zae _ _ _ _ hpwr,HDk.out.rp.own1];omega);have hlk5:=zed m.e.ob w5 mb vs ((HOM.out.same (HB3.out.block mb HOM.out.lt)).same (HK5.out.block mb (Nat.lt_of_lt_of_le HOM.out.lt HB3.out.size) (by show¬_=_;rw [zae _ _ _ _ HOM.out.lt,HMO.out];omega))) HOBR.out;rw [HVS.out] at hlk5) | (go_at_call 96;refine(ziv x k _).mono ?_;rintro e w3 ⟨rfl,hb3⟩;have HB3:Hid (Below wr.heap.size wr w3):=HBB.out.drew.trans (hb3.mono (Nat.le_of_lt hszB));have HX3:Hid (Blk w3 w.heap.size (bmC x) 134):=HBD0.out.kept hb3 HBD0.out.lt;have HE3:Hid (Blk w3 wr.heap.size #[I m.e.op,I m.e.ob,I m.e.va,I m.e.ref.o,I m.e.ref.s,I m.e.ref.i, .slice m.da m.e.dots.length m.dc] 128):=HBE0.out.kept hb3 HBE0.out.lt;have HSZ3:Hid (wr.heap.size<w3.heap.size):=HE3.out.lt;clear hb3;have w3y0:w3.cell? ⟨w.heap.size,0,none⟩=some (I x.b.o):=HX3.out.cell 0;have w3y1:w3.cell? ⟨w.heap.size,1,none⟩=some (I x.b.s):=HX3.out.cell 1;have w3y2:w3.cell? ⟨w.heap.size,2,none⟩=some (I x.b.t):=HX3.out.cell 2;have w3y3:w3.cell? ⟨w.heap.size,3,none⟩=some (.slice x.ca x.b.clock.length x.cc):=HX3.out.cell 3;have w3y4:w3.cell? ⟨w.heap.size,4,none⟩=some (.slice x.ea x.b.effs.length x.ec):=HX3.out.cell 4;have w3q0:w3.cell? ⟨wr.heap.size,0,none⟩=some (I m.e.op):=HE3.out.cell 0;have w3q1:w3.cell? ⟨wr.heap.size,1,none⟩=some (I m.e.ob):=HE3.out.cell 1;have w3q2:w3.cell? ⟨wr.heap.size,2,none⟩=some (I m.e.va):=HE3.out.cell 2;have w3q3:w3.cell? ⟨wr.heap.size,3,none⟩=some (I m.e.ref.o):=HE3.out.cell 3;have w3q4:w3.cell? ⟨wr.heap.size,4,none⟩=some (I m.e.ref.s):=HE3.out.cell 4;have w3q5:w3.cell? ⟨wr.heap.size,5,none⟩=some (I m.e.ref.i):=HE3.out.cell 5;have w3q6:w3.cell? ⟨wr.heap.size,6,none⟩=some (.slice m.da m.e.dots.length m.dc):=HE3.out.cell 6;have w3b4:w3.cell? ⟨p,4,none⟩=some (.map (some mb)):=zaa HB3.out (HDk.out.rp.blk.cell 4);have hlk3:=zed m.e.ob w3 mb vs (HOM.out.same (HB3.out.block mb HOM.out.lt)) HOBR.out;rw [HVS.out] at hlk3))
    all_goals
     (obtain⟨own5,hD5⟩:=DlAt.took (k:=m.e.ob.toNat) hc0 (HDk.out.below HB3.out) (HOM.out.same (HB3.out.block mb HOM.out.lt)) ((zae _ _ _ _ HOM.out.lt).trans HMO.out) hvl hol2 (by omega) (fun j h1 h2=>(HOBA.out j h1 h2).keep (fun b hl _=>HB3.out.block b hl) (zab _ _ _)) (by rw [HVS.out];exact HT5.out)
      have HD5:Hid (DlAt w w5 own own5 c p {R with held:=(takeP lessM (fun m=>likeB x.b m.b) hs).2.map (·.b),obs:=obsTo x.b R.obs (k+1)} cg cc hp (.map (some mb)) hv1 ev (takeP lessM (fun m=>likeB x.b m.b) hs).2 es x):=by
       show DlAt _ _ _ _ _ _ _ _ _ _ _ _ _ _ _ _;rw [HSTEP.out,HOQ.out];exact hD5
      clear hD5 HT5;go_wp2_with fail
      go_roundw
      case rel=>exact⟨k+1,own5,hlt,by go_num,HD5⟩
      case measure=>simp [intOf];omega)
   ·have hkl:k=x.b.effs.length:=by omega
    have HDe:Hid (DlAt w wr own own' c p {R with held:=(takeP lessM (fun m=>likeB x.b m.b) hs).2.map (·.b),obs:=obsTo x.b R.obs x.b.effs.length} cg cc hp mv hv1 ev (takeP lessM (fun m=>likeB x.b m.b) hs).2 es x):=by rw [hkl] at HDk;exact HDk
    have hki:¬(k:Int)<x.b.effs.length:=by omega
    clear HDk hkl;have y0:wr.cell? ⟨w.heap.size,0,none⟩=some (I x.b.o):=HDe.out.box.cell 0;have y1:wr.cell? ⟨w.heap.size,1,none⟩=some (I x.b.s):=HDe.out.box.cell 1;have y2:wr.cell? ⟨w.heap.size,2,none⟩=some (I x.b.t):=HDe.out.box.cell 2;have b2:wr.cell? ⟨p,2,none⟩=some (.slice (some ⟨cg,0,none⟩) R.clock.length cc):=HDe.out.rp.blk.cell 2;have hoi:x.b.o<(R.clock.length:Int):=ho1;have hon:x.b.o.toNat<R.clock.length:=by omega
    have d0:wr.cell? ⟨cg,x.b.o.toNat,none⟩=some (I (R.clock.getD x.b.o.toNat 0)):=by
     have:=HDe.out.rp.clkAt.row x.b.o.toNat hon;rw [this];simp [hon]
    have z0:wr.frozen? ⟨cg,x.b.o.toNat,none⟩=false:=HDe.out.rp.clk.frozen _;obtain⟨dk,HDK⟩:∃dk,Hid (R.clock.getD x.b.o.toNat 0=dk):=⟨_,rfl⟩
    rw [HDK.out] at d0;go_wp2_with fail
    go_region
    obtain⟨w7,hw7⟩:∃w7,w7=(wr.setCell ⟨cg,x.b.o.toNat,none⟩ (I x.b.s)).drew:=⟨_,rfl⟩
    change Exit.then _ _ Exit.normal _ (wr.setCell ⟨cg,x.b.o.toNat,none⟩ (I x.b.s)).drew;rw [←hw7]
    have HR7:Hid (RpIn w7 own' c p {R with held:=(takeP lessM (fun m=>likeB x.b m.b) hs).2.map (·.b),obs:=obsTo x.b R.obs x.b.effs.length,clock:=R.clock.set x.b.o.toNat x.b.s} cg cc hp mv hv1 ev (takeP lessM (fun m=>likeB x.b m.b) hs).2 es):=by
     rw [hw7];exact(HDe.out.rp.setClk hc0 x.b.o.toNat x.b.s).keep (fun _ _ _=>rfl) (fun _ _ _ _ _ _=>rfl) (Ext.refl _ _)
    have hcol:own' cg=c:=HDe.out.rp.own2;have hcp:own' p=c:=HDe.out.rp.own1
    have hcgn:w.heap.size ≠ cg:=by
     intro e;have:=HDe.out.boxc;rw [e,hcol] at this;omega
    have HX7:Hid (Blk w7 w.heap.size (bmC x) 134):=by rw [hw7];exact HDe.out.box.other hcgn _
    have HT7:Hid (TchR own c w w7):=by
     rw [hw7];refine(HDe.out.tch.setCell ⟨cg,x.b.o.toNat,none⟩ _ ?_).drew;rcases Nat.lt_or_ge cg w.heap.size with h | h
     ·have h9:=HDe.out.ext cg h
      exact Or.inl ⟨by show c<=own cg;omega,by show own cg<=c+9;omega⟩
     ·right;exact h
    clear hw7 y0 y1 y2 b2 d0 z0 HDK;have y2:w7.cell? ⟨w.heap.size,2,none⟩=some (I x.b.t):=HX7.out.cell 2;have b3:w7.cell? ⟨p,3,none⟩=some (I R.time):=HR7.out.blk.cell 3;have z3:w7.frozen? ⟨p,3,none⟩=false:=HR7.out.blk.frozen 3;go_wp2_with fail
    go_region
    obtain⟨w8,hw8⟩:∃w8,w8=(w7.setCell ⟨p,3,none⟩ (I (max R.time x.b.t))).drew:=⟨_,rfl⟩
    change Exit.then _ _ Exit.normal _ (w7.setCell ⟨p,3,none⟩ (I (max R.time x.b.t))).drew;rw [←hw8]
    have HR8:Hid (RpIn w8 own' c p {R with held:=(takeP lessM (fun m=>likeB x.b m.b) hs).2.map (·.b),obs:=obsTo x.b R.obs x.b.effs.length,clock:=R.clock.set x.b.o.toNat x.b.s,time:=max R.time x.b.t} cg cc hp mv hv1 ev (takeP lessM (fun m=>likeB x.b m.b) hs).2 es):=by
     rw [hw8];exact(HR7.out.self (R':={R with held:=(takeP lessM (fun m=>likeB x.b m.b) hs).2.map (·.b),obs:=obsTo x.b R.obs x.b.effs.length,clock:=R.clock.set x.b.o.toNat x.b.s,time:=max R.time x.b.t}) hc0 (zas (Tch.refl _ _) 3 _) (HR7.out.blk.set 3 _) rfl rfl rfl rfl).keep (fun _ _ _=>rfl) (fun _ _ _ _ _ _=>rfl) (Ext.refl _ _)
    have HPW:Hid (p<w.heap.size):=hpw;have HOP:Hid (own p=c):=by have h9:=HDe.out.ext p hpw;show own p=c;omega
    have HT8:Hid (TchR own c w w8):=by
     rw [hw8];refine(HT7.out.setCell ⟨p,3,none⟩ _ (Or.inl ⟨?_, ?_⟩)).drew
     ·show c<=own p;rw [HOP.out];omega
     ·show own p<=c+9;rw [HOP.out];omega
    have HEX:Hid (Ext own own' w.heap.size):=HDe.out.ext;clear hw8 y2 b3 z3 HR7 HT7 HX7 HDe;go_wp2_with fail
    refine(zp0 own' c p _ cg cc hp mv hv1 ev (takeP lessM (fun m=>likeB x.b m.b) hs).2 es fr w8 hc0 HR8.out hlog).mono ?_;rintro e w9 ⟨rfl,ho9⟩
    have HE:Hid (DelOk w own c p (zam R x.b fr ((takeP lessM (fun m=>likeB x.b m.b) hs).2.map (·.b))) cg cc hp mv ev (takeP lessM (fun m=>likeB x.b m.b) hs).2 es w9):=by
     refine⟨own',hv1,HEX.out,ho9.1,HT8.out.trans ho9.2 (fun _ _ h=>h) (fun k hk e=> ?_)⟩;subst e;exact⟨by show c<=own k;rw [HOP.out];omega,by show own k<=c+9;rw [HOP.out];omega⟩
    clear ho9;go_wp2;go_end0;exact⟨rfl,HE.out⟩
theorem zns{w:World}{base base':Nat}{e:TypeId}{size n:Nat}{v:Value}{xs:List Value}(h:w.ownsRow base e size v n xs)(hb:base'<=base):w.ownsRow base' e size v n xs:=by
 obtain⟨h1,h2⟩:=h;refine⟨h1, ?_⟩;rcases h2 with h2 | ⟨g,cap,cur,e1,hg,rest⟩
 ·exact Or.inl h2
 ·exact Or.inr ⟨g,cap,cur,e1,by omega,rest⟩
theorem zug{w:World}{base:Nat}{e:TypeId}{size n c:Nat}{a:Option Addr}{xs:List Value}(h:w.ownsRow base e size (.slice a n c) n xs)(hz:n=0->xs= []):At w a xs:=by
 rcases h.2 with⟨e1,hn⟩ | ⟨g,cap,cur,e1,_⟩
 ·rw [hz hn]
  intro j u hj;simp at hj
 ·cases e1
  exact zsc h
theorem mCopyC (v : Value) (w : World) : (method 483 195 v "Copy").run prog w = .ok (240, v) w := by kernel_rfl
theorem mCopyS (v : Value) (w : World) : (method 483 198 v "Copy").run prog w = .ok (244, v) w := by kernel_rfl
theorem mCopyR (v : Value) (w : World) : (method 483 203 v "Copy").run prog w = .ok (302, v) w := by kernel_rfl
theorem mCopyL (v : Value) (w : World) : (method 483 205 v "Copy").run prog w = .ok (306, v) w := by kernel_rfl
def CpOk(own:Clr)(ob:Ob)(w:World)(e:Ending)(w':World):Prop:=∃v,e= .returned v∧(∀d,ObAt w' (newTo own w.heap.size d) d v ob)∧Below w.heap.size w w'
theorem zjo{o:Oper}{a:Act}{w:World}{K:Act->World->Prop}{Q:Exit->Act->World->Prop}(x:Operand)(ats:Array TypeId)
    (hop : o.op = .call { callee := .invoke x "Copy", args := #[], argTypes := ats }) (v : Value) (ob : Ob) (own : Clr) (c : Nat) (hx : a.eval x = v)
    (hob:ObAt w own c v ob) (hsm:ob.small)
    (hK:∀v' w',CpOk own ob w (.returned v') w'->K (a.put o.dst v') w'):Oper.wp prog o a w K Q:=by
  have hex : ∀ t q f, v = .iface t q -> (∀ w', (method 483 t q "Copy").run prog w' = .ok (f, q) w') -> (callFunc f #[q]).run prog w = .ok (.enter f #[q]) w -> (Calls prog f #[q] w fun e w' => CpOk own ob w e w') -> Oper.wp prog o a w K Q := by
    intro t q f hv hm hcf hcalls
    have hrun:(execOp a.eval o).run prog w= .ok (.enter f #[q]) w:=by
      unfold execOp;simp only [hop];simp only [resolve,invoke,Sem.run_bind,Sem.run_pure,Result.andThen_ok,List.map_toArray,List.map_nil,hx,hv];show (callMethod (.iface t q) "Copy" #[]).run prog w = _;unfold callMethod;simp [Made.depth,hm,hcf]
    unfold Oper.wp;rw [hrun,Oper.upon_enter];refine hcalls.mono ?_;intro e w' hT;obtain⟨v',he,h2,h3⟩:=hT;subst he;exact hK v' w' ⟨v',rfl,h2,h3⟩
  cases ob with
  | counter n=>
    obtain⟨pp,hveq,hp,hb⟩:=hob;refine hex _ _ _ hveq (fun w'=>mCopyC _ w') (by kernel_rfl) ?_;refine(zx0 pp n w hb).mono ?_;rintro e w' ⟨⟨q,rfl,hq,hk⟩,hB⟩;exact⟨_,rfl,fun d=>⟨q,rfl,zaf _ _ _ _ hq,hk⟩,hB⟩
  | set l=>
    obtain⟨pp,b,hveq,hp,hob,hb,hm⟩:=hob;refine hex _ _ _ hveq (fun w'=>mCopyS _ w') (by kernel_rfl) ?_;refine(zvv pp b l w hb hm).mono ?_;rintro e w' ⟨⟨q,b',rfl,hq,hq2,hk,hk2⟩,hB⟩;exact⟨_,rfl,fun d=>⟨q,b',rfl,zaf _ _ _ _ hq,zaf _ _ _ _ hq2,hk,hk2⟩,hB⟩
  | reg l=>
    obtain⟨pp,b,hveq,hp,hob,hb,hm⟩:=hob;refine hex _ _ _ hveq (fun w'=>mCopyR _ w') (by kernel_rfl) ?_;refine(zv5 pp b l w hb hm).mono ?_;rintro e w' ⟨⟨q,b',rfl,hq,hq2,hk,hk2⟩,hB⟩;exact⟨_,rfl,fun d=>⟨q,b',rfl,zaf _ _ _ _ hq,zaf _ _ _ _ hq2,hk,hk2⟩,hB⟩
  | list ls=>
    obtain⟨pp,sv,hveq,hp,hg,hL⟩:=hob;have hs':ls.length<=1000000:=hsm;refine hex _ _ _ hveq (fun w'=>mCopyL _ w') (by kernel_rfl) ?_;refine(zwn pp 0 sv ls w hL (by omega)).mono ?_;rintro e w' ⟨⟨q,sv',rfl,hL'⟩,hB⟩;exact⟨_,rfl,fun d=>⟨q,sv',rfl,zaf _ _ _ _ hL'.le,fun g hgs=>zaf _ _ _ _ (hL'.row.lt g hgs).1,⟨hL'.blk,zns hL'.row (az _),az _⟩⟩,hB⟩
theorem zgq{ops:Array Oper}{rest:List Oper}{o:Oper}{a:Act}{w:World}{Q:Exit->Act->World->Prop}(hgd:o.guard=none)(x:Operand)(ats:Array TypeId)
    (hop : o.op = .call { callee := .invoke x "Copy", args := #[], argTypes := ats }) (v : Value) (ob : Ob) (own : Clr) (c : Nat) (hx : a.eval x = v)
    (hob:ObAt w own c v ob) (hsm:ob.small)
    (hh:∀v' w',CpOk own ob w (.returned v') w'->wpList prog ops Q rest (a.put o.dst v') w'):
    wpList prog ops Q (o::rest) a w:=by
  refine wpList_plain hgd fun K hK=> ?_
  exact zjo x ats hop v ob own c hx hob hsm (fun v' w' h=>hK _ _ (hh v' w' h))
def pendB(R:Rp):Wv.Bt:=⟨R.n,R.clock.getD R.n.toNat 0+1,R.time+1,R.clock,R.effs⟩
def PendOk(own:Clr)(c:Nat)(R:Rp)(es:List Em)(w:World)(e:Ending)(w':World):Prop:=∃x:Bm,e= .returned (bmV x)∧x.b=pendB R∧x.ms=es∧Below w.heap.size w w'∧BatK (fun d=>d=0∨d=c+10) w' (newTo own w.heap.size 0) x
theorem zzd{own:Clr}{c p:Nat}{R:Rp}{cg cc hp:Nat}{mv hv:Value}{hs:List Bm}{es:List Em}{w w':World}{ea ca:Option Addr}{ec cc':Nat}(h:RpIn w own c p R cg cc hp mv hv (.slice ea R.effs.length ec) hs es)(hB:Below w.heap.size w w')
  (ho:w'.ownsRow w.heap.size 3 1 (.slice ca R.clock.length cc') R.clock.length (R.clock.map I)):BatK (fun d=>d=0∨d=c+10) w' (newTo own w.heap.size 0) ⟨pendB R,ca,ea,cc',ec,es⟩:=by
 have hE:=h.effs.keep (fun b hb _=>hB.block b hb) (fun b hb _=>hB.block b hb) (zab own w.heap.size 0);have hl:es.length=R.effs.length:=by rw [h.effsE,av]
 refine⟨fun j u hj=> ?_,h.effsE,fun j u hj=> ?_,fun x hx j u hj=> ?_⟩
 ·obtain⟨b,o,e,hc⟩:=zug ho (fun hz=>by rw [aw hz];rfl) j u hj
  have e2:ca=some ⟨b,o,none⟩:=e;have hb:w.heap.size<=b:=(ho.lt b (by rw [e2];rfl)).1;exact⟨b,o,e,Or.inl (zaf _ _ _ _ hb),hc⟩
 ·have hr:=hE.row
  rw [hl] at hr;obtain⟨b,o,e,hc⟩:=zug hr (fun hz=>by rw [aw (hl.trans hz)];rfl) j u hj;have e2:ea=some ⟨b,o,none⟩:=e;exact⟨b,o,e,Or.inr (hE.own2 b (by rw [e2];rfl)),hc⟩
 ·obtain⟨b,o,e,h0,hc⟩:=hE.dots x hx j u hj
  exact⟨b,o,e,Or.inl h0,hc⟩
theorem zc8(own:Clr)(c p:Nat)(R:Rp)(cg cc hp:Nat)(mv hv ev:Value)(hs:List Bm)(es:List Em)(w:World)(h:RpIn w own c p R cg cc hp mv hv ev hs es)(hl:R.clock.length<=1000)(hn0:0<=R.n)(hn1:R.n<R.clock.length)(hs0:∀z∈R.clock,0<=z∧z<=1000000)(ht0:0<=R.time)(ht1:R.time<=1000000000):
  Calls prog 70 #[.pointer (some ⟨p,0,none⟩)] w fun e w'=>PendOk own c R es w e w':=by
 obtain⟨ea,en,ec,rfl⟩:=zcd h.effs.row
 obtain rfl:en=R.effs.length:=by
  rw [h.effsE,av];rcases h.effs.row.2 with⟨e,hz⟩ | ⟨g,cap,cur,e,_⟩
  ·cases e;exact hz.symm
  ·cases e;rfl
 have c0:w.cell? ⟨p,0,none⟩=some (I R.n):=h.blk.cell 0;have c2:w.cell? ⟨p,2,none⟩=some (.slice (some ⟨cg,0,none⟩) R.clock.length cc):=h.blk.cell 2;have c3:w.cell? ⟨p,3,none⟩=some (I R.time):=h.blk.cell 3;have c8:w.cell? ⟨p,8,none⟩=some (.slice ea R.effs.length ec):=h.blk.cell 8;obtain⟨n,HN⟩:∃n:Nat,R.n=n:=⟨R.n.toNat,by omega⟩
 have hnl:n<R.clock.length:=by omega
 have cn:w.cell? ⟨cg,n,none⟩=some (I R.clock[n]):=h.clkAt.row n hnl;obtain⟨hz0,hz1⟩:=hs0 _ (aU hnl)
 have HPB:Hid (pendB R=⟨n,R.clock[n]+1,R.time+1,R.clock,R.effs⟩):=by
  show _=_;unfold pendB;rw [HN,aj];simp [hnl]
 rw [HN] at c0;have hnl2:(n:Int)<R.clock.length:=by omega
 have HNN:Hid (R.n=n):=HN;clear HN hn0 hn1;have HRW:Hid (RpIn w own c p R cg cc hp mv hv (.slice ea R.effs.length ec) hs es):=h;clear h hs0;generalize R.clock[n]=z at *
 go_enter func70,ntmps70;go_wp2_with fail
 obtain⟨wA,hwA⟩:∃wA,wA=w.alloc (.cells #[.int .i64 0, .int .i64 0, .int .i64 0, .slice none 0 0, .slice none 0 0] 134):=⟨_,rfl⟩
 change Code.wp _ _ _ _ (w.alloc (.cells #[.int .i64 0, .int .i64 0, .int .i64 0, .slice none 0 0, .slice none 0 0] 134));rw [←hwA];have HBA:Hid (Below w.heap.size w wA):=by rw [hwA];exact(Below.refl _ _).alloc (ac _) _
 have hpw:p<w.heap.size:=HRW.out.blk.lt;have hcw:cg<w.heap.size:=HRW.out.clk.lt;have HAN:Hid (Blk wA w.heap.size #[.int .i64 0, .int .i64 0, .int .i64 0, .slice none 0 0, .slice none 0 0] 134):=by rw [hwA];exact heap_alloc_new w _
 clear hwA;have HRD:Hid (RpIn wA.drew own c p R cg cc hp mv hv (.slice ea R.effs.length ec) hs es):=HRW.out.keep (fun b hb _=>HBA.out.block b hb) (fun d _ _ b hb _=>HBA.out.block b hb) (Ext.refl _ _);have d0:wA.drew.cell? ⟨p,0,none⟩=some (I n):=zaa HBA.out c0;have d2:wA.drew.cell? ⟨p,2,none⟩=some (.slice (some ⟨cg,0,none⟩) R.clock.length cc):=zaa HBA.out c2;have d3:wA.drew.cell? ⟨p,3,none⟩=some (I R.time):=zaa HBA.out c3;have d8:wA.drew.cell? ⟨p,8,none⟩=some (.slice ea R.effs.length ec):=zaa HBA.out c8;have dn:wA.drew.cell? ⟨cg,n,none⟩=some (I z):=zaa HBA.out cn
 go_region_held_law (fun w'=>w'.cell? ⟨p,0,none⟩=some (I n)∧w'.cell? ⟨p,2,none⟩=some (.slice (some ⟨cg,0,none⟩) R.clock.length cc)∧w'.cell? ⟨p,3,none⟩=some (I R.time)∧w'.cell? ⟨p,8,none⟩=some (.slice ea R.effs.length ec)∧w'.cell? ⟨cg,n,none⟩=some (I z)) (first | exact⟨by with_reducible assumption,by with_reducible assumption,by with_reducible assumption,by with_reducible assumption,by with_reducible assumption⟩)
  (first | (go_at_call 36;refine(zj8 own c p R cg cc hp mv hv _ hs es _ HRD.out hl).mono ?_;rintro e w3 ⟨v3,rfl,ho3,hb3⟩;obtain⟨ca,cm,cp,rfl⟩:=zcd ho3;have HO3:Hid (w3.ownsRow wA.heap.size 3 1 (.slice ca cm cp) R.clock.length (R.clock.map I)):=ho3;have HB3:Hid (Below wA.heap.size wA w3):=(Below.refl _ _).drew.trans hb3;clear ho3 hb3;have f0:w3.cell? ⟨p,0,none⟩=some (I n):=zaa HB3.out d0;have f2:w3.cell? ⟨p,2,none⟩=some (.slice (some ⟨cg,0,none⟩) R.clock.length cc):=zaa HB3.out d2;have f3:w3.cell? ⟨p,3,none⟩=some (I R.time):=zaa HB3.out d3;have f8:w3.cell? ⟨p,8,none⟩=some (.slice ea R.effs.length ec):=zaa HB3.out d8;have fn:w3.cell? ⟨cg,n,none⟩=some (I z):=zaa HB3.out dn;have HAN3:Hid (Blk w3 w.heap.size #[.int .i64 0, .int .i64 0, .int .i64 0, .slice none 0 0, .slice none 0 0] 134):=HAN.out.kept HB3.out HAN.out.lt;have a0:w3.cell? ⟨w.heap.size,0,none⟩=some (.int .i64 0):=HAN3.out.cell 0;have z0:=HAN3.out.frozen 0;have a1:w3.cell? ⟨w.heap.size,1,none⟩=some (.int .i64 0):=HAN3.out.cell 1;have z1:=HAN3.out.frozen 1;have a2:w3.cell? ⟨w.heap.size,2,none⟩=some (.int .i64 0):=HAN3.out.cell 2;have z2:=HAN3.out.frozen 2;have a3:w3.cell? ⟨w.heap.size,3,none⟩=some (.slice none 0 0):=HAN3.out.cell 3;have z3:=HAN3.out.frozen 3;have a4:w3.cell? ⟨w.heap.size,4,none⟩=some (.slice none 0 0):=HAN3.out.cell 4;have z4:=HAN3.out.frozen 4;obtain rfl:cm=R.clock.length:=(by rcases HO3.out.2 with⟨e,hz⟩ | ⟨g,cap,cur,e,_⟩<;>cases e<;>first | exact hz.symm | rfl);have HT3:Hid (Tch (fun k=>k=w.heap.size) w3 (((((w3.setCell ⟨w.heap.size,0,none⟩ (I n)).setCell ⟨w.heap.size,1,none⟩ (I (IntKind.i64.wrap (z+1)))).setCell ⟨w.heap.size,2,none⟩ (I (IntKind.i64.wrap (R.time+1)))).setCell ⟨w.heap.size,3,none⟩ (.slice ca R.clock.length cp)).setCell ⟨w.heap.size,4,none⟩ (.slice ea R.effs.length ec))):=zas (zas (zas (zas (zas (Tch.refl _ _) _ _) _ _) _ _) _ _) _ _;have hf0:(((((w3.setCell ⟨w.heap.size,0,none⟩ (I n)).setCell ⟨w.heap.size,1,none⟩ (I (IntKind.i64.wrap (z+1)))).setCell ⟨w.heap.size,2,none⟩ (I (IntKind.i64.wrap (R.time+1)))).setCell ⟨w.heap.size,3,none⟩ (.slice ca R.clock.length cp)).setCell ⟨w.heap.size,4,none⟩ (.slice ea R.effs.length ec)).cell? ⟨p,0,none⟩=some (I n):=HT3.out.cell f0 (by show¬_=_;omega);have hf2:(((((w3.setCell ⟨w.heap.size,0,none⟩ (I n)).setCell ⟨w.heap.size,1,none⟩ (I (IntKind.i64.wrap (z+1)))).setCell ⟨w.heap.size,2,none⟩ (I (IntKind.i64.wrap (R.time+1)))).setCell ⟨w.heap.size,3,none⟩ (.slice ca R.clock.length cp)).setCell ⟨w.heap.size,4,none⟩ (.slice ea R.effs.length ec)).cell? ⟨p,2,none⟩=some (.slice (some ⟨cg,0,none⟩) R.clock.length cc):=HT3.out.cell f2 (by show¬_=_;omega);have hf3:(((((w3.setCell ⟨w.heap.size,0,none⟩ (I n)).setCell ⟨w.heap.size,1,none⟩ (I (IntKind.i64.wrap (z+1)))).setCell ⟨w.heap.size,2,none⟩ (I (IntKind.i64.wrap (R.time+1)))).setCell ⟨w.heap.size,3,none⟩ (.slice ca R.clock.length cp)).setCell ⟨w.heap.size,4,none⟩ (.slice ea R.effs.length ec)).cell? ⟨p,3,none⟩=some (I R.time):=HT3.out.cell f3 (by show¬_=_;omega);have hf8:(((((w3.setCell ⟨w.heap.size,0,none⟩ (I n)).setCell ⟨w.heap.size,1,none⟩ (I (IntKind.i64.wrap (z+1)))).setCell ⟨w.heap.size,2,none⟩ (I (IntKind.i64.wrap (R.time+1)))).setCell ⟨w.heap.size,3,none⟩ (.slice ca R.clock.length cp)).setCell ⟨w.heap.size,4,none⟩ (.slice ea R.effs.length ec)).cell? ⟨p,8,none⟩=some (.slice ea R.effs.length ec):=HT3.out.cell f8 (by show¬_=_;omega);have hfn:(((((w3.setCell ⟨w.heap.size,0,none⟩ (I n)).setCell ⟨w.heap.size,1,none⟩ (I (IntKind.i64.wrap (z+1)))).setCell ⟨w.heap.size,2,none⟩ (I (IntKind.i64.wrap (R.time+1)))).setCell ⟨w.heap.size,3,none⟩ (.slice ca R.clock.length cp)).setCell ⟨w.heap.size,4,none⟩ (.slice ea R.effs.length ec)).cell? ⟨cg,n,none⟩=some (I z):=HT3.out.cell fn (by show¬_=_;omega)))
 all_goals
  go_wp2_with fail
  obtain⟨wF,hwF⟩:∃wF,wF=(((((w3.setCell ⟨w.heap.size,0,none⟩ (I n)).setCell ⟨w.heap.size,1,none⟩ (I (IntKind.i64.wrap (z+1)))).setCell ⟨w.heap.size,2,none⟩ (I (IntKind.i64.wrap (R.time+1)))).setCell ⟨w.heap.size,3,none⟩ (.slice ca R.clock.length cp)).setCell ⟨w.heap.size,4,none⟩ (.slice ea R.effs.length ec)):=⟨_,rfl⟩
  change bodyPost _ _ _ Exit.ret _ (((((w3.setCell ⟨w.heap.size,0,none⟩ (I n)).setCell ⟨w.heap.size,1,none⟩ (I (IntKind.i64.wrap (z+1)))).setCell ⟨w.heap.size,2,none⟩ (I (IntKind.i64.wrap (R.time+1)))).setCell ⟨w.heap.size,3,none⟩ (.slice ca R.clock.length cp)).setCell ⟨w.heap.size,4,none⟩ (.slice ea R.effs.length ec));have HTF:Hid (Tch (fun k=>k=w.heap.size) w3 wF):=by rw [hwF];exact HT3.out
  have HBF:Hid (Blk wF w.heap.size #[I n,I (IntKind.i64.wrap (z+1)),I (IntKind.i64.wrap (R.time+1)), .slice ca R.clock.length cp, .slice ea R.effs.length ec] 134):=by
   have:=((((HAN3.out.set 0 (I n)).set 1 (I (IntKind.i64.wrap (z+1)))).set 2 (I (IntKind.i64.wrap (R.time+1)))).set 3 (.slice ca R.clock.length cp)).set 4 (.slice ea R.effs.length ec);rw [hwF];exact this
  rw [←hwF];clear hwF;rw [wrapI (z+1) (by omega) (by omega),wrapI (R.time+1) (by omega) (by omega)] at HBF;have q0:wF.cell? ⟨w.heap.size,0,none⟩=some (I n):=HBF.out.cell 0;have q1:wF.cell? ⟨w.heap.size,1,none⟩=some (I (z+1)):=HBF.out.cell 1;have q2:wF.cell? ⟨w.heap.size,2,none⟩=some (I (R.time+1)):=HBF.out.cell 2;have q3:wF.cell? ⟨w.heap.size,3,none⟩=some (.slice ca R.clock.length cp):=HBF.out.cell 3;have q4:wF.cell? ⟨w.heap.size,4,none⟩=some (.slice ea R.effs.length ec):=HBF.out.cell 4;have hsz:w.heap.size<wA.heap.size:=HAN.out.lt
  have hB:Below w.heap.size w wF:=by
   have h1:=HBA.out.trans (HB3.out.mono HBA.out.size);exact h1.trans (HTF.out.toBelow (Nat.le_of_lt (Nat.lt_of_lt_of_le hsz HB3.out.size)) (fun k hk e=>by have e2:k=w.heap.size:=e;omega))
  have hO:wF.ownsRow w.heap.size 3 1 (.slice ca R.clock.length cp) R.clock.length (R.clock.map I):=
   zns (zag HO3.out (fun g e=>HTF.out.block g (HO3.out.lt g e).2 (by have:=(HO3.out.lt g e).1;show¬_=_;omega))) (by omega)
  refine bodyPost_ret (v:=bmV ⟨pendB R,ca,ea,cp,ec,es⟩) (by rw [HPB.out];simp [results,Tryz.results70,go_sem,q0,q1,q2,q3,q4]) rfl ?_;exact⟨_,rfl,rfl,rfl,hB,zzd HRW.out hB hO⟩
