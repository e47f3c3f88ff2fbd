import Derived.Test.YtfmcngncaffloabGreatDoorJ24PoE
import Derived.Deep.RegionHeldLaw
import Derived.Conc.SmallLaws
set_option maxHeartbeats 1600000
namespace Go.Proofs.YtfmcngncaffloabGreatDoor
open Go.RowKit Go.Proofs.Tryz Wv
set_option maxRecDepth 100000
theorem zyi(w:World)(p j:Nat)(u:Value):Tch (fun k=>k=p) w (w.setCell ⟨p,j,none⟩ u):=(Tch.refl _ _).setCell ⟨p,j,none⟩ u (Or.inl rfl)
theorem zpi(own:Clr)(c pp ch:Nat)(pv:Value)(ms:List Ms)(i:Int)(w:World)(h:PoIn w own c pp ch pv ms)(hi:¬(0<=i∧i<ms.length)):
  Calls prog 56 #[.pointer (some ⟨pp,0,none⟩),I i] w fun e w'=>e= .returned (.tuple #[.agg #[.int .i64 0, .int .i64 0, .int .i64 0, .string ⟨#[]⟩],I 14])∧Below w.heap.size w w':=by
 obtain⟨wA,hwA⟩:∃wA,wA=w.alloc (.cells #[.int .i64 0, .int .i64 0, .int .i64 0, .string ⟨#[]⟩] 72):=⟨_,rfl⟩
 have HBA:Hid (Below w.heap.size w wA):=by rw [hwA];exact(Below.refl _ _).alloc (ac _) _
 have HX:Hid (Blk wA w.heap.size #[.int .i64 0, .int .i64 0, .int .i64 0, .string ⟨#[]⟩] 72):=by rw [hwA];exact heap_alloc_new w _
 have HP:Hid (PoIn wA own c pp ch pv ms):=h.keep (fun b hb _=>HBA.out.block b hb) (Ext.refl _ _);have hd:decide (0<=i∧i<(ms.length:Int))=false:=decide_eq_false hi;clear h hi;go_enter func56,ntmps56;go_wp2_with fail
 change Calls _ _ _ (w.alloc (.cells #[.int .i64 0, .int .i64 0, .int .i64 0, .string ⟨#[]⟩] 72)) _;rw [←hwA];clear hwA;refine(zdz own c pp ch _ ms i wA HP.out).mono ?_;rintro e w1 ⟨rfl,hw1⟩;subst hw1;rw [hd];have x0:w1.cell? ⟨w.heap.size,0,none⟩=some (.int .i64 0):=HX.out.cell 0;have x1:w1.cell? ⟨w.heap.size,1,none⟩=some (.int .i64 0):=HX.out.cell 1;have x2:w1.cell? ⟨w.heap.size,2,none⟩=some (.int .i64 0):=HX.out.cell 2;have x3:w1.cell? ⟨w.heap.size,3,none⟩=some (.string ⟨#[]⟩):=HX.out.cell 3;have z0:=HX.out.frozen 0;have z1:=HX.out.frozen 1;have z2:=HX.out.frozen 2;have z3:=HX.out.frozen 3;go_wp2_with fail
 obtain⟨w6,hw6⟩:∃w6,w6=(((w1.setCell ⟨w.heap.size,0,none⟩ (.int .i64 0)).setCell ⟨w.heap.size,1,none⟩ (.int .i64 0)).setCell ⟨w.heap.size,2,none⟩ (.int .i64 0)).setCell ⟨w.heap.size,3,none⟩ (.string ⟨#[]⟩):=⟨_,rfl⟩
 change bodyPost _ _ _ Exit.ret _ ((((w1.setCell ⟨w.heap.size,0,none⟩ (.int .i64 0)).setCell ⟨w.heap.size,1,none⟩ (.int .i64 0)).setCell ⟨w.heap.size,2,none⟩ (.int .i64 0)).setCell ⟨w.heap.size,3,none⟩ (.string ⟨#[]⟩));rw [←hw6];have HX6:Hid (Blk w6 w.heap.size #[.int .i64 0, .int .i64 0, .int .i64 0, .string ⟨#[]⟩] 72):=by rw [hw6];exact(((HX.out.set 0 _).set 1 _).set 2 _).set 3 _
 have HB6:Hid (Below w.heap.size w w6):=by rw [hw6];exact(((HBA.out.setCell (ac _) _).setCell (ac _) _).setCell (ac _) _).setCell (ac _) _
 clear hw6 x0 x1 x2 x3 z0 z1 z2 z3;have f0:w6.cell? ⟨w.heap.size,0,none⟩=some (.int .i64 0):=HX6.out.cell 0;have f1:w6.cell? ⟨w.heap.size,1,none⟩=some (.int .i64 0):=HX6.out.cell 1;have f2:w6.cell? ⟨w.heap.size,2,none⟩=some (.int .i64 0):=HX6.out.cell 2;have f3:w6.cell? ⟨w.heap.size,3,none⟩=some (.string ⟨#[]⟩):=HX6.out.cell 3;exact bodyPost_ret (v:= .tuple #[.agg #[.int .i64 0, .int .i64 0, .int .i64 0, .string ⟨#[]⟩],I 14]) (by simp [results,Tryz.results56,go_sem,f0,f1,f2,f3]) rfl ⟨rfl,HB6.out⟩
theorem zmc(own:Clr)(c pp ch:Nat)(pv:Value)(ms:List Ms)(i:Nat)(m:Ms)(w:World)(h:PoIn w own c pp ch pv ms)(hi:ms[i]?=some m):
  Calls prog 56 #[.pointer (some ⟨pp,0,none⟩),I i] w fun e w'=>e= .returned (.tuple #[.agg #[I m.k,I m.f,I m.t, .string ⟨m.bs.toArray⟩],I 0])∧PoOk w own c pp ch (ms.eraseIdx i) w':=by
 obtain⟨hk,rfl⟩:=af.1 hi;obtain⟨g,cp,rfl⟩:=zc6 h.row (by omega);have HPW:Hid (PoIn w own c pp ch (.slice (some ⟨g,0,none⟩) ms.length cp) ms):=h;obtain⟨wA,hwA⟩:∃wA,wA=w.alloc (.cells #[.int .i64 0, .int .i64 0, .int .i64 0, .string ⟨#[]⟩] 72):=⟨_,rfl⟩
 have HBA:Hid (Below w.heap.size w wA):=by rw [hwA];exact(Below.refl _ _).alloc (ac _) _
 have HX:Hid (Blk wA w.heap.size #[.int .i64 0, .int .i64 0, .int .i64 0, .string ⟨#[]⟩] 72):=by rw [hwA];exact heap_alloc_new w _
 have HP:Hid (PoIn wA own c pp ch (.slice (some ⟨g,0,none⟩) ms.length cp) ms):=h.keep (fun b hb _=>HBA.out.block b hb) (Ext.refl _ _);have c1:wA.cell? ⟨pp,1,none⟩=some (.slice (some ⟨g,0,none⟩) ms.length cp):=HP.out.blk.cell 1;obtain⟨e0,e1,e2,e3,e4⟩:=zf4 HP.out.row i hk;have hd:decide (0<=(i:Int)∧(i:Int)<(ms.length:Int))=true:=aT ⟨by omega,by omega⟩;have hki:(i:Int)<ms.length:=by omega
 have HML:Hid (ms.length<=40):=h.most;clear h hi;generalize ms[i]=m at *
 refine ze8 func56 rfl ?_;simp only [ntmps56,List.size_toArray,aJ,List.length_nil,Nat.reduceAdd,Nat.reduceSub,Array.replicate_succ,Array.replicate_zero,List.push_toArray,List.append_toArray,List.nil_append,aR];refine zcr (zdn ?_);go_wp2_with fail
 change wpN _ _ _ _ (w.alloc (.cells #[.int .i64 0, .int .i64 0, .int .i64 0, .string ⟨#[]⟩] 72));rw [←hwA];clear hwA;refine zcr (zdn ?_);go_wp2_with fail
 refine(zdz own c pp ch _ ms i wA HP.out).mono ?_;rintro e w1 ⟨rfl,hw1⟩;subst hw1;rw [hd];go_wp2_with fail
 refine zcr (zdn ?_);go_wp2_with fail
 obtain⟨w2,hw2⟩:∃w2,w2=w1.alloc (.cells (msC m) 160):=⟨_,rfl⟩
 change wpN _ _ _ _ (w1.alloc (.cells (msC m) 160));rw [←hw2];have HB2:Hid (Below w1.heap.size w1 w2):=by rw [hw2];exact(Below.refl _ _).alloc (ac _) _
 have HM2:Hid (Blk w2 w1.heap.size (msC m) 160):=by rw [hw2];exact heap_alloc_new w1 _
 have HP2:Hid (PoIn w2 own c pp ch (.slice (some ⟨g,0,none⟩) ms.length cp) ms):=HP.out.keep (fun b hb _=>HB2.out.block b hb) (Ext.refl _ _);have HX2:Hid (Blk w2 w.heap.size #[.int .i64 0, .int .i64 0, .int .i64 0, .string ⟨#[]⟩] 72):=HX.out.kept HB2.out HX.out.lt;have hs1:w.heap.size<w1.heap.size:=HX.out.lt;clear hw2 c1 e0 e1 e2 e3 e4 HP HX;have c1:w2.cell? ⟨pp,1,none⟩=some (.slice (some ⟨g,0,none⟩) ms.length cp):=HP2.out.blk.cell 1;have hwr:IntKind.i64.wrap ((i:Int)+1)=(i:Int)+1:=by have:=HML.out;rw [IntKind.wrap_i64];omega
 refine zcr (zdn ?_);go_wp2_with fail
 refine(zze g cp ms i w2 HP2.out.row hk HML.out).mono ?_;rintro e w3 ⟨rfl,hO3,hT3⟩
 have hgp:g ≠ pp:=by
  rintro rfl;rcases HP2.out.row.2 with⟨e,_⟩ | ⟨g',cap,cur,e,_,hg,_⟩
  ·cases e
  ·cases e
   have h9:=hg.symm.trans HP2.out.blk;simp at h9
 have hgc:g ≠ ch:=by
  rintro rfl;obtain⟨_,_,_,hc,_⟩:=HP2.out.chn;rcases HP2.out.row.2 with⟨e,_⟩ | ⟨g',cap,cur,e,_,hg,_⟩
  ·cases e
  ·cases e
   cases hg.symm.trans hc
 have hpc:pp ≠ ch:=by
  rintro rfl;obtain⟨_,_,_,hc,_⟩:=HP2.out.chn;cases HP2.out.blk.symm.trans hc
 have hgw:g<w.heap.size:=(HPW.out.row.lt g rfl).2;have hcw:ch<w.heap.size:=HPW.out.chlt;have hpw:pp<w.heap.size:=HPW.out.blk.lt;have HO3:Hid (w3.ownsRow 0 160 5 (.slice (some ⟨g,0,none⟩) (ms.eraseIdx i).length cp) (ms.eraseIdx i).length (flat Ms.cells (ms.eraseIdx i))):=hO3;have HT3:Hid (Tch (fun k=>k=g) w2 w3):=hT3;have HK3:Hid (Blk w3 pp #[.chan (some ch), .slice (some ⟨g,0,none⟩) ms.length cp] 157):=hT3.blk HP2.out.blk (by omega);have HM3:Hid (Blk w3 w1.heap.size (msC m) 160):=hT3.blk HM2.out (by omega);have HX3:Hid (Blk w3 w.heap.size #[.int .i64 0, .int .i64 0, .int .i64 0, .string ⟨#[]⟩] 72):=hT3.blk HX2.out (by omega);obtain⟨buf,sn,rn,hch0,hbuf⟩:=HP2.out.chn;have hch3:w3.heap[ch]?=some (.chan 40 buf false sn rn false):=(hT3.block ch HP2.out.chlt (by omega)).trans hch0;clear hO3 hT3 c1 hch0 HM2 HX2;have c1:w3.cell? ⟨pp,1,none⟩=some (.slice (some ⟨g,0,none⟩) ms.length cp):=HK3.out.cell 1;have z1:w3.frozen? ⟨pp,1,none⟩=false:=HK3.out.frozen 1;go_wp2_with fail
 obtain⟨w4,hw4⟩:∃w4,w4=w3.setCell ⟨pp,1,none⟩ (.slice (some ⟨g,0,none⟩) (ms.eraseIdx i).length cp):=⟨_,rfl⟩
 rw [←hw4];have hT4:Tch (fun k=>k=pp) w3 w4:=by rw [hw4];exact zyi w3 pp 1 _
 have HK4:Hid (Blk w4 pp #[.chan (some ch), .slice (some ⟨g,0,none⟩) (ms.eraseIdx i).length cp] 157):=by rw [hw4];exact HK3.out.set 1 _
 have HM4:Hid (Blk w4 w1.heap.size (msC m) 160):=hT4.blk HM3.out (by omega);have HX4:Hid (Blk w4 w.heap.size #[.int .i64 0, .int .i64 0, .int .i64 0, .string ⟨#[]⟩] 72):=hT4.blk HX3.out (by omega);have hch4:w4.heap[ch]?=some (.chan 40 buf false sn rn false):=(hT4.block ch (am.1 hch3).1 (by omega)).trans hch3;have HO4:Hid (w4.ownsRow 0 160 5 (.slice (some ⟨g,0,none⟩) (ms.eraseIdx i).length cp) (ms.eraseIdx i).length (flat Ms.cells (ms.eraseIdx i))):=zag HO3.out (fun k e=>hT4.block k (HO3.out.lt k e).2 (by cases e;exact hgp));have HT4:Hid (Tch (fun k=>k=g∨k=pp) w w4):=((Tch.below HBA.out).then (Tch.below (F:=fun k=>k=g∨k=pp) HB2.out)).trans (HT3.out.trans hT4 (fun _ _ h=>Or.inl h) (fun _ _ h=>Or.inr h)) (fun _ _ h=>h) (fun _ _ h=>h);clear hw4 hT4 HK3 HM3 HX3 HO3 HT3 hch3 c1 z1;have c0:w4.cell? ⟨pp,0,none⟩=some (.chan (some ch)):=HK4.out.cell 0;refine zcr (zgp ?_);change wpR _ _ _ [0,1,2,3,4] _ _;refine zcp (i:=0) rfl rfl (v:= .pointer (some ⟨pp,0,none⟩)) (w':=w4) (by simp [go_sem,execOp,Act.eval]) ?_;simp only [Act.put,List.getElem_toArray,List.getElem_cons_zero,List.setIfInBounds_toArray,List.set_cons_succ,List.set_cons_zero];refine zcp (i:=1) rfl rfl (v:= .pointer (some ⟨pp,0,none⟩)) (w':=w4) (by simp [go_sem,execOp,Act.eval]) ?_;simp only [Act.put,List.getElem_toArray,List.getElem_cons_zero,List.getElem_cons_succ,List.setIfInBounds_toArray,List.set_cons_succ,List.set_cons_zero];refine zcp (i:=2) rfl rfl (v:= .pointer (some ⟨pp,0,none⟩)) (w':=w4) (by simp [go_sem,execOp,Act.eval]) ?_;simp only [Act.put,List.getElem_toArray,List.getElem_cons_zero,List.getElem_cons_succ,List.setIfInBounds_toArray,List.set_cons_succ,List.set_cons_zero];refine zcp (i:=3) rfl rfl (v:= .chan (some ch)) (w':=w4) (by simp [go_sem,execOp,Act.eval,c0]) ?_;simp only [Act.put,List.getElem_toArray,List.getElem_cons_zero,List.getElem_cons_succ,List.setIfInBounds_toArray,List.set_cons_succ,List.set_cons_zero];refine zjp (i:=4) (cases:= #[Go.Conc.rcase ch (.agg #[])]) (blocking:=true) (shape:= .recv false) (w1:=w4) rfl rfl (by simp [go_sem,execOp,Go.Conc.rcase,Act.eval]) (fun fr cs es hs=>Go.Conc.step_lone_recv_buf false hs hch4 (by omega)) ?_;simp only [Act.put,List.getElem_toArray,List.getElem_cons_zero,List.getElem_cons_succ,List.setIfInBounds_toArray,List.set_cons_succ,List.set_cons_zero];refine zna (zdn ?_);obtain⟨w5,hw5⟩:∃w5,w5=w4.setChan ch 40 (buf.extract 1 buf.size) false sn (rn+1) false:=⟨_,rfl⟩
 change Code.wp _ _ _ _ (w4.setChan ch 40 (buf.extract 1 buf.size) false sn (rn+1) false);rw [←hw5];have hT5:Tch (fun k=>k=ch) w4 w5:=by rw [hw5];exact(Tch.refl _ _).setChan _ _ _ _ _ _ _ (Or.inl rfl)
 have HLE:Hid ((ms.eraseIdx i).length+1=ms.length):=by show _=_;rw [List.length_eraseIdx_of_lt hk];omega
 have HC5:Hid (∃buf s r,w5.heap[ch]?=some (.chan 40 buf false s r false)∧buf.size=(ms.eraseIdx i).length):=⟨_,_,_,by rw [hw5];exact Go.Conc.heap_setChan _ _ _ _ _ _ _ _ (am.1 hch4).1,by have:=HLE.out;simp;omega⟩
 have HK5:Hid (Blk w5 pp #[.chan (some ch), .slice (some ⟨g,0,none⟩) (ms.eraseIdx i).length cp] 157):=hT5.blk HK4.out (by omega);have HM5:Hid (Blk w5 w1.heap.size (msC m) 160):=hT5.blk HM4.out (by omega);have HX5:Hid (Blk w5 w.heap.size #[.int .i64 0, .int .i64 0, .int .i64 0, .string ⟨#[]⟩] 72):=hT5.blk HX4.out (by omega);have HO5:Hid (w5.ownsRow 0 160 5 (.slice (some ⟨g,0,none⟩) (ms.eraseIdx i).length cp) (ms.eraseIdx i).length (flat Ms.cells (ms.eraseIdx i))):=zag HO4.out (fun k e=>hT5.block k (HO4.out.lt k e).2 (by cases e;exact hgc))
 have HT5:Hid (TchC own c w w5):=HT4.out.trans hT5 (fun k _ h=>by
  rcases h with h | h
  ·rw [h];exact HPW.out.own3 g rfl
  ·rw [h];exact HPW.out.own1) (fun k _ h=>by rw [h];exact HPW.out.own2)
 clear hw5 hT5 HK4 HM4 HX4 HO4 HT4 hch4 c0 hbuf;generalize Conc.got false (buf.getD 0 undef) true=gv at *
 have m0:w5.cell? ⟨w1.heap.size,0,none⟩=some (I m.k):=HM5.out.cell 0;have m1:w5.cell? ⟨w1.heap.size,1,none⟩=some (I m.f):=HM5.out.cell 1;have m2:w5.cell? ⟨w1.heap.size,2,none⟩=some (I m.t):=HM5.out.cell 2;have m3:w5.cell? ⟨w1.heap.size,3,none⟩=some (.string ⟨m.bs.toArray⟩):=HM5.out.cell 3;have x0:w5.cell? ⟨w.heap.size,0,none⟩=some (.int .i64 0):=HX5.out.cell 0;have x1:w5.cell? ⟨w.heap.size,1,none⟩=some (.int .i64 0):=HX5.out.cell 1;have x2:w5.cell? ⟨w.heap.size,2,none⟩=some (.int .i64 0):=HX5.out.cell 2;have x3:w5.cell? ⟨w.heap.size,3,none⟩=some (.string ⟨#[]⟩):=HX5.out.cell 3;have z0:=HX5.out.frozen 0;have z1:=HX5.out.frozen 1;have z2:=HX5.out.frozen 2;have z3:=HX5.out.frozen 3;go_wp2_with fail
 obtain⟨w6,hw6⟩:∃w6,w6=(((w5.setCell ⟨w.heap.size,0,none⟩ (I m.k)).setCell ⟨w.heap.size,1,none⟩ (I m.f)).setCell ⟨w.heap.size,2,none⟩ (I m.t)).setCell ⟨w.heap.size,3,none⟩ (.string ⟨m.bs.toArray⟩):=⟨_,rfl⟩
 change bodyPost _ _ _ Exit.ret _ ((((w5.setCell ⟨w.heap.size,0,none⟩ (I m.k)).setCell ⟨w.heap.size,1,none⟩ (I m.f)).setCell ⟨w.heap.size,2,none⟩ (I m.t)).setCell ⟨w.heap.size,3,none⟩ (.string ⟨m.bs.toArray⟩));rw [←hw6];have hT6:Tch (fun k=>k=w.heap.size) w5 w6:=by rw [hw6];exact((((Tch.refl (fun k=>k=w.heap.size) w5).setCell ⟨w.heap.size,0,none⟩ _ (Or.inl rfl)).setCell ⟨w.heap.size,1,none⟩ _ (Or.inl rfl)).setCell ⟨w.heap.size,2,none⟩ _ (Or.inl rfl)).setCell ⟨w.heap.size,3,none⟩ _ (Or.inl rfl)
 have HX6:Hid (Blk w6 w.heap.size #[I m.k,I m.f,I m.t, .string ⟨m.bs.toArray⟩] 72):=by rw [hw6];exact(((HX5.out.set 0 _).set 1 _).set 2 _).set 3 _
 have HE:Hid (PoOk w own c pp ch (ms.eraseIdx i) w6):=by
  refine⟨newTo own w.heap.size 0, .slice (some ⟨g,0,none⟩) (ms.eraseIdx i).length cp,zab _ _ _,⟨hT6.blk HK5.out (by omega), ?_,zag HO5.out (fun k e=>hT6.block k (HO5.out.lt k e).2 (by cases e;show¬g=_;omega)),(zae _ _ _ _ hpw).trans HPW.out.own1,(zae _ _ _ _ hcw).trans HPW.out.own2,fun k e=> ?_, ?_⟩,HT5.out.trans hT6 (fun _ _ h=>h) (fun k hk e=>by have e:k=w.heap.size:=e;omega)⟩
  ·obtain⟨b,s,r,h1,h2⟩:=HC5.out
   exact⟨b,s,r,(hT6.block ch (am.1 h1).1 (by omega)).trans h1,h2⟩
  ·cases e
   exact(zae _ _ _ _ hgw).trans (HPW.out.own3 g rfl)
  ·have:=HLE.out;have:=HML.out;omega
 clear hw6 hT6 x0 x1 x2 x3 z0 z1 z2 z3;have f0:w6.cell? ⟨w.heap.size,0,none⟩=some (I m.k):=HX6.out.cell 0;have f1:w6.cell? ⟨w.heap.size,1,none⟩=some (I m.f):=HX6.out.cell 1;have f2:w6.cell? ⟨w.heap.size,2,none⟩=some (I m.t):=HX6.out.cell 2;have f3:w6.cell? ⟨w.heap.size,3,none⟩=some (.string ⟨m.bs.toArray⟩):=HX6.out.cell 3;exact bodyPost_ret (v:= .tuple #[.agg #[I m.k,I m.f,I m.t, .string ⟨m.bs.toArray⟩],I 0]) (by simp [results,Tryz.results56,go_sem,f0,f1,f2,f3]) rfl ⟨rfl,HE.out⟩
def zds(m:Ms)(at_ mask:Nat):Ms:={m with bs:=chg m.bs at_ (fun _=>UInt8.ofNat mask) 1,sp:=true}
theorem zvu(ms:List Ms)(k:Nat)(hk:k<ms.length)(s:List UInt8)(b:Bool):((flat Ms.cells ms).set (k*5+3) (.string ⟨s.toArray⟩)).set (k*5+4) (.bool b)=flat Ms.cells (ms.set k {ms[k] with bs:=s,sp:=b}):=by
 have hl:(flat Ms.cells ms).length=ms.length*5:=zan Ms.cells 5 za9 ms;apply List.ext_getElem?;intro j;rcases Nat.lt_or_ge j (ms.length*5) with hj | hj
 ·rw [zfx Ms.cells 5 za9 ms k _ j hj]
  simp only [List.getElem?_set,aE,hl];by_cases h3:j=k*5+3
  ·subst h3;simp [Ms.cells,hj]
  by_cases h4:j=k*5+4
  ·subst h4;simp [Ms.cells,hj]
  rw [ap (by omega),ap (by omega)];split
  ·rename_i hq
   have e:j=k*5+(j - k*5):=by omega
   rw [e,zao Ms.cells 5 za9 ms k hk _ (by omega)];have:j - k*5=0∨j - k*5=1∨j - k*5=2:=by omega
   rcases this with h | h | h<;>rw [h]<;>simp [Ms.cells]
  ·rfl
 ·rw [aF (by simp only [aE,hl];omega),aF (by rw [zan Ms.cells 5 za9,aE];omega)]
theorem zr8(own:Clr)(c pp ch:Nat)(pv:Value)(ms:List Ms)(i j k:Nat)(m:Ms)(w:World)(h:PoIn w own c pp ch pv ms)(hi:ms[i]?=some m)(hsp:m.sp=false)(hk0:1<=k)(hk1:k<=255)(hj:j<m.bs.length)(hl:m.bs.length<=100000):
  Calls prog 80 #[.pointer (some ⟨pp,0,none⟩),I i,I j,I k] w fun e w'=>e= .returned (I 0)∧PoOk w own c pp ch (ms.set i (zds m j k)) w':=by
 obtain⟨hk,rfl⟩:=af.1 hi;obtain⟨g,cp,rfl⟩:=zc6 h.row (by omega);have HP:Hid (PoIn w own c pp ch (.slice (some ⟨g,0,none⟩) ms.length cp) ms):=h;have c1:w.cell? ⟨pp,1,none⟩=some (.slice (some ⟨g,0,none⟩) ms.length cp):=h.blk.cell 1;obtain⟨e0,e1,e2,e3,e4⟩:=zf4 h.row i hk;have hd:decide (0<=(i:Int)∧(i:Int)<(ms.length:Int))=true:=aT ⟨by omega,by omega⟩;have hki:(i:Int)<ms.length:=by omega
 have HML:Hid (ms.length<=40):=h.most;have HSF:Hid (∀s b,((flat Ms.cells ms).set (i*5+3) (.string ⟨s.toArray⟩)).set (i*5+4) (.bool b)=flat Ms.cells (ms.set i {ms[i] with bs:=s,sp:=b})):=fun s b=>zvu ms i hk s b
 clear h hi;rw [hsp] at e4;generalize ms[i]=m at *
 go_enter func80,ntmps80;go_wp2_with fail
 refine(zdz own c pp ch _ ms i w HP.out).mono ?_;rintro e w1 ⟨rfl,hw1⟩;subst hw1;rw [hd];have hcv:(convert 9 191 (.string ⟨m.bs.toArray⟩)).run prog w1= .ok (.slice (some ⟨w1.heap.size,0,none⟩) m.bs.length (grownCap w1 m.bs.length 0 5)) (Lib.bytesWorld w1 5 ⟨m.bs.toArray⟩):=Lib.run_convert_string_bytes w1 _ _ _ _ underlying9 underlying191 underlying5;have TB2:Hid (Tb (Lib.bytesWorld w1 5 ⟨m.bs.toArray⟩) w1.heap.size m.bs):=Tb.begin w1 m.bs;have BB2:Below w1.heap.size w1 (Lib.bytesWorld w1 5 ⟨m.bs.toArray⟩):=zi8 w1 _ _;have HB2:Hid (Below w1.heap.size w1 (Lib.bytesWorld w1 5 ⟨m.bs.toArray⟩)):=BB2;clear BB2;have hji:(j:Int)<(m.bs.length:Int):=by omega
 have hjs:(j:Int)<((⟨m.bs.toArray⟩:ByteArray).size:Int):=by show(j:Int)<(m.bs.toArray.size:Int);simp;omega
 have hki0:¬(k:Int)<1:=by omega
 have hki1:¬(k:Int)>255:=by omega
 have t0:(Lib.bytesWorld w1 5 ⟨m.bs.toArray⟩).cell? ⟨w1.heap.size,j,none⟩=some (B8 m.bs[j]):=TB2.out.cell j hj;have z0:(Lib.bytesWorld w1 5 ⟨m.bs.toArray⟩).frozen? ⟨w1.heap.size,j,none⟩=false:=TB2.out.free j hj
 have HCG:Hid (chg m.bs j (fun _=>UInt8.ofNat k) 1=m.bs.set j (m.bs[j] ^^^ UInt8.ofNat k)):=by
  show _=_;simp [chg,hj]
 generalize m.bs[j]=cb at *
 have hwk:IntKind.u8.wrap (k:Int)=(k:Int):=by simp [IntKind.wrap,IntKind.bits,IntKind.signed];omega
 have hxor:=xor_b8 cb (k:Int) (by omega) (by omega);rw [aj] at hxor;obtain⟨nb,HNB⟩:∃nb,Hid (cb ^^^ UInt8.ofNat k=nb):=⟨_,rfl⟩
 rw [HNB.out] at hxor HCG;obtain⟨wB,hwB⟩:∃wB,wB=Lib.bytesWorld w1 5 ⟨m.bs.toArray⟩:=⟨_,rfl⟩
 rw [←hwB] at hcv t0 z0 TB2 HB2;obtain⟨wS,hwS⟩:∃wS,wS=wB.setCell ⟨w1.heap.size,j,none⟩ (B8 nb):=⟨_,rfl⟩
 have TB3:Hid (Tb wS w1.heap.size (m.bs.set j nb)):=by rw [hwS];exact TB2.out.set j _
 have HB3:Hid (Below w1.heap.size w1 wS):=by rw [hwS];exact HB2.out.setCell (ac _) _
 have HP3:Hid (PoIn wS own c pp ch (.slice (some ⟨g,0,none⟩) ms.length cp) ms):=HP.out.keep (fun b hb _=>HB3.out.block b hb) (Ext.refl _ _);clear hwB
 have hcs:(convert 191 9 (.slice (some ⟨w1.heap.size,0,none⟩) m.bs.length (grownCap w1 m.bs.length 0 5))).run prog (wB.setCell ⟨w1.heap.size,j,none⟩ (.int .u8 (nb.toNat:Int)))= .ok (.string ⟨(chg m.bs j (fun _=>UInt8.ofNat k) 1).toArray⟩) (wB.setCell ⟨w1.heap.size,j,none⟩ (.int .u8 (nb.toNat:Int))):=by
  have:=zg3 wS ⟨w1.heap.size,0,none⟩ (grownCap w1 m.bs.length 0 5) (m.bs.set j nb) (fun q u hq=>by
   rw [Addr.add_lit,aV];have hq':q<(m.bs.set j nb).length:=by simpa using (af.1 hq).1
   rw [TB3.out.cell q hq'];rw [List.getElem?_map,ag hq'] at hq
   simpa using hq)
  rw [aE,←HCG.out] at this;have e:wB.setCell ⟨w1.heap.size,j,none⟩ (.int .u8 (nb.toNat:Int))=wS:=hwS.symm;rw [e];exact this
 obtain⟨nl,HNL⟩:∃nl,Hid (chg m.bs j (fun _=>UInt8.ofNat k) 1=nl):=⟨_,rfl⟩
 rw [HNL.out] at hcs
 obtain⟨gcur,hGB⟩:∃cur,Blk wS g cur 160:=by
  rcases HP3.out.row.2 with⟨e,_⟩ | ⟨g',cap,cur,e,_,hg,_⟩
  ·cases e
  ·cases e;exact⟨cur,hg⟩
 obtain⟨s0,s1,s2,s3,s4⟩:=zf4 HP3.out.row i hk;have z3:wS.frozen? ⟨g,i*5+3,none⟩=false:=hGB.frozen _;have z4:wS.frozen? ⟨g,i*5+4,none⟩=false:=hGB.frozen _;rw [hwS] at s3 s4 z3 z4;clear hGB;go_wp2_with fail
 have HE:Hid (PoOk w1 own c pp ch (ms.set i (zds m j k)) ((wS.setCell ⟨g,i*5+3,none⟩ (.string ⟨nl.toArray⟩)).setCell ⟨g,i*5+4,none⟩ (.bool true))):=by
  have hgp:pp ≠ g:=by
   rintro rfl;rcases HP3.out.row.2 with⟨e,_⟩ | ⟨g',cap,cur,e,_,hg,_⟩
   ·cases e
   ·cases e
    have h9:=hg.symm.trans HP3.out.blk;simp at h9
  have hgc:ch ≠ g:=by
   rintro rfl;obtain⟨_,_,_,hc,_⟩:=HP3.out.chn;rcases HP3.out.row.2 with⟨e,_⟩ | ⟨g',cap,cur,e,_,hg,_⟩
   ·cases e
   ·cases e
    cases hg.symm.trans hc
  have hT:Tch (fun k=>k=g) wS ((wS.setCell ⟨g,i*5+3,none⟩ (.string ⟨nl.toArray⟩)).setCell ⟨g,i*5+4,none⟩ (.bool true)):=((Tch.refl (fun k=>k=g) wS).setCell ⟨g,i*5+3,none⟩ _ (Or.inl rfl)).setCell ⟨g,i*5+4,none⟩ _ (Or.inl rfl);have hlen:(ms.set i (zds m j k)).length=ms.length:=aE;refine⟨newTo own w1.heap.size 0, .slice (some ⟨g,0,none⟩) (ms.set i (zds m j k)).length cp,zab _ _ _,⟨?_, ?_, ?_,(zae _ _ _ _ HP.out.blk.lt).trans HP.out.own1,(zae _ _ _ _ HP.out.chlt).trans HP.out.own2,fun q e=> ?_,by rw [hlen];exact HP.out.most⟩,(Tch.below HB3.out).trans hT (fun _ _ h=>h) (fun q _ e=>by rw [e];exact HP.out.own3 g rfl)⟩
  ·rw [hlen];exact hT.blk HP3.out.blk hgp
  ·obtain⟨b,s,r,h1,h2⟩:=HP3.out.chn
   exact⟨b,s,r,(hT.block ch HP3.out.chlt hgc).trans h1,by rw [hlen];exact h2⟩
  ·have e:ms.set i (zds m j k)=ms.set i {m with bs:=nl,sp:=true}:=by
    unfold zds;rw [HNL.out]
   rw [hlen,e,←HSF.out];exact zc9 (zc9 HP3.out.row _ _) _ _
  ·cases e
   exact(zae _ _ _ _ (HP.out.row.lt g rfl).2).trans (HP.out.own3 g rfl)
 rw [hwS] at HE;go_ret;exact⟨rfl,HE.out⟩
theorem infoU:(prog.info? 162).map (·.bytes)=some 0:=by kernel_rfl
theorem mkchan(w:World):(Instr.makeChan 154 (.int .i64 40)).run prog w= .ok (.chan (some w.heap.size)) (w.alloc (.chan 40 #[] false 0 0 false)):=by
 obtain⟨i,hi,hb⟩:=Option.map_eq_some_iff.1 infoU;simpa using Go.Conc.run_makeChan (P:=prog) (w:=w) underlying154 hi .i64 40 (by omega) (by rw [hb];omega)
def PnewOk(w:World)(own:Clr)(c:Nat)(e:Ending)(w':World):Prop:=∃pp ch own',e= .returned (.pointer (some ⟨pp,0,none⟩))∧Below w.heap.size w w'∧Ext own own' w.heap.size∧PoIn w' own' c pp ch (.slice none 0 0) []
theorem zzb(own:Clr)(c:Nat)(w:World):
  Calls prog 53 #[] w fun e w'=>PnewOk w own c e w':=by
 have hmc:=fun W=>mkchan W
 go_enter func53,ntmps53;go_wp2;go_ret;refine⟨_,w.heap.size,newTo own w.heap.size c,rfl,((Below.refl _ _).alloc (ac _) _).alloc (by simp) _,zab _ _ _,⟨?_,⟨#[],0,0, ?_,rfl⟩,⟨rfl, .inl ⟨rfl,rfl⟩⟩,zaf _ _ _ _ (by simp),zaf _ _ _ _ (ac _),fun g e=>(by simp [Value.ownBlock] at e),by simp⟩⟩
 ·have:=heap_alloc_new (w.alloc (.chan 40 #[] false 0 0 false)) (.cells #[.chan (some w.heap.size), .slice none 0 0] 157)
  rw [World.size_alloc] at this;exact this
 ·rw [Below.heap_alloc _ _ _ (by simp)]
  exact(MapKept.heap_alloc w _).1
structure ClkAt(w:World)(p cg cc:Nat)(cl:List Int):Prop where
 cell:w.cell? ⟨p,2,none⟩=some (.slice (some ⟨cg,0,none⟩) cl.length cc)
 row:∀j (hj:j<cl.length),w.cell? ⟨cg,j,none⟩=some (I cl[j])
theorem ClkAt.kept{w w':World}{p cg cc:Nat}{cl:List Int}(h:ClkAt w p cg cc cl)(hb:Below w.heap.size w w'):ClkAt w' p cg cc cl:=⟨zaa hb h.cell,fun j hj=>zaa hb (h.row j hj)⟩
theorem ClkAt.tch{w w':World}{F:Nat->Prop}{p cg cc:Nat}{cl:List Int}(h:ClkAt w p cg cc cl)(hT:Tch F w w')(hp:¬F p)(hc:¬F cg):ClkAt w' p cg cc cl:=⟨hT.cell h.cell hp,fun j hj=>hT.cell (h.row j hj) hc⟩
theorem zkw(p cg cc:Nat)(cl:List Int)(x:Bm)(w:World)(h:ClkAt w p cg cc cl):
  Calls prog 127 #[.pointer (some ⟨p,0,none⟩),bmV x] w fun e w'=>e= .returned (.bool (decide (x.b.clock.length=cl.length)))∧Below w.heap.size w w':=by
 have HE:Hid (Below w.heap.size w (w.alloc (.cells (bmC x) 134))):=(Below.refl _ _).alloc (ac _) _;have c0:(w.alloc (.cells (bmC x) 134)).cell? ⟨p,2,none⟩=some (.slice (some ⟨cg,0,none⟩) cl.length cc):=zaa HE.out h.cell;unfold bmC at c0
 have HQ:Hid (decide (x.b.clock.length=cl.length)=((x.b.clock.length:Int)==(cl.length:Int))):=by
  show _=_;by_cases hq:x.b.clock.length=cl.length
  ·rw [hq];simp
  ·have:¬(x.b.clock.length:Int)=cl.length:=by omega
   simp [hq,this]
 clear h;go_enter func127,ntmps127;go_wp2_with fail
 go_quiet (fail)
 go_wp2;go_ret;exact⟨by rw [HQ.out];rfl,za7 HE.out nq⟩
def dueB(cl:List Int)(b:Bt):Bool:=decide (b.clock.length=cl.length) && ((List.range b.clock.length).all fun j=>decide (b.clock.getD j 0<=cl.getD j 0)) && decide (b.s=cl.getD b.o.toNat 0+1)
theorem due_no(cl:List Int)(b:Bt)(h:¬b.clock.length=cl.length):dueB cl b=false:=by simp [dueB,h]
theorem due_less(cl:List Int)(b:Bt)(k:Nat)(hk:k<b.clock.length)(h:¬b.clock.getD k 0<=cl.getD k 0):dueB cl b=false:=by
 unfold dueB
 have:((List.range b.clock.length).all fun j=>decide (b.clock.getD j 0<=cl.getD j 0))=false:=by
  rw [List.all_eq_false];exact⟨k,List.mem_range.2 hk,by simpa using h⟩
 rw [this];simp
theorem zn9(cl:List Int)(b:Bt)(h:b.clock.length=cl.length)(ha:∀j,j<b.clock.length->b.clock.getD j 0<=cl.getD j 0):dueB cl b=decide (b.s=cl.getD b.o.toNat 0+1):=by
 unfold dueB
 have:((List.range b.clock.length).all fun j=>decide (b.clock.getD j 0<=cl.getD j 0))=true:=by
  rw [List.all_eq_true];exact fun j hj=>by simpa using ha j (List.mem_range.1 hj)
 rw [this,h];simp
theorem zia(p cg cc:Nat)(cl:List Int)(x:Bm)(w:World)(h:ClkAt w p cg cc cl)(hx:At w x.ca (x.b.clock.map I))(h0:0<=x.b.o)(h1:x.b.o<x.b.clock.length)(hl:cl.length<=1000)(hc:∀j,cl.getD j 0<=1000000)(hc2:∀j, -1000000<=cl.getD j 0):
  Calls prog 95 #[.pointer (some ⟨p,0,none⟩),bmV x] w fun e w'=>e= .returned (.bool (dueB cl x.b))∧Below w.heap.size w w':=by
 obtain⟨wA,hwA⟩:∃wA,wA=w.alloc (.cells (bmC x) 134):=⟨_,rfl⟩
 have HBA:Hid (Below w.heap.size w wA):=by rw [hwA];exact(Below.refl _ _).alloc (ac _) _
 have HX:Hid (Blk wA w.heap.size (bmC x) 134):=by rw [hwA];exact heap_alloc_new w _
 have HC:Hid (ClkAt w p cg cc cl):=h;have HA:Hid (At w x.ca (x.b.clock.map I)):=hx;clear h hx;go_enter func95,ntmps95;go_wp2_with fail
 rw [show w.alloc (.cells #[I x.b.o,I x.b.s,I x.b.t, .slice x.ca x.b.clock.length x.cc, .slice x.ea x.b.effs.length x.ec] 134)=wA from hwA.symm];clear hwA;refine(zkw p cg cc cl x wA (HC.out.kept HBA.out)).mono ?_;rintro e w1 ⟨rfl,hb1⟩;have HB1:Hid (Below w.heap.size w w1):=HBA.out.trans (hb1.mono HBA.out.size);have HX1:Hid (Blk w1 w.heap.size (bmC x) 134):=HX.out.kept hb1 HX.out.lt;clear hb1 HBA HX;have x0:w1.cell? ⟨w.heap.size,0,none⟩=some (I x.b.o):=HX1.out.cell 0;have x1:w1.cell? ⟨w.heap.size,1,none⟩=some (I x.b.s):=HX1.out.cell 1;have x3:w1.cell? ⟨w.heap.size,3,none⟩=some (.slice x.ca x.b.clock.length x.cc):=HX1.out.cell 3;by_cases hq:x.b.clock.length=cl.length
 ·have HD:Hid ((∀j,j<x.b.clock.length->x.b.clock.getD j 0<=cl.getD j 0)->dueB cl x.b=decide (x.b.s=cl.getD x.b.o.toNat 0+1)):=fun h=>zn9 cl x.b hq h
  have HD2:Hid (∀k,k<x.b.clock.length->cl.getD k 0<x.b.clock.getD k 0->dueB cl x.b=false):=fun k hk h=>due_less cl x.b k hk (by omega)
  have hdec:decide (x.b.clock.length=cl.length)=true:=by simp [hq]
  rw [hdec];have HQ:Hid (x.b.clock.length=cl.length):=hq;clear hq hdec;go_wp2_with fail
  go_loopw [14] (fun v wr=>∃k:Nat,k<=x.b.clock.length∧v=I k∧Hid (∀j,j<k->x.b.clock.getD j 0<=cl.getD j 0)∧Hid (Below w.heap.size w wr)∧Hid (Blk wr w.heap.size (bmC x) 134)) (fun v _=>x.b.clock.length - (intOf v).toNat)
  case atStart=>exact⟨0,az _,rfl,fun j h=>absurd h (by omega),HB1,HX1⟩
  case round=>
   obtain⟨k,hk,rfl,HN,HB,HX⟩:=hrel;clear HB1 HX1 x0 x1 x3;have HCr:Hid (ClkAt wr p cg cc cl):=HC.out.kept HB.out;have c2:wr.cell? ⟨p,2,none⟩=some (.slice (some ⟨cg,0,none⟩) cl.length cc):=HCr.out.cell;by_cases hlt:k<x.b.clock.length
   ·obtain⟨cb,co,hca,_,hcell⟩:=zq7 (HA.out.kept HB.out) hlt
    have hqk:k<cl.length:=by rw [←HQ.out];exact hlt
    have d0:wr.cell? ⟨cg,k,none⟩=some (I (cl.getD k 0)):=by
     rw [HCr.out.row k hqk];simp [hqk]
    have HDk:Hid (cl.getD k 0<x.b.clock.getD k 0->dueB cl x.b=false):=HD2.out k hlt;have hki:(k:Int)<x.b.clock.length:=by omega
    have hkj:(k:Int)<cl.length:=by omega
    rw [hca];obtain⟨nk,HNK⟩:∃nk,Hid (x.b.clock.getD k 0=nk):=⟨_,rfl⟩
    obtain⟨dk,HDK⟩:∃dk,Hid (cl.getD k 0=dk):=⟨_,rfl⟩
    rw [HNK.out] at hcell HDk;rw [HDK.out] at d0 HDk;by_cases hgt:dk<nk
    ·have HF:Hid (dueB cl x.b=false):=HDk.out hgt
     clear HDk;go_wp2;go_ret;exact⟨by rw [HF.out];rfl,HB.out⟩
    ·clear HDk
     go_wp2_with fail
     go_roundw
     case rel=>
      refine⟨k+1,hlt,by go_num,fun j hj=> ?_,HB,HX⟩;by_cases hjk:j=k
      ·subst hjk;rw [HNK.out,HDK.out];omega
      ·exact HN.out j (by omega)
     case measure=>simp [intOf];omega
   ·have HV:Hid (dueB cl x.b=decide (x.b.s=cl.getD x.b.o.toNat 0+1)):=HD.out (fun j hj=>HN.out j (by omega))
    have x0:wr.cell? ⟨w.heap.size,0,none⟩=some (I x.b.o):=HX.out.cell 0;have x1:wr.cell? ⟨w.heap.size,1,none⟩=some (I x.b.s):=HX.out.cell 1;have hki:¬(k:Int)<x.b.clock.length:=by omega
    have hox:x.b.o.toNat<cl.length:=by rw [←HQ.out];omega
    have hoi:x.b.o<(cl.length:Int):=by rw [←HQ.out];exact h1
    have d0:wr.cell? ⟨cg,x.b.o.toNat,none⟩=some (I (cl.getD x.b.o.toNat 0)):=by
     rw [HCr.out.row _ hox];simp [hox]
    have hw1:IntKind.i64.wrap (cl.getD x.b.o.toNat 0+1)=cl.getD x.b.o.toNat 0+1:=by have:=hc x.b.o.toNat;have:=hc2 x.b.o.toNat;rw [IntKind.wrap_i64];omega
    obtain⟨dk,HDK⟩:∃dk,Hid (cl.getD x.b.o.toNat 0=dk):=⟨_,rfl⟩
    rw [HDK.out] at d0 hw1 HV;clear hc hc2 HD HD2 HN hlt h1;go_wp2_with fail
    go_quiet (fail)
    go_wp2;go_ret;exact⟨by rw [HV.out];rfl,za7 HB.out nq⟩
 ·have HD:Hid (dueB cl x.b=false):=due_no cl x.b hq
  have hdec:decide (x.b.clock.length=cl.length)=false:=by simp [hq]
  rw [hdec];clear hq hdec;go_wp2;go_ret;exact⟨by rw [HD.out];rfl,HB1.out⟩
theorem zmf{α:Type}(bs:List α)(i j:Nat)(m:α)(h:m∈swapP bs i j):m∈bs:=by
 unfold swapP at h;split at h
 ·rename_i x y hx hy
  rcases List.mem_or_eq_of_mem_set h with h | h
  ·rcases List.mem_or_eq_of_mem_set h with h | h
   ·exact h
   ·rw [h];exact an hy
  ·rw [h];exact an hx
 ·exact h
theorem zwg{α:Type}(less:α->α->Bool)(bs:List α)(i:Nat)(m:α)(h:m∈sinkP less bs i):m∈bs:=by
 induction hn:bs.length - i using Nat.strongRecOn generalizing bs i with
 | _ n ih=>
  rw [sinkP] at h;split at h
  ·rename_i hq
   have h1:=zes less bs i;have h2:=zeq less bs i hq.2;have h3:=hq.1;exact zmf bs i _ m (ih (bs.length - za5 less bs i) (by omega) (swapP bs i (za5 less bs i)) (za5 less bs i) h (by rw [zbk]))
  ·exact h
theorem zkd{α:Type}(less:α->α->Bool)(bs:List α)(m:α)(h:m∈(popR less bs).1.toList++(popR less bs).2):m∈bs:=by
 unfold popR at h;cases bs with
 | nil=>simp [popP] at h
 | cons x l=>
  simp only [popP,Option.toList_some,List.singleton_append,ar] at h;rcases h with rfl | h
  ·simp
  ·have h:=zwg less _ _ m h
   have h:=List.mem_of_mem_take h;rcases List.mem_or_eq_of_mem_set h with h | h
   ·exact h
   ·rw [h];exact aU _
theorem zmj(hp:Nat)(v:Value)(bs:List Bm)(p cg cc:Nat)(cl:List Int)(w:World)(h:HpIn w hp v bs)(hl:bs.length<=1000)(hb:ClkAt w p cg cc cl)(hg1:p ≠ hp∧¬v.ownBlock=some p)(hg2:cg ≠ hp∧¬v.ownBlock=some cg)(hcl:cl.length<=1000)(hc1:∀j,cl.getD j 0<=1000000)(hc2:∀j, -1000000<=cl.getD j 0)(hA:∀w',Tch (fun k=>k=hp∨v.ownBlock=some k) w w'->∀x∈bs,At w' x.ca (x.b.clock.map I)∧0<=x.b.o∧x.b.o<x.b.clock.length):
  Calls prog 99 #[.pointer (some ⟨hp,0,none⟩), .func (.func 95) #[.pointer (some ⟨p,0,none⟩)] #[]] w fun e w'=>TakeHp w hp v (takeP lessM (fun m=>dueB cl m.b) bs) e w':=by
 have HP:Hid (HpIn w hp v bs):=h;have HG:Hid (ClkAt w p cg cc cl):=hb;have HAA:Hid (∀w',Tch (fun k=>k=hp∨v.ownBlock=some k) w w'->∀x∈bs,At w' x.ca (x.b.clock.map I)∧0<=x.b.o∧x.b.o<x.b.clock.length):=hA;clear h hb hA;go_enter func99,ntmps99;go_wp2_with fail
 obtain⟨w0,hw0⟩:∃w0,w0=w.alloc (.cells zB 134):=⟨_,rfl⟩
 have HB0:Hid (Below w.heap.size w w0):=by rw [hw0];exact(Below.refl _ _).alloc (ac _) _
 have HR0:Hid (Blk w0 w.heap.size zB 134):=by rw [hw0];exact heap_alloc_new w _
 rw [show w.alloc (.cells #[.int .i64 0, .int .i64 0, .int .i64 0, .slice none 0 0, .slice none 0 0] 134)=w0 from hw0.symm];clear hw0;refine(zn0 hp v bs w0 (HP.out.kept HB0.out) (by omega)).mono ?_;rintro e w1 ⟨rfl,v1,hp1,hT1,hv1⟩;have HVB:Hid (∀k,v.ownBlock=some k->k<w.heap.size):=fun k hk=>(HP.out.row.lt k hk).2
 have hpw:hp<w.heap.size:=HP.out.blk.lt;have hs1:w.heap.size<w1.heap.size:=by have:=hT1.size;have:=HR0.out.lt;omega
 have HTF:Hid (takeP lessM (fun m=>dueB cl m.b) bs=finP lessM (fun m=>dueB cl m.b) bs.length (popR lessM bs).1 (popR lessM bs).2 []):=zow _ _ _;have HM0:Hid (∀m,m∈(popR lessM bs).1.toList++(popR lessM bs).2->m∈bs):=fun m h=>zkd _ _ m h
 have HLE:Hid ((popR lessM bs).2.length+(popR lessM bs).1.toList.length<=bs.length):=zfn _ _;go_wp2_with fail
 generalize (popR lessM bs).2=l0 at *
 generalize (popR lessM bs).1=r0 at *
 have HK:Hid (Tk1 w (w1.alloc (.cells (bmC (r0.getD bmZ)) 134)) hp v v1 w1.heap.size (.slice none 0 0) (r0.getD bmZ) l0 []):=by
  have hTw:Tch (fun k=>k=hp∨v.ownBlock=some k) w w1:=(Tch.below HB0.out).trans hT1 (fun _ _ h=>h) (fun _ _ h=>h);refine⟨hp1.kept ((Below.refl _ _).alloc (ac _) _),fun b e=>Or.inl (by rw [←hv1];exact e),⟨?_, ?_,fun b e=>by simp [Value.ownBlock] at e⟩,⟨rfl, .inl ⟨rfl,rfl⟩⟩,heap_alloc_new w1 _, ?_,hTw.alloc _,⟨by simp [Value.ownBlock],by simp [Value.ownBlock]⟩,hs1,hpw⟩
  ·intro e;rw [hv1] at e;have:=HVB.out _ e;omega
  ·intro e;rw [hv1] at e;have:=HVB.out _ e;omega
  ·exact(hT1.blk HR0.out (by rintro(h | h);omega;have:=HVB.out _ h;omega)).alloc _
 clear hp1 hT1 hv1 HB0 HR0 HP;obtain⟨wS,hwS⟩:∃wS,wS=w1.alloc (.cells (bmC (r0.getD bmZ)) 134):=⟨_,rfl⟩
 obtain⟨ib,hib⟩:∃ib,ib=w1.heap.size:=⟨_,rfl⟩
 change Code.wp _ _ _ _ (w1.alloc (.cells (bmC (r0.getD bmZ)) 134));rw [←hwS,←hib] at HK;rw [←hwS,←hib];clear hwS hib hs1;go_loopw [6,8] (fun v6 v8 wr=>∃(n:Nat) (r:Option Bm) (l os:List Bm) (oa:Option Addr) (oc:Nat) (v':Value),v6= .slice oa os.length oc∧v8= .bool r.isSome∧os.length+n=bs.length∧l.length+r.toList.length<=n∧Hid (∀m,m∈r.toList++l->m∈bs)∧Hid (takeP lessM (fun m=>dueB cl m.b) bs=finP lessM (fun m=>dueB cl m.b) n r l os)∧Hid (Tk1 w wr hp v v' ib (.slice oa os.length oc) (r.getD bmZ) l os)) (fun v6 _ _=>match v6 with | .slice _ k _=>bs.length+1 - k | _=>0)
 case atStart=>exact⟨bs.length,r0,l0, [],none,0,v1,rfl,rfl,by simp,HLE.out,HM0,HTF,HK⟩
 case round=>
  obtain⟨n,r,l,os,oa,oc,v',rfl,rfl,hn,hln,HMEM,HF,HKr⟩:=hrel;clear HK HTF HLE HM0;cases r with
  | none=>
   have HKT:=HKr;have HFT:Hid (takeP lessM (fun m=>dueB cl m.b) bs=backP lessM (none,l,os)):=HF.out;clear HKr HF;go_wp2_with fail
   go_loopw [34] (fun v34 wX=>∃(k:Nat) (v2:Value),k<=os.length∧v34=I k∧Hid (Tk1 w wX hp v v2 ib (.slice oa os.length oc) bmZ ((os.take k).foldl (pushP lessM) l) os)) (fun v34 _=>os.length - (intOf v34).toNat)
   case atStart=>exact⟨0,v',az _,rfl,HKT⟩
   case round=>
    obtain⟨k,v2,hk,rfl,HKq⟩:=hrel;clear HKT;by_cases hlt:k<os.length
    ·obtain⟨go,rfl⟩:∃go,oa=some ⟨go,0,none⟩:=by
      rcases HKq.out.row.2 with⟨_,hz⟩ | ⟨g,cap,cur,e,_⟩
      ·omega
      ·cases e;exact⟨g,rfl⟩
     obtain⟨e0,e1,e2,e3,e4⟩:=zhw HKq.out.row k hlt
     have HNX:Hid ((os.take (k+1)).foldl (pushP lessM) l=pushP lessM ((os.take k).foldl (pushP lessM) l) os[k]):=by
      show _=_;rw [aC hlt,List.foldl_append];rfl
     have HLN:Hid (((os.take k).foldl (pushP lessM) l).length<=1000000):=by
      show _<=_;rw [zc7,al];omega
     have hki:(k:Int)<os.length:=by omega
     generalize os[k]=z at *
     go_wp2_with fail
     have HKa:Hid (Tk1 w (wr.alloc (.cells (bmC z) 134)) hp v v2 ib (.slice (some ⟨go,0,none⟩) os.length oc) bmZ ((os.take k).foldl (pushP lessM) l) os):=HKq.out.kept ((Below.refl _ _).alloc (ac _) _);refine(zeu hp v2 ((os.take k).foldl (pushP lessM) l) z (wr.alloc (.cells (bmC z) 134)) HKa.out.hpx HLN.out).mono ?_;rintro e w5 ⟨rfl,v3,hp3,hT3,hv3⟩
     have HK5:Hid (Tk1 w w5 hp v v3 ib (.slice (some ⟨go,0,none⟩) os.length oc) bmZ ((os.take (k+1)).foldl (pushP lessM) l) os):=by
      show Tk1 _ _ _ _ _ _ _ _ _ _;rw [HNX.out];exact HKa.out.step hp3 hT3 hv3
     clear hp3 hT3 hv3 HKa HKq e0 e1 e2 e3 e4 HNX;go_wp2_with fail
     go_roundw
     case rel=>exact⟨k+1,v3,hlt,by go_num,HK5⟩
     case measure=>simp [intOf];omega
    ·have HT9:Hid (Tk1 w wr hp v v2 ib (.slice oa os.length oc) bmZ (os.foldl (pushP lessM) l) os):=by
      have:=HKq.out;rw [aM (by omega)] at this;exact this
     have hki:¬(k:Int)<os.length:=by omega
     clear HKq;have x0:wr.cell? ⟨ib,0,none⟩=some (I (bmZ).b.o):=HT9.out.item.cell 0;have x1:wr.cell? ⟨ib,1,none⟩=some (I (bmZ).b.s):=HT9.out.item.cell 1;have x2:wr.cell? ⟨ib,2,none⟩=some (I (bmZ).b.t):=HT9.out.item.cell 2;have x3:wr.cell? ⟨ib,3,none⟩=some (.slice (bmZ).ca (bmZ).b.clock.length (bmZ).cc):=HT9.out.item.cell 3;have x4:wr.cell? ⟨ib,4,none⟩=some (.slice (bmZ).ea (bmZ).b.effs.length (bmZ).ec):=HT9.out.item.cell 4;have r0:wr.cell? ⟨w.heap.size,0,none⟩=some (.int .i64 0):=HT9.out.ans.cell 0;have r1:wr.cell? ⟨w.heap.size,1,none⟩=some (.int .i64 0):=HT9.out.ans.cell 1;have r2:wr.cell? ⟨w.heap.size,2,none⟩=some (.int .i64 0):=HT9.out.ans.cell 2;have r3:wr.cell? ⟨w.heap.size,3,none⟩=some (.slice none 0 0):=HT9.out.ans.cell 3;have r4:wr.cell? ⟨w.heap.size,4,none⟩=some (.slice none 0 0):=HT9.out.ans.cell 4;have z0:=HT9.out.ans.frozen 0;have z1:=HT9.out.ans.frozen 1;have z2:=HT9.out.ans.frozen 2;have z3:=HT9.out.ans.frozen 3;have z4:=HT9.out.ans.frozen 4;go_wp2_with fail
     obtain⟨wF,hwF⟩:∃wF,wF=put5b wr w.heap.size 0 bmZ:=⟨_,rfl⟩
     have HOK:Hid (HpOk w hp v (os.foldl (pushP lessM) l) wF):=(HT9.out.done hwF).1;have HBF:Hid (Blk wF w.heap.size (bmC bmZ) 134):=(HT9.out.done hwF).2;change bodyPost _ _ _ Exit.ret _ (put5b wr w.heap.size 0 bmZ);rw [←hwF];clear hwF HT9 x0 x1 x2 x3 x4 r0 r1 r2 r3 r4 z0 z1 z2 z3 z4;have f0:wF.cell? ⟨w.heap.size,0,none⟩=some (I (bmZ).b.o):=HBF.out.cell 0;have f1:wF.cell? ⟨w.heap.size,1,none⟩=some (I (bmZ).b.s):=HBF.out.cell 1;have f2:wF.cell? ⟨w.heap.size,2,none⟩=some (I (bmZ).b.t):=HBF.out.cell 2;have f3:wF.cell? ⟨w.heap.size,3,none⟩=some (.slice (bmZ).ca (bmZ).b.clock.length (bmZ).cc):=HBF.out.cell 3;have f4:wF.cell? ⟨w.heap.size,4,none⟩=some (.slice (bmZ).ea (bmZ).b.effs.length (bmZ).ec):=HBF.out.cell 4;refine bodyPost_ret (v:= .tuple #[bmV bmZ, .bool false]) (by simp [results,Tryz.results99,go_sem,f0,f1,f2,f3,f4]) rfl ?_;rw [HFT.out];exact⟨rfl,HOK.out⟩
  | some x=>
   have i0:wr.cell? ⟨ib,0,none⟩=some (I x.b.o):=HKr.out.item.cell 0;have i1:wr.cell? ⟨ib,1,none⟩=some (I x.b.s):=HKr.out.item.cell 1;have i2:wr.cell? ⟨ib,2,none⟩=some (I x.b.t):=HKr.out.item.cell 2;have i3:wr.cell? ⟨ib,3,none⟩=some (.slice x.ca x.b.clock.length x.cc):=HKr.out.item.cell 3;have i4:wr.cell? ⟨ib,4,none⟩=some (.slice x.ea x.b.effs.length x.ec):=HKr.out.item.cell 4;go_wp2_with fail
   have hax:=HAA.out wr HKr.out.tch x (HMEM.out x (by simp));refine(zia p cg cc cl x wr (HG.out.tch HKr.out.tch (by rintro(h | h);exact hg1.1 h;exact hg1.2 h) (by rintro(h | h);exact hg2.1 h;exact hg2.2 h)) hax.1 hax.2.1 hax.2.2 hcl hc1 hc2).mono ?_;rintro e w2 ⟨rfl,hb2⟩;have HK2:Hid (Tk1 w w2 hp v v' ib (.slice oa os.length oc) x l os):=HKr.out.kept hb2;have HF2:Hid (takeP lessM (fun m=>dueB cl m.b) bs=if dueB cl x.b then backP lessM (some x,l,os) else backP lessM (za1 lessM (fun m=>dueB cl m.b) n l (os++ [x]))):=HF.out;clear HKr HF hb2 i0 i1 i2 i3 i4;generalize dueB cl x.b=bl at *
   cases bl
   ·have HFN:Hid (takeP lessM (fun m=>dueB cl m.b) bs=backP lessM (za1 lessM (fun m=>dueB cl m.b) n l (os++ [x]))):=HF2.out
    clear HF2;have i0:w2.cell? ⟨ib,0,none⟩=some (I x.b.o):=HK2.out.item.cell 0;have i1:w2.cell? ⟨ib,1,none⟩=some (I x.b.s):=HK2.out.item.cell 1;have i2:w2.cell? ⟨ib,2,none⟩=some (I x.b.t):=HK2.out.item.cell 2;have i3:w2.cell? ⟨ib,3,none⟩=some (.slice x.ca x.b.clock.length x.cc):=HK2.out.item.cell 3;have i4:w2.cell? ⟨ib,4,none⟩=some (.slice x.ea x.b.effs.length x.ec):=HK2.out.item.cell 4;obtain⟨ii,HI⟩:∃i,Hid (prog.info? 134=some i∧i.zero=some (.agg #[.int .i64 0, .int .i64 0, .int .i64 0, .slice none 0 0, .slice none 0 0])∧i.size=5∧i.bytes=72):=by obtain⟨i,h⟩:=info_parts zsu;exact⟨i,h⟩
    have hone:∀u∈x.cells,u.oneCell'=true:=by have:=zty [x];simpa [flat] using this
    have HRW:Hid ((w2.alloc (.cells (bmC x) 134)).ownsRow w.heap.size 134 5 (.slice oa os.length oc) os.length (flat Bm.cells os)):=HK2.out.row.alloc _;have HLT:Hid (∀j u,(x.cells)[j]?=some u->(w2.alloc (.cells (bmC x) 134)).cell? ((⟨w2.heap.size,0,none⟩:Addr).add j)=some u):=zcf w2 x.cells _;have hsz2:w.heap.size<=(w2.alloc (.cells (bmC x) 134)).heap.size:=by have:=HK2.out.tch.size;simp;omega
    have HSZ2:Hid (w.heap.size<=(w2.alloc (.cells (bmC x) 134)).heap.size):=hsz2;clear hsz2;have n1:os.length+1<=maxLen:=by unfold maxLen;omega
    have n2:(os.length+1)*72<=140737488355328:=by omega
    go_wp2_with (first | (at_builtin;refine wpList_append_own_at _ rfl _ _ _ rfl w.heap.size 134 ii (.agg #[.int .i64 0, .int .i64 0, .int .i64 0, .slice none 0 0, .slice none 0 0]) 5 72 underlying147 HI.out.1 HI.out.2.1 HI.out.2.2.1 HI.out.2.2.2 rfl (by decide) (.slice oa os.length oc) os.length (flat Bm.cells os) rfl HRW.out ⟨w2.heap.size,0,none⟩ 1 1 x.cells rfl rfl HLT.out hone n1 n2 HSZ2.out ?_;intro ov3 w3 hown3 hgrow3 hnil3 hat3))
    have hln':l.length+1<=n:=by simpa using hln
    obtain⟨n',rfl⟩:∃n',n=n'+1:=⟨n - 1,by omega⟩
    have hsn:(os++ [x]).length=os.length+1:=by simp
    obtain⟨og,oc3,rfl⟩:∃g c,ov3= .slice (some ⟨g,0,none⟩) (os++ [x]).length c:=by
     rcases hown3.2 with⟨_,hz⟩ | ⟨g,cap,cur,e,_⟩
     ·omega
     ·exact⟨g,cap,by rw [hsn];exact e⟩
    have HK3:Hid (Tk1 w w3 hp v v' ib (.slice (some ⟨og,0,none⟩) (os++ [x]).length oc3) x l (os++ [x])):=by
     refine(HK2.out.kept ((Below.refl _ _).alloc (ac _) (.cells (bmC x) 134))).pass ?_ (Tch.grown hgrow3) (fun b e=> ?_)
     ·rw [hsn,zg0]
      rw [hsn] at hown3;exact hown3
     ·rcases hat3 with h | h
      ·rw [e] at h;exact Or.inl h.symm
      ·rw [e] at h;cases h;exact Or.inr (ac _)
    have HFP:Hid (takeP lessM (fun m=>dueB cl m.b) bs=finP lessM (fun m=>dueB cl m.b) n' (popR lessM l).1 (popR lessM l).2 (os++ [x])):=by
     show _=_;rw [HFN.out,zn5]
    have HMP:Hid (∀m,m∈(popR lessM l).1.toList++(popR lessM l).2->m∈bs):=fun m h=>HMEM.out m (List.mem_append_right _ (zkd _ _ m h))
    have HLP:Hid ((popR lessM l).2.length+(popR lessM l).1.toList.length<=l.length):=zfn _ _;clear hown3 hgrow3 hnil3 hat3 HK2 HFN HRW HLT HSZ2 i0 i1 i2 i3 i4 HI hone n1 n2;refine(zn0 hp v' l w3 HK3.out.hpx (by omega)).mono ?_;rintro e w4 ⟨rfl,v4,hp4,hT4,hv4⟩;have HK4:Hid (Tk1 w w4 hp v v4 ib (.slice (some ⟨og,0,none⟩) (os++ [x]).length oc3) x (popR lessM l).2 (os++ [x])):=HK3.out.step hp4 hT4 (fun b e=>Or.inl (by rw [←hv4];exact e));clear hp4 hT4 hv4 HK3;generalize (popR lessM l).2=l4 at *
    generalize (popR lessM l).1=r4 at *
    have i0:w4.cell? ⟨ib,0,none⟩=some (I x.b.o):=HK4.out.item.cell 0;have i1:w4.cell? ⟨ib,1,none⟩=some (I x.b.s):=HK4.out.item.cell 1;have i2:w4.cell? ⟨ib,2,none⟩=some (I x.b.t):=HK4.out.item.cell 2;have i3:w4.cell? ⟨ib,3,none⟩=some (.slice x.ca x.b.clock.length x.cc):=HK4.out.item.cell 3;have i4:w4.cell? ⟨ib,4,none⟩=some (.slice x.ea x.b.effs.length x.ec):=HK4.out.item.cell 4;have z0:=HK4.out.item.frozen 0;have z1:=HK4.out.item.frozen 1;have z2:=HK4.out.item.frozen 2;have z3:=HK4.out.item.frozen 3;have z4:=HK4.out.item.frozen 4;have HK5:Hid (Tk1 w (put5b w4 ib 0 (r4.getD bmZ)) hp v v4 ib (.slice (some ⟨og,0,none⟩) (os++ [x]).length oc3) (r4.getD bmZ) l4 (os++ [x])):=HK4.out.setItem rfl;clear HK4;go_wp2_with fail
    go_roundw
    case rel=>exact⟨n',r4,l4,os++ [x],some ⟨og,0,none⟩,oc3,v4,by rw [hsn],rfl,by omega,aQ HLP.out (by omega),HMP,HFP,HK5⟩
    case measure=>simp;omega
   ·have HKT:=HK2
    have HFT:Hid (takeP lessM (fun m=>dueB cl m.b) bs=backP lessM (some x,l,os)):=HF2.out;clear HK2 HF2;go_wp2_with fail
    go_loopw [34] (fun v34 wX=>∃(k:Nat) (v2:Value),k<=os.length∧v34=I k∧Hid (Tk1 w wX hp v v2 ib (.slice oa os.length oc) x ((os.take k).foldl (pushP lessM) l) os)) (fun v34 _=>os.length - (intOf v34).toNat)
    case atStart=>exact⟨0,v',az _,rfl,HKT⟩
    case round=>
     obtain⟨k,v2,hk,rfl,HKq⟩:=hrel;clear HKT;by_cases hlt:k<os.length
     ·obtain⟨go,rfl⟩:∃go,oa=some ⟨go,0,none⟩:=by
       rcases HKq.out.row.2 with⟨_,hz⟩ | ⟨g,cap,cur,e,_⟩
       ·omega
       ·cases e;exact⟨g,rfl⟩
      obtain⟨e0,e1,e2,e3,e4⟩:=zhw HKq.out.row k hlt
      have HNX:Hid ((os.take (k+1)).foldl (pushP lessM) l=pushP lessM ((os.take k).foldl (pushP lessM) l) os[k]):=by
       show _=_;rw [aC hlt,List.foldl_append];rfl
      have HLN:Hid (((os.take k).foldl (pushP lessM) l).length<=1000000):=by
       show _<=_;rw [zc7,al];omega
      have hki:(k:Int)<os.length:=by omega
      generalize os[k]=z at *
      go_wp2_with fail
      have HKa:Hid (Tk1 w (wr.alloc (.cells (bmC z) 134)) hp v v2 ib (.slice (some ⟨go,0,none⟩) os.length oc) x ((os.take k).foldl (pushP lessM) l) os):=HKq.out.kept ((Below.refl _ _).alloc (ac _) _);refine(zeu hp v2 ((os.take k).foldl (pushP lessM) l) z (wr.alloc (.cells (bmC z) 134)) HKa.out.hpx HLN.out).mono ?_;rintro e w5 ⟨rfl,v3,hp3,hT3,hv3⟩
      have HK5:Hid (Tk1 w w5 hp v v3 ib (.slice (some ⟨go,0,none⟩) os.length oc) x ((os.take (k+1)).foldl (pushP lessM) l) os):=by
       show Tk1 _ _ _ _ _ _ _ _ _ _;rw [HNX.out];exact HKa.out.step hp3 hT3 hv3
      clear hp3 hT3 hv3 HKa HKq e0 e1 e2 e3 e4 HNX;go_wp2_with fail
      go_roundw
      case rel=>exact⟨k+1,v3,hlt,by go_num,HK5⟩
      case measure=>simp [intOf];omega
     ·have HT9:Hid (Tk1 w wr hp v v2 ib (.slice oa os.length oc) x (os.foldl (pushP lessM) l) os):=by
       have:=HKq.out;rw [aM (by omega)] at this;exact this
      have hki:¬(k:Int)<os.length:=by omega
      clear HKq;have x0:wr.cell? ⟨ib,0,none⟩=some (I (x).b.o):=HT9.out.item.cell 0;have x1:wr.cell? ⟨ib,1,none⟩=some (I (x).b.s):=HT9.out.item.cell 1;have x2:wr.cell? ⟨ib,2,none⟩=some (I (x).b.t):=HT9.out.item.cell 2;have x3:wr.cell? ⟨ib,3,none⟩=some (.slice (x).ca (x).b.clock.length (x).cc):=HT9.out.item.cell 3;have x4:wr.cell? ⟨ib,4,none⟩=some (.slice (x).ea (x).b.effs.length (x).ec):=HT9.out.item.cell 4;have r0:wr.cell? ⟨w.heap.size,0,none⟩=some (.int .i64 0):=HT9.out.ans.cell 0;have r1:wr.cell? ⟨w.heap.size,1,none⟩=some (.int .i64 0):=HT9.out.ans.cell 1;have r2:wr.cell? ⟨w.heap.size,2,none⟩=some (.int .i64 0):=HT9.out.ans.cell 2;have r3:wr.cell? ⟨w.heap.size,3,none⟩=some (.slice none 0 0):=HT9.out.ans.cell 3;have r4:wr.cell? ⟨w.heap.size,4,none⟩=some (.slice none 0 0):=HT9.out.ans.cell 4;have z0:=HT9.out.ans.frozen 0;have z1:=HT9.out.ans.frozen 1;have z2:=HT9.out.ans.frozen 2;have z3:=HT9.out.ans.frozen 3;have z4:=HT9.out.ans.frozen 4;go_wp2_with fail
      obtain⟨wF,hwF⟩:∃wF,wF=put5b wr w.heap.size 0 x:=⟨_,rfl⟩
      have HOK:Hid (HpOk w hp v (os.foldl (pushP lessM) l) wF):=(HT9.out.done hwF).1;have HBF:Hid (Blk wF w.heap.size (bmC x) 134):=(HT9.out.done hwF).2;change bodyPost _ _ _ Exit.ret _ (put5b wr w.heap.size 0 x);rw [←hwF];clear hwF HT9 x0 x1 x2 x3 x4 r0 r1 r2 r3 r4 z0 z1 z2 z3 z4;have f0:wF.cell? ⟨w.heap.size,0,none⟩=some (I (x).b.o):=HBF.out.cell 0;have f1:wF.cell? ⟨w.heap.size,1,none⟩=some (I (x).b.s):=HBF.out.cell 1;have f2:wF.cell? ⟨w.heap.size,2,none⟩=some (I (x).b.t):=HBF.out.cell 2;have f3:wF.cell? ⟨w.heap.size,3,none⟩=some (.slice (x).ca (x).b.clock.length (x).cc):=HBF.out.cell 3;have f4:wF.cell? ⟨w.heap.size,4,none⟩=some (.slice (x).ea (x).b.effs.length (x).ec):=HBF.out.cell 4;refine bodyPost_ret (v:= .tuple #[bmV x, .bool true]) (by simp [results,Tryz.results99,go_sem,f0,f1,f2,f3,f4]) rfl ?_;rw [HFT.out];exact⟨rfl,HOK.out⟩
