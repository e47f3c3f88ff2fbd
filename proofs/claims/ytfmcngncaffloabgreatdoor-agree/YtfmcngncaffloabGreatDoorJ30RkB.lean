import Derived.Test.YtfmcngncaffloabGreatDoorJ29RpU
set_option maxHeartbeats 1600000
namespace Go.Proofs.YtfmcngncaffloabGreatDoor
open Go.RowKit Wv
set_option maxRecDepth 100000
theorem HeldAt.put{w w':World}{own:Clr}{c hp:Nat}{hv:Value}{hs l:List Bm}(h:HeldAt w own c hp hv hs)(hc:0<c)(ho:HpOk w hp hv l w')(hm:∀m∈l,BatIn w own m):∃hv',HeldAt w' (newTo own w.heap.size c) c hp hv' l∧TchC own c w w':=by
 obtain⟨hv',h1,hT,hv⟩:=ho;have hTc:TchC own c w w':=hT.mono (fun k _ hk=>by rcases hk with rfl | hk;exact h.own1;exact h.own2 k hk);refine⟨hv',⟨h1,(zae _ _ _ _ h.hpx.blk.lt).trans h.own1,fun g e=> ?_,fun m hx=>(hm m hx).keep (hTc.same (fun k e e2=>by omega)) (zab _ _ _)⟩,hTc⟩;rcases hv g e with e2 | e2
 ·exact(zae _ _ _ _ (h.hpx.row.lt g e2).2).trans (h.own2 g e2)
 ·exact zaf _ _ _ _ e2
theorem RpIn.put{w w':World}{own:Clr}{c p:Nat}{R:Rp}{cg cc hp:Nat}{mv hv ev:Value}{hs l:List Bm}{es:List Em}(h:RpIn w own c p R cg cc hp mv hv ev hs es)(ho:HpOk w hp hv l w')(hm:∀m∈l,BatIn w own m):∃hv',RpIn w' (newTo own w.heap.size (c+9)) c p {R with held:=l.map (·.b)} cg cc hp mv hv' ev l es∧TchC own (c+9) w w':=by
 obtain⟨hv',h1,hT⟩:=h.held.put (by omega) ho hm;have he:=zab own w.heap.size (c+9);have hS:∀d,d ≠ c+9->Same own d w w':=fun d hd=>hT.same (fun k e e2=>hd (e.symm.trans e2))
 exact⟨hv',⟨(hS c (by omega) p h.blk.lt h.own1).trans h.blk,(hS c (by omega) cg h.clk.lt h.own2).trans h.clk,(he p h.blk.lt).trans h.own1,(he cg h.clk.lt).trans h.own2,h.obs.keep (fun d a b=>hS d (by omega)) he,h1,rfl,h.effs.keep (hS 0 (by omega)) (hS _ (by omega)) he,h.effsE⟩,hT⟩
def zok(w:World)(own:Clr)(c p:Nat)(R:Rp)(cg cc hp:Nat)(mv ev:Value)(hs:List Bm)(es:List Em)(w':World):Prop:=∃own' hv',Ext own own' w.heap.size∧RpIn w' own' c p R cg cc hp mv hv' ev hs es∧TchR own c w w'
theorem zp3{w w5 w6:World}{own:Clr}{c p:Nat}{R:Rp}{cg cc hp:Nat}{mv hv ev:Value}{hs:List Bm}{es:List Em}{x:Bm}(h:RpIn w own c p R cg cc hp mv hv ev hs es)(hB:Below w.heap.size w w5)(hx:BatIn w own x)(ho:HpOk w5 hp hv (pushP lessM hs x) w6):zok w own c p {R with held:=(pushP lessM hs x).map (·.b)} cg cc hp mv ev (pushP lessM hs x) es w6:=by
 have h5:RpIn w5 (newTo own w.heap.size 0) c p R cg cc hp mv hv ev hs es:=h.keep (fun b hb _=>hB.block b hb) (fun _ _ _ b hb _=>hB.block b hb) (zab _ _ _)
 obtain⟨hv',hR,hT⟩:=h5.put ho (fun m hm=>by
  rcases zeo _ _ _ m hm with hm | hm
  ·exact h5.held.bats m hm
  ·rw [hm];exact hx.keep (fun b hb _=>hB.block b hb) (zab _ _ _))
 refine⟨_,hv',(zab own w.heap.size 0).trans (zab _ _ _) hB.size,hR,(Tch.below hB).trans hT (fun _ _ h=>h) (fun k hk e=> ?_)⟩;have e2:newTo own w.heap.size 0 k=c+9:=e;rw [zae _ _ _ _ hk] at e2;exact⟨by omega,by omega⟩
theorem zwy(own:Clr)(c p:Nat)(R:Rp)(cg cc hp:Nat)(mv hv ev:Value)(hs:List Bm)(es:List Em)(x:Bm)(w:World)(h:RpIn w own c p R cg cc hp mv hv ev hs es)(hf:hs.length<6)(han:(hs.any fun m=>likeB x.b m.b)=false)(hbx:BatIn w own x):
  Calls Tryz.prog 128 #[.pointer (some ⟨p,0,none⟩),bmV x] w fun e w'=>e= .returned (.tuple #[])∧zok w own c p {R with held:=(pushP lessM hs x).map (·.b)} cg cc hp mv ev (pushP lessM hs x) es w':=by
 obtain⟨wA,hwA⟩:∃wA,wA=w.alloc (.cells (bmC x) 134):=⟨_,rfl⟩
 have HBA:Hid (Below w.heap.size w wA):=by rw [hwA];exact(Below.refl _ _).alloc (ac _) _
 have HX:Hid (Blk wA w.heap.size (bmC x) 134):=by rw [hwA];exact heap_alloc_new w _
 have HR:Hid (RpIn wA own c p R cg cc hp mv hv ev hs es):=h.keep (fun b hb _=>HBA.out.block b hb) (fun d _ _ b hb _=>HBA.out.block b hb) (Ext.refl _ _);have HRW:Hid (RpIn w own c p R cg cc hp mv hv ev hs es):=h;have hfi:decide ((hs.length:Int)<6)=true:=aT (by omega);have hfl:hs.length<=1000000:=by omega
 have c7:wA.cell? ⟨p,7,none⟩=some (.pointer (some ⟨hp,0,none⟩)):=HR.out.blk.cell 7;have HXD:Hid (Blk wA.drew w.heap.size (bmC x) 134):=HX.out;have HAN:Hid ((hs.any fun m=>likeB x.b m.b)=false):=han;have HBX:Hid (BatIn w own x):=hbx;clear h hf han hbx;have d7:wA.drew.cell? ⟨p,7,none⟩=some (.pointer (some ⟨hp,0,none⟩)):=c7;have dy0:wA.drew.cell? ⟨w.heap.size,0,none⟩=some (I x.b.o):=HXD.out.cell 0;have dy1:wA.drew.cell? ⟨w.heap.size,1,none⟩=some (I x.b.s):=HXD.out.cell 1;have dy2:wA.drew.cell? ⟨w.heap.size,2,none⟩=some (I x.b.t):=HXD.out.cell 2;have dy3:wA.drew.cell? ⟨w.heap.size,3,none⟩=some (.slice x.ca x.b.clock.length x.cc):=HXD.out.cell 3;have dy4:wA.drew.cell? ⟨w.heap.size,4,none⟩=some (.slice x.ea x.b.effs.length x.ec):=HXD.out.cell 4;go_enter Tryz.func128,Tryz.ntmps128;go_wp2_with fail
 change Code.wp _ _ _ _ (w.alloc (.cells (bmC x) 134));rw [←hwA];clear hwA
 go_region_held_law (fun w'=>w'.cell? ⟨p,7,none⟩=some (.pointer (some ⟨hp,0,none⟩))∧w'.cell? ⟨w.heap.size,0,none⟩=some (I x.b.o)∧w'.cell? ⟨w.heap.size,1,none⟩=some (I x.b.s)∧w'.cell? ⟨w.heap.size,2,none⟩=some (I x.b.t)∧w'.cell? ⟨w.heap.size,3,none⟩=some (.slice x.ca x.b.clock.length x.cc)∧w'.cell? ⟨w.heap.size,4,none⟩=some (.slice x.ea x.b.effs.length x.ec)) (exact⟨by with_reducible assumption,by with_reducible assumption,by with_reducible assumption,by with_reducible assumption,by with_reducible assumption,by with_reducible assumption⟩)
  (first
  | (go_at_call 103;refine(zkp hp hv hs _ (HR.out.held.hpx.kept (Below.refl _ _).drew)).mono ?_;rintro e w3 ⟨rfl,hw3⟩;subst hw3)
  | (go_at_call 100;refine(zki x _).mono ?_;rintro e w4 ⟨rfl,hw4⟩;have HB4:Hid (Below wA.heap.size wA w4):=(by rw [hw4];exact((Below.refl _ _).drew).alloc (ac _) _);have HG4:Hid (Blk w4 wA.heap.size (bmC x) 134):=(by rw [hw4];exact heap_alloc_new wA.drew _);clear hw4;have HX4:Hid (Blk w4 w.heap.size (bmC x) 134):=HX.out.kept HB4.out HX.out.lt;have f7:w4.cell? ⟨p,7,none⟩=some (.pointer (some ⟨hp,0,none⟩)):=zaa HB4.out c7;have fy0:w4.cell? ⟨w.heap.size,0,none⟩=some (I x.b.o):=HX4.out.cell 0;have fy1:w4.cell? ⟨w.heap.size,1,none⟩=some (I x.b.s):=HX4.out.cell 1;have fy2:w4.cell? ⟨w.heap.size,2,none⟩=some (I x.b.t):=HX4.out.cell 2;have fy3:w4.cell? ⟨w.heap.size,3,none⟩=some (.slice x.ca x.b.clock.length x.cc):=HX4.out.cell 3;have fy4:w4.cell? ⟨w.heap.size,4,none⟩=some (.slice x.ea x.b.effs.length x.ec):=HX4.out.cell 4)
  | (go_at_call 166;refine(zp7 hp hv hs x wA.heap.size _ (HR.out.held.hpx.kept HB4.out) HG4.out (aQ hfl (by decide))).mono ?_;rintro e w5 ⟨rfl,hb5⟩;have HB5:Hid (Below wA.heap.size wA w5):=HB4.out.trans (hb5.mono HB4.out.size);clear hb5;have HX5:Hid (Blk w5 w.heap.size (bmC x) 134):=HX.out.kept HB5.out HX.out.lt;have g7:w5.cell? ⟨p,7,none⟩=some (.pointer (some ⟨hp,0,none⟩)):=zaa HB5.out c7;have gy0:w5.cell? ⟨w.heap.size,0,none⟩=some (I x.b.o):=HX5.out.cell 0;have gy1:w5.cell? ⟨w.heap.size,1,none⟩=some (I x.b.s):=HX5.out.cell 1;have gy2:w5.cell? ⟨w.heap.size,2,none⟩=some (I x.b.t):=HX5.out.cell 2;have gy3:w5.cell? ⟨w.heap.size,3,none⟩=some (.slice x.ca x.b.clock.length x.cc):=HX5.out.cell 3;have gy4:w5.cell? ⟨w.heap.size,4,none⟩=some (.slice x.ea x.b.effs.length x.ec):=HX5.out.cell 4;rw [HAN.out]))
 go_wp2_with fail
 have hBW:Below w.heap.size w w5:=HBA.out.trans (HB5.out.mono HBA.out.size);have HBW:Hid (Below w.heap.size w w5):=hBW;clear hBW
 go_region_law (first
  | (go_simp;go_at_call 138;refine(zeu hp hv hs x _ (by first | exact HR.out.held.hpx.kept HB5.out.drew | exact HR.out.held.hpx.kept HB5.out) hfl).mono ?_;rintro e w6 ⟨rfl,hO6⟩;have HE:Hid (zok w own c p {R with held:=(pushP lessM hs x).map (·.b)} cg cc hp mv ev (pushP lessM hs x) es w6):=(by first | exact zp3 HRW.out HBW.out.drew HBX.out hO6 | exact zp3 HRW.out HBW.out HBX.out hO6);clear hO6))
 all_goals
  (go_wp2
   go_end0
   exact⟨rfl,HE.out⟩)
theorem zal{b:Bt}(h:Wv.isB b=true):b.clock.length<=4∧0<=b.o∧b.o<b.clock.length∧1<=b.s∧b.s<=30∧1<=b.t∧b.t<=200∧b.effs.length<=5:=by
 simp only [Wv.isB,headOk,ak,aq] at h;obtain⟨⟨⟨⟨⟨⟨h1,h2⟩,h3⟩,h4⟩,h5⟩,_⟩,_⟩:=h;exact⟨h1.2,h2.1,by omega,h3.1,h3.2,h4.1,h4.2,h5.2⟩
theorem zhl{b:Bt}(h:Wv.isB b=true):∀e∈b.effs,0<=e.ob∧e.ob<8∧ -1000<=e.va∧e.va<=1000∧e.dots.length<=1048576:=by
 intro e he;obtain⟨k,hk,rfl⟩:=aI.1 he;simp only [Wv.isB,ak] at h;have h:=zga b b.effs.length k hk h.2;have e:b.effs.getD k ⟨0,0,0,⟨0,0,0⟩, []⟩=b.effs[k]:=by simp [hk]
 rw [e] at h;simp only [effOk,isOp,ak,aq] at h;obtain⟨⟨⟨⟨⟨_,h2⟩,h3⟩,_⟩,h5⟩,_⟩:=h;have a1: -1000<=rLeast b.effs[k].op:=by unfold rLeast;split<;>omega
 have a2:rGreat b.effs[k].op<=1000:=by unfold rGreat;repeat' split<;>omega
 have a3:rMostD b.effs[k].op<=150:=by unfold rMostD;repeat' split<;>omega
 exact⟨h2.1.1,by omega,by omega,by omega,by omega⟩
def sumN:List Int->Nat
 | []=>0
 | z::l=>z.toNat+sumN l
theorem zh0(n:Nat):∀l:List Int,(∀z∈l,0<=z∧z<=n)->sumN l<=n*l.length
 | [],_=>by simp [sumN]
 | z::l,h=>by
  have h1:=h z (by simp);have:=zh0 n l (fun y hy=>h y (by simp [hy]));simp only [sumN,aJ,Nat.mul_succ];omega
theorem zjw:∀(l:List Int) (k:Nat) (z:Int),k<l.length->0<=l.getD k 0->z=l.getD k 0+1->sumN (l.set k z)=sumN l+1
 | y::l,0,z,_,h0,hz=>by
  simp only [List.set_cons_zero,sumN];simp at h0 hz;omega
 | y::l,k+1,z,hk,h0,hz=>by
  simp only [List.set_cons_succ,sumN];have:=zjw l k z (by simpa using hk) (by simpa using h0) (by simpa using hz);omega
structure Rok(R:Rp):Prop where
 obs8:R.obs.length=8
 bd:∀o∈R.obs,o.bound (5*sumN R.clock)
 logl:R.log.length<=70000*sumN R.clock
 len:R.clock.length<=4
 clk:∀z∈R.clock,0<=z∧z<=30
 held:∀b∈R.held,Wv.isB b=true
 most:R.held.length<=6
 time0:0<=R.time
 time1:R.time<=200
theorem zbd{b:Bt}(hb:Wv.isB b=true):(frameB b).length<=70000:=by have:=frame_len b hb;omega
theorem Rok.sum{R:Rp}(h:Rok R):sumN R.clock<=120:=by
 have:=zh0 30 R.clock (fun z hz=>⟨(h.clk z hz).1,by have:=(h.clk z hz).2;omega⟩);have:=h.len;omega
theorem getD_of{l:List Int}{P:Int->Prop}(h:∀z∈l,P z)(h0:P 0)(k:Nat):P (l.getD k 0):=by
 by_cases hk:k<l.length
 ·have:l.getD k 0=l[k]:=by simp [hk]
  rw [this];exact h _ (aU _)
 ·have:l.getD k 0=0:=by simp [hk]
  rw [this];exact h0
theorem Rok.getD{R:Rp}(h:Rok R)(k:Nat):0<=R.clock.getD k 0∧R.clock.getD k 0<=30:=getD_of (P:=fun z=>0<=z∧z<=30) h.clk ⟨by omega,by omega⟩ k
theorem zra(b:Bt)(obs:List Ob)(N:Nat)(hbd:∀o∈obs,o.bound N)(hval:∀e∈b.effs,0<=e.ob∧e.ob<8∧ -1000<=e.va∧e.va<=1000∧e.dots.length<=1048576):∀k,k<=b.effs.length->∀o∈obsTo b obs k,o.bound (N+k):=by
 intro k;induction k with
 | zero=>intro _;exact hbd
 | succ k ih=>
  intro hk;have hq:b.effs[k]?=some b.effs[k]:=ag (by omega);rw [obsTo,hq];obtain⟨_,_,h1,h2,_⟩:=hval _ (aU (by omega:k<b.effs.length));exact zld _ _ (ih (by omega)) h1 h2
theorem zbf{cl:List Int}{b:Bt}(h:dueB cl b=true):b.clock.length=cl.length∧(∀j,j<b.clock.length->b.clock.getD j 0<=cl.getD j 0)∧b.s=cl.getD b.o.toNat 0+1:=by
 simp only [dueB,ak,aq,List.all_eq_true,List.mem_range] at h;exact⟨h.1.1,h.1.2,h.2⟩
theorem Rok.deliver{R:Rp}{b:Bt}{fr:List UInt8}{hs:List Bt}(h:Rok R)(hb:Wv.isB b=true)(hf:fr.length<=70000)(hd:dueB R.clock b=true)(hh:∀x∈hs,Wv.isB x=true)(hl:hs.length<=6):Rok (zam R b fr hs):=by
 obtain⟨p1,p2,p3,p4,p5,p6,p7,p8⟩:=zal hb;obtain⟨d1,_,d3⟩:=zbf hd;have hk:b.o.toNat<R.clock.length:=by omega
 have hs1:sumN (R.clock.set b.o.toNat b.s)=sumN R.clock+1:=zjw _ _ _ hk (h.getD _).1 d3;have h1:=h.logl;have h2:=h.time0;have h3:=h.time1;refine⟨(zmd _ _ _).trans h.obs8,fun o ho=> ?_, ?_,by show(R.clock.set _ _).length<=4;rw [aE];exact h.len,fun z hz=> ?_,hh,hl, ?_, ?_⟩
 ·show o.bound (5*sumN (R.clock.set b.o.toNat b.s))
  rw [hs1];exact Ob.bound_mono (zra b R.obs _ h.bd (zhl hb) _ (ac _) o ho) (by omega)
 ·show(R.log++fr).length<=70000*sumN (R.clock.set b.o.toNat b.s)
  rw [hs1,ah];omega
 ·rcases List.mem_or_eq_of_mem_set hz with hz | hz
  ·exact h.clk z hz
  ·omega
 ·show 0<=max R.time b.t;omega
 ·show max R.time b.t<=200;omega
theorem Rok.heldTo{R:Rp}{hs:List Bt}(h:Rok R)(hh:∀x∈hs,Wv.isB x=true)(hl:hs.length<=6):Rok {R with held:=hs}:=⟨h.obs8,h.bd,h.logl,h.len,h.clk,hh,hl,h.time0,h.time1⟩
theorem zpj{α:Type}(less:α->α->Bool)(f:α->Bool)(n:Nat):∀(l os:List α) (x:α),(za1 less f n l os).1=some x->f x=true:=by
 induction n with
 | zero=>intro l os x h;simp [za1] at h
 | succ n ih=>
  intro l os x h;rw [za1] at h;split at h
  ·simp at h
  ·split at h
   ·rename_i hq;simp only [Option.some.injEq] at h;rw [←h];exact hq
   ·exact ih _ _ x h
theorem zju{α:Type}{less:α->α->Bool}{f:α->Bool}{bs:List α}{x:α}(h:(takeP less f bs).1=some x):f x=true:=zpj less f _ _ _ x h
def zbx:Nat->Rp->List Bm->Rp×List Bm
 | 0,R,hs=>(R,hs)
 | n+1,R,hs=>match takeP lessM (fun m=>dueB R.clock m.b) hs with
  | (none,l)=>({R with held:=l.map (·.b)},l)
  | (some x,l)=>zbx n (zam R x.b (frameB x.b) ((takeP lessM (fun m=>likeB x.b m.b) l).2.map (·.b))) (takeP lessM (fun m=>likeB x.b m.b) l).2
theorem zhn{n:Nat}{R:Rp}{hs:List Bm}(h:(takeP lessM (fun m=>dueB R.clock m.b) hs).1=none):zbx (n+1) R hs=({R with held:=(takeP lessM (fun m=>dueB R.clock m.b) hs).2.map (·.b)},(takeP lessM (fun m=>dueB R.clock m.b) hs).2):=by
 rw [zbx];generalize takeP lessM (fun m=>dueB R.clock m.b) hs=q at *
 obtain⟨a,l⟩:=q;simp only at h;subst h;rfl
theorem zhm{n:Nat}{R:Rp}{hs:List Bm}{x:Bm}(h:(takeP lessM (fun m=>dueB R.clock m.b) hs).1=some x):zbx (n+1) R hs=zbx n (zam R x.b (frameB x.b) ((takeP lessM (fun m=>likeB x.b m.b) (takeP lessM (fun m=>dueB R.clock m.b) hs).2).2.map (·.b))) (takeP lessM (fun m=>likeB x.b m.b) (takeP lessM (fun m=>dueB R.clock m.b) hs).2).2:=by
 rw [zbx];generalize takeP lessM (fun m=>dueB R.clock m.b) hs=q at *
 obtain⟨a,l⟩:=q;simp only at h;subst h;rfl
section
variable {α β : Type} (g : α -> β) (less : α -> α -> Bool) (less' : β -> β -> Bool)
theorem zjr(hl:∀x y,less x y=less' (g x) (g y))(bs:List α)(l c:Nat):updP less' (bs.map g) l c=updP less bs l c:=by
 unfold updP;simp only [List.getElem?_map];cases bs[c]?<;>cases bs[l]?<;>simp [hl]
theorem zsn(hl:∀x y,less x y=less' (g x) (g y))(bs:List α)(i:Nat):za5 less' (bs.map g) i=za5 less bs i:=by
 unfold za5;rw [zjr g less less' hl,zjr g less less' hl]
theorem zl3(bs:List α)(i j:Nat):swapP (bs.map g) i j=(swapP bs i j).map g:=by
 unfold swapP;simp only [List.getElem?_map];cases bs[i]?<;>cases bs[j]?<;>simp [List.map_set]
theorem zvs(hl:∀x y,less x y=less' (g x) (g y))(bs:List α)(i:Nat):sinkP less' (bs.map g) i=(sinkP less bs i).map g:=by
 induction hn:bs.length - i using Nat.strongRecOn generalizing bs i with
 | _ n ih=>
  rw [sinkP.eq_def less' (bs.map g) i,sinkP.eq_def less bs i];rw [zsn g less less' hl,av];split
  ·rename_i hq
   have h1:=zes less bs i;have h2:=zeq less bs i hq.2;have h3:=hq.1;rw [zl3];exact ih (bs.length - za5 less bs i) (by omega) (swapP bs i (za5 less bs i)) (za5 less bs i) (by rw [zbk])
  ·rfl
theorem zv2(hl:∀x y,less x y=less' (g x) (g y))(bs:List α)(i:Nat):riseP less' (bs.map g) i=(riseP less bs i).map g:=by
 induction i using Nat.strongRecOn generalizing bs with
 | _ i ih=>
  rw [riseP.eq_def less' (bs.map g) i,riseP.eq_def less bs i,zjr g less less' hl];split
  ·rw [zl3]
   exact ih ((i - 1) / 2) (by omega) _
  ·rfl
theorem zma(hl:∀x y,less x y=less' (g x) (g y))(bs:List α)(x:α):pushP less' (bs.map g) (g x)=(pushP less bs x).map g:=by
 unfold pushP;rw [←zv2 g less less' hl];simp
theorem zph(hl:∀x y,less x y=less' (g x) (g y))(os:List α):∀l:List α,(os.map g).foldl (pushP less') (l.map g)=(os.foldl (pushP less) l).map g:=by
 induction os with
 | nil=>intro l;rfl
 | cons x os ih=>
  intro l;simp only [List.map_cons,List.foldl_cons];rw [zma g less less' hl,ih]
theorem zy9(hl:∀x y,less x y=less' (g x) (g y))(bs:List α):popP less' (bs.map g)=(popP less bs).map fun p=>(g p.1,p.2.map g):=by
 cases bs with
 | nil=>rfl
 | cons x l=>
  simp only [popP,List.map_cons,Option.map_some,Option.some.injEq,Prod.mk.injEq,true_and];rw [←zvs g less less' hl];have e:∀(n:Nat) (h1:n<(g x::l.map g).length) (h2:n<(x::l).length),(g x::l.map g)[n]=g ((x::l)[n]):=by intro n h1 h2;cases n<;>simp
  have e2:=e (l.map g).length (by simp) (by simp);rw [e2];simp [List.map_take]
theorem zsa(hl:∀x y,less x y=less' (g x) (g y))(f:α->Bool)(f':β->Bool)(hf:∀x,f x=f' (g x))(n:Nat):∀bs os:List α,za1 less' f' n (bs.map g) (os.map g)=((za1 less f n bs os).1.map g,(za1 less f n bs os).2.1.map g,(za1 less f n bs os).2.2.map g):=by
 induction n with
 | zero=>intro bs os;rfl
 | succ n ih=>
  intro bs os;rw [za1,za1,zy9 g less less' hl];cases popP less bs with
  | none=>rfl
  | some p=>
   obtain⟨x,l⟩:=p;simp only [Option.map_some];rw [←hf];split
   ·rfl
   ·rw [←ih l (os++ [x])]
    simp
theorem zvl(hl:∀x y,less x y=less' (g x) (g y))(f:α->Bool)(f':β->Bool)(hf:∀x,f x=f' (g x))(bs:List α):takeP less' f' (bs.map g)=((takeP less f bs).1.map g,(takeP less f bs).2.map g):=by
 unfold takeP;have h:=zsa g less less' hl f f' hf (bs.length+1) bs [];simp only [List.map_nil] at h;simp only [av];rw [h];simp only [Prod.mk.injEq,true_and];exact zph g less less' hl _ _
end
theorem zf0(f:Bt->Bool)(hs:List Bm):takeP zah f (hs.map (·.b))=((takeP lessM (fun m=>f m.b) hs).1.map (·.b),(takeP lessM (fun m=>f m.b) hs).2.map (·.b)):=
 zvl (·.b) lessM zah (fun _ _=>rfl) _ f (fun _=>rfl) hs
theorem zv7(hs:List Bm)(x:Bm):pushP zah (hs.map (·.b)) x.b=(pushP lessM hs x).map (·.b):=zma (·.b) lessM zah (fun _ _=>rfl) hs x
def heldR:Nat->Rp->Rp
 | 0,R=>R
 | n+1,R=>match takeP zah (dueB R.clock) R.held with
  | (none,l)=>{R with held:=l}
  | (some x,l)=>heldR n (zam R x (frameB x) (takeP zah (likeB x) l).2)
theorem zw1(n:Nat):∀(R:Rp) (hs:List Bm),R.held=hs.map (·.b)->(zbx n R hs).1=heldR n R∧(zbx n R hs).2.map (·.b)=(heldR n R).held:=by
 induction n with
 | zero=>intro R hs h;exact⟨rfl,h.symm⟩
 | succ n ih=>
  intro R hs h;have hm:=zf0 (dueB R.clock) hs;rw [heldR,h,hm];cases hq:(takeP lessM (fun m=>dueB R.clock m.b) hs).1 with
  | none=>
   rw [zhn hq];exact⟨rfl,rfl⟩
  | some x=>
   rw [zhm hq];simp only [Option.map_some];have hm2:=zf0 (likeB x.b) (takeP lessM (fun m=>dueB R.clock m.b) hs).2;rw [hm2];exact ih _ _ rfl
