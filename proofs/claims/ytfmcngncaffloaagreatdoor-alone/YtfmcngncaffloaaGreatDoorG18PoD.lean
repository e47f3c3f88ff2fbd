import Derived.Test.YtfmcngncaffloaaGreatDoorG17HpG
set_option maxHeartbeats 1600000
namespace Go.Proofs.YtfmcngncaffloaaGreatDoor
open Go.RowKit
set_option maxRecDepth 100000
theorem zxj(hp g cap:Nat)(x:Bm)(w:World)(h:HpIn w hp (.slice (some ⟨g,0,none⟩) 1 cap) [x]):
  Calls Tryz.prog 161 #[.pointer (some ⟨hp,0,none⟩)] w fun e w'=>e= .returned (.tuple #[bmV x, .bool true])∧PopOk w hp g cap [] w':=by
 have HP:Hid (HpIn (twoZ w) hp (.slice (some ⟨g,0,none⟩) 1 cap) [x]):=h.kept (zb4 w)
 have c0:(twoZ w).cell? ⟨hp,0,none⟩=some (.slice (some ⟨g,0,none⟩) 1 cap):=HP.out.blk.cell 0
 obtain⟨a0,a1,a2,a3,a4⟩:=zcs HP.out.row 0 (by simp)
 simp only [List.getElem_cons_zero,Nat.zero_mul,Nat.zero_add] at a0 a1 a2 a3 a4
 obtain⟨wC,hwC⟩:∃wC,wC=(twoZ w).alloc (.cells (bmC x) 124):=⟨_,rfl⟩
 have HBC:Hid (Below w.heap.size w wC):=by rw [hwC];exact(zb4 w).alloc (zb4 w).size _
 have HPC:Hid (HpIn wC hp (.slice (some ⟨g,0,none⟩) 1 cap) [x]):=h.kept HBC.out
 have HR:Hid (Blk wC w.heap.size #[.int .i64 0, .int .i64 0, .int .i64 0, .slice none 0 0, .slice none 0 0] 124):=by rw [hwC];exact(Blk.alloc (heap_alloc_new w _) _).alloc _
 have HN:Hid (Blk wC (w.heap.size+1) #[.int .i64 0, .int .i64 0, .int .i64 0, .slice none 0 0, .slice none 0 0] 124):=by rw [hwC];exact(Blk.second w _ _ _).alloc _
 have HX:Hid (Blk wC (w.heap.size+1+1) (bmC x) 124):=by
  have e:(twoZ w).heap.size=w.heap.size+1+1:=by simp
  rw [hwC,←e]
  exact heap_alloc_new (twoZ w) _
 have hgw:g<w.heap.size:=(h.row.lt g rfl).2
 have hpw:hp<w.heap.size:=h.blk.lt
 have hcap:1<=cap:=by
  rcases h.row.2 with⟨e1,_⟩ | ⟨g',cap',cur,e1,_,_,h3,_⟩
  ·cases e1
  ·cases e1;exact h3
 clear h HP
 go_enter Tryz.func161,Tryz.ntmps161
 go_wp2_with fail
 change Code.wp _ _ _ _ ((twoZ w).alloc (.cells (bmC x) 124))
 rw [←hwC]
 clear hwC c0 a0 a1 a2 a3 a4
 have c0:wC.cell? ⟨hp,0,none⟩=some (.slice (some ⟨g,0,none⟩) 1 cap):=HPC.out.blk.cell 0
 obtain⟨a0,a1,a2,a3,a4⟩:=zcs HPC.out.row 0 (by simp)
 simp only [List.getElem_cons_zero,Nat.zero_mul,Nat.zero_add] at a0 a1 a2 a3 a4
 have n0:wC.cell? ⟨w.heap.size+1,0,none⟩=some (.int .i64 0):=HN.out.cell 0
 have n1:wC.cell? ⟨w.heap.size+1,1,none⟩=some (.int .i64 0):=HN.out.cell 1
 have n2:wC.cell? ⟨w.heap.size+1,2,none⟩=some (.int .i64 0):=HN.out.cell 2
 have n3:wC.cell? ⟨w.heap.size+1,3,none⟩=some (.slice none 0 0):=HN.out.cell 3
 have n4:wC.cell? ⟨w.heap.size+1,4,none⟩=some (.slice none 0 0):=HN.out.cell 4
 have HF:Hid (∀k,wC.frozen? ⟨g,k,none⟩=false):=fun k=>zis HPC.out.row k
 have f0:=HF.out 0
 have f1:=HF.out 1
 have f2:=HF.out 2
 have f3:=HF.out 3
 have f4:=HF.out 4
 go_region
 obtain⟨wD,hwD⟩:∃wD,wD=(put5b (put5b wC g 0 x) g 0 bmZ).drew:=⟨_,rfl⟩
 change Exit.then _ _ Exit.normal _ (put5b (put5b wC g 0 x) g 0 bmZ).drew
 have HPO:Hid (PopOk w hp g cap (([]:List Bm)) (wD.setCell ⟨hp,0,none⟩ (.slice (some ⟨g,0,none⟩) 0 cap))):=by
  show PopOk _ _ _ _ _ _
  rw [hwD]
  exact zrs (bs:= [x]) (k:=0) x HBC.out HPC.out (by simp) _ rfl
 have HTD:Hid (Tch (fun j=>j=g) wC wD):=by
  show Tch _ _ _
  rw [hwD]
  exact((zaz wC g 0 x).then (zaz _ g 0 bmZ)).drew
 rw [←hwD]
 clear hwD
 have HKD:Hid (Blk wD hp #[.slice (some ⟨g,0,none⟩) 1 cap, .func (.func 62) #[] #[]] 178):=HTD.out.blk HPC.out.blk HPC.out.ne
 have HRD:Hid (Blk wD w.heap.size #[.int .i64 0, .int .i64 0, .int .i64 0, .slice none 0 0, .slice none 0 0] 124):=HTD.out.blk HR.out (by omega)
 have HXD:Hid (Blk wD (w.heap.size+1+1) (bmC x) 124):=HTD.out.blk HX.out (by omega)
 have hsz:w.heap.size+1+1<wD.heap.size:=HXD.out.lt
 clear HTD HPC HR HN HX c0 a0 a1 a2 a3 a4 n0 n1 n2 n3 n4 HF f0 f1 f2 f3 f4
 have d0:wD.cell? ⟨hp,0,none⟩=some (.slice (some ⟨g,0,none⟩) 1 cap):=HKD.out.cell 0
 have z0:wD.frozen? ⟨hp,0,none⟩=false:=HKD.out.frozen 0
 go_wp2_with fail
 obtain⟨wE,hwE⟩:∃wE,wE=wD.setCell ⟨hp,0,none⟩ (.slice (some ⟨g,0,none⟩) 0 cap):=⟨_,rfl⟩
 have HRE:Hid (Blk wE w.heap.size #[.int .i64 0, .int .i64 0, .int .i64 0, .slice none 0 0, .slice none 0 0] 124):=by rw [hwE];exact HRD.out.other (by show w.heap.size ≠ hp;omega) _
 have HXE:Hid (Blk wE (w.heap.size+1+1) (bmC x) 124):=by rw [hwE];exact HXD.out.other (by show w.heap.size+1+1 ≠ hp;omega) _
 rw [←hwE] at HPO ⊢
 clear hwE HRD HXD HKD d0 z0 hsz
 refine(zqj hp g cap wE HPO.out.1).mono ?_
 rintro e w3 ⟨rfl,hw3⟩
 have HP3:Hid (HpIn w3 hp (.slice (some ⟨g,0,none⟩) 0 cap) []):=by rw [hw3];exact HPO.out.1
 have HT3:Hid (Tch (fun k=>k=hp∨k=g) w w3):=by rw [hw3];exact HPO.out.2
 have HR3:Hid (Blk w3 w.heap.size #[.int .i64 0, .int .i64 0, .int .i64 0, .slice none 0 0, .slice none 0 0] 124):=by rw [hw3];exact HRE.out
 have HX3:Hid (Blk w3 (w.heap.size+1+1) (bmC x) 124):=by rw [hw3];exact HXE.out
 clear hw3 HRE HXE HPO
 have x0:w3.cell? ⟨w.heap.size+1+1,0,none⟩=some (I x.b.o):=HX3.out.cell 0
 have x1:w3.cell? ⟨w.heap.size+1+1,1,none⟩=some (I x.b.s):=HX3.out.cell 1
 have x2:w3.cell? ⟨w.heap.size+1+1,2,none⟩=some (I x.b.t):=HX3.out.cell 2
 have x3:w3.cell? ⟨w.heap.size+1+1,3,none⟩=some (.slice x.ca x.b.clock.length x.cc):=HX3.out.cell 3
 have x4:w3.cell? ⟨w.heap.size+1+1,4,none⟩=some (.slice x.ea x.b.effs.length x.ec):=HX3.out.cell 4
 have r0:w3.cell? ⟨w.heap.size,0,none⟩=some (.int .i64 0):=HR3.out.cell 0
 have r1:w3.cell? ⟨w.heap.size,1,none⟩=some (.int .i64 0):=HR3.out.cell 1
 have r2:w3.cell? ⟨w.heap.size,2,none⟩=some (.int .i64 0):=HR3.out.cell 2
 have r3:w3.cell? ⟨w.heap.size,3,none⟩=some (.slice none 0 0):=HR3.out.cell 3
 have r4:w3.cell? ⟨w.heap.size,4,none⟩=some (.slice none 0 0):=HR3.out.cell 4
 have z0:=HR3.out.frozen 0
 have z1:=HR3.out.frozen 1
 have z2:=HR3.out.frozen 2
 have z3:=HR3.out.frozen 3
 have z4:=HR3.out.frozen 4
 go_wp2_with fail
 change bodyPost _ _ _ Exit.ret _ (put5b w3 w.heap.size 0 x)
 have HF:Hid (Blk (put5b w3 w.heap.size 0 x) w.heap.size (bmC x) 124):=zgv HR3.out x
 have HTF:Hid (Tch (fun k=>k=hp∨k=g) w (put5b w3 w.heap.size 0 x)):=HT3.out.trans (zaz w3 w.heap.size 0 x) (fun _ _ h=>h) (fun k hk h=>by omega)
 have HPF:Hid (HpIn (put5b w3 w.heap.size 0 x) hp (.slice (some ⟨g,0,none⟩) 0 cap) []):=⟨(zaz w3 w.heap.size 0 x).blk HP3.out.blk (by show¬hp=w.heap.size;omega),zah HP3.out.row (fun b e=>zhk (by rw [←(by simpa [Value.ownBlock] using e:g=b)];omega))⟩
 clear HP3 HT3 HR3 HX3 x0 x1 x2 x3 x4 r0 r1 r2 r3 r4 z0 z1 z2 z3 z4
 generalize put5b w3 w.heap.size 0 x=wF at *
 have f0:wF.cell? ⟨w.heap.size,0,none⟩=some (I x.b.o):=HF.out.cell 0
 have f1:wF.cell? ⟨w.heap.size,1,none⟩=some (I x.b.s):=HF.out.cell 1
 have f2:wF.cell? ⟨w.heap.size,2,none⟩=some (I x.b.t):=HF.out.cell 2
 have f3:wF.cell? ⟨w.heap.size,3,none⟩=some (.slice x.ca x.b.clock.length x.cc):=HF.out.cell 3
 have f4:wF.cell? ⟨w.heap.size,4,none⟩=some (.slice x.ea x.b.effs.length x.ec):=HF.out.cell 4
 refine bodyPost_ret (v:= .tuple #[bmV x, .bool true]) (by simp [results,Tryz.results161,go_sem,f0,f1,f2,f3,f4]) rfl ⟨rfl, ?_⟩
 exact⟨HPF.out,HTF.out⟩
def zsb(w:World)(hp:Nat)(v:Value)(r:Option (Bm×List Bm))(bs:List Bm)(e:Ending)(w':World):Prop:=
 match r with
 | none=>e= .returned (.tuple #[zeroB, .bool false])∧HpIn w' hp v bs∧Below w.heap.size w w'
 | some (x,l)=>e= .returned (.tuple #[bmV x, .bool true])∧HpIn w' hp (match v with | .slice a _ c=> .slice a l.length c | v=>v) l∧Tch (fun k=>k=hp∨v.ownBlock=some k) w w'
theorem zxk(hp:Nat)(v:Value)(bs:List Bm)(w:World)(h:HpIn w hp v bs)(hl:bs.length<=1000000):
  Calls Tryz.prog 161 #[.pointer (some ⟨hp,0,none⟩)] w fun e w'=>zsb w hp v (popP lessM bs) bs e w':=by
 cases bs with
 | nil=>
  refine(zuc hp v w h).mono ?_
  rintro e w' ⟨rfl,hb⟩
  exact⟨rfl,h.kept hb,hb⟩
 | cons x l=>
  rcases h.row.2 with⟨_,hz⟩ | ⟨g,cap,cur,rfl,_⟩
  ·simp at hz
  ·have hpo:∀(l':List Bm) (w':World),PopOk w hp g cap l' w'->HpIn w' hp (.slice (some ⟨g,0,none⟩) l'.length cap) l'∧Tch (fun k=>k=hp∨(Value.slice (some ⟨g,0,none⟩) (x::l).length cap).ownBlock=some k) w w':=fun l' w' h=>⟨h.1,h.2.mono (fun k _ hk=>hk.imp id (fun e=>by rw [e];rfl))⟩
   by_cases hpos:0<l.length
   ·have hy:(x::l)[l.length]?=some ((x::l)[l.length]'(by simp)):=List.getElem?_eq_getElem _
    refine(zub hp g cap x _ l w h (by simp at hl;omega) hpos hy).mono ?_
    rintro e w' ⟨rfl,ho⟩
    exact⟨rfl,hpo _ _ ho⟩
   ·obtain rfl:l= []:=List.eq_nil_of_length_eq_zero (by omega)
    refine(zxj hp g cap x w h).mono ?_
    rintro e w' ⟨rfl,ho⟩
    have he:popP lessM [x]=some (x, []):=by
     unfold popP
     simp only [List.length_nil,List.take_zero]
     rw [sinkP,dif_neg (by simp)]
    rw [he]
    exact⟨rfl,hpo _ _ ho⟩
theorem zwe{α:Type}(less:α->α->Bool)(bs l:List α)(x:α)(h:popP less bs=some (x,l)):l.length+1=bs.length:=by
 cases bs with
 | nil=>cases h
 | cons y m=>
  unfold popP at h
  simp only [Option.some.injEq,Prod.mk.injEq] at h
  rw [←h.2,zkf,List.length_take,List.length_set,List.length_cons]
  omega
def likeB(b o:Wv.Bt):Bool:=(o.o==b.o) && (o.s==b.s)
theorem zw4(x:Bm)(w:World):
  Calls Tryz.prog 118 #[bmV x] w fun e w'=>e= .returned (.func (.func 163) #[] #[.pointer (some ⟨w.heap.size,0,none⟩)])∧w'=w.alloc (.cells (bmC x) 124):=by
 go_enter Tryz.func118,Tryz.ntmps118
 go_wp2
 go_ret
 exact⟨rfl,rfl⟩
theorem ztw(x y:Bm)(gb:Nat)(w:World)(h:Blk w gb (bmC y) 124):
  Calls Tryz.prog 163 #[bmV x, .pointer (some ⟨gb,0,none⟩)] w fun e w'=>e= .returned (.bool (likeB y.b x.b))∧Below w.heap.size w w':=by
 have HB:Hid (Blk (w.alloc (.cells (bmC x) 124)) gb (bmC y) 124):=h.alloc _
 have c0:(w.alloc (.cells (bmC x) 124)).cell? ⟨gb,0,none⟩=some (I y.b.o):=HB.out.cell 0
 have c1:(w.alloc (.cells (bmC x) 124)).cell? ⟨gb,1,none⟩=some (I y.b.s):=HB.out.cell 1
 clear h
 have HE:Hid (Below w.heap.size w (w.alloc (.cells (bmC x) 124))):=(Below.refl _ _).alloc (Nat.le_refl _) _
 clear HB
 unfold bmC at c0 c1
 have HL:Hid (likeB y.b x.b=((x.b.o==y.b.o) && (x.b.s==y.b.s))):=rfl
 obtain⟨q,hq⟩:∃q,q=(x.b.o==y.b.o):=⟨_,rfl⟩
 rw [←hq] at HL
 go_enter Tryz.func163,Tryz.ntmps163
 cases q
 ·have hq2:(x.b.o==y.b.o)=false:=hq.symm
  clear hq
  go_wp2
  go_ret
  exact⟨by rw [HL.out];rfl,HE.out⟩
 ·have hq2:(x.b.o==y.b.o)=true:=hq.symm
  clear hq
  go_wp2
  go_ret
  exact⟨by rw [HL.out];rfl,HE.out⟩
def zba{α:Type}(less:α->α->Bool)(f:α->Bool):Nat->List α->List α->Option α×List α×List α
 | 0,bs,os=>(none,bs,os)
 | n+1,bs,os=>match popP less bs with
  | none=>(none,bs,os)
  | some (x,l)=>if f x then(some x,l,os) else zba less f n l (os++ [x])
def takeP{α:Type}(less:α->α->Bool)(f:α->Bool)(bs:List α):Option α×List α:=
 let r:=zba less f (bs.length+1) bs []
 (r.1,r.2.2.foldl (pushP less) r.2.1)
def TakeHp(w:World)(hp:Nat)(v:Value)(r:Option Bm×List Bm)(e:Ending)(w':World):Prop:=e= .returned (.tuple #[bmV (r.1.getD bmZ), .bool r.1.isSome])∧HpOk w hp v r.2 w'
def popR{α:Type}(less:α->α->Bool)(bs:List α):Option α×List α:=match popP less bs with | none=>(none,bs) | some (x,l)=>(some x,l)
theorem zxi(hp:Nat)(v:Value)(bs:List Bm)(w:World)(h:HpIn w hp v bs)(hl:bs.length<=1000000):
  Calls Tryz.prog 161 #[.pointer (some ⟨hp,0,none⟩)] w fun e w'=>e= .returned (.tuple #[bmV ((popR lessM bs).1.getD bmZ), .bool (popR lessM bs).1.isSome])∧∃v',HpIn w' hp v' (popR lessM bs).2∧Tch (fun k=>k=hp∨v.ownBlock=some k) w w'∧v'.ownBlock=v.ownBlock:=by
 refine(zxk hp v bs w h hl).mono ?_
 intro e w' hh
 unfold zsb at hh
 unfold popR
 cases hq:popP lessM bs with
 | none=>
  rw [hq] at hh
  obtain⟨rfl,h1,h2⟩:=hh
  exact⟨rfl,v,h1,Tch.below h2,rfl⟩
 | some p=>
  obtain⟨x,l⟩:=p
  rw [hq] at hh
  obtain⟨rfl,h1,h2⟩:=hh
  refine⟨rfl,_,h1,h2, ?_⟩
  rcases h.row.2 with⟨rfl,_⟩ | ⟨g,cap,cur,rfl,_⟩<;>rfl
theorem ziq{α:Type}(less:α->α->Bool)(bs:List α):(popR less bs).2.length+(popR less bs).1.toList.length<=bs.length:=by
 unfold popR
 cases hq:popP less bs with
 | none=>simp
 | some p=>have:=zwe less bs p.2 p.1 (by rw [hq]);simp;omega
def backP{α:Type}(less:α->α->Bool)(q:Option α×List α×List α):Option α×List α:=(q.1,q.2.2.foldl (pushP less) q.2.1)
def finP{α:Type}(less:α->α->Bool)(f:α->Bool)(n:Nat)(r:Option α)(l os:List α):Option α×List α:=
 match r with
 | none=>backP less (none,l,os)
 | some x=>if f x then backP less (some x,l,os) else backP less (zba less f n l (os++ [x]))
theorem zr1{α:Type}(less:α->α->Bool)(f:α->Bool)(n:Nat)(l os:List α):backP less (zba less f (n+1) l os)=finP less f n (popR less l).1 (popR less l).2 os:=by
 unfold finP popR
 rw [zba]
 cases hq:popP less l with
 | none=>rfl
 | some p=>
  obtain⟨x,m⟩:=p
  simp only
  split<;>rfl
theorem zvj{α:Type}(less:α->α->Bool)(f:α->Bool)(bs:List α):takeP less f bs=finP less f bs.length (popR less bs).1 (popR less bs).2 []:=by
 rw [←zr1]
 rfl
structure Tk1(w wr:World)(hp:Nat)(v v':Value)(ib:Nat)(ov:Value)(it:Bm)(l os:List Bm):Prop where
 hpx:HpIn wr hp v' l
 old:∀b,v'.ownBlock=some b->v.ownBlock=some b∨w.heap.size<=b
 far:v'.ownBlock ≠ some ib∧v'.ownBlock ≠ some w.heap.size∧∀b,ov.ownBlock=some b->v'.ownBlock ≠ some b
 row:wr.ownsRow w.heap.size 124 5 ov os.length (flat Bm.cells os)
 item:Blk wr ib (bmC it) 124
 ans:Blk wr w.heap.size zB 124
 tch:Tch (fun k=>k=hp∨v.ownBlock=some k) w wr
 apart:ov.ownBlock ≠ some ib∧ov.ownBlock ≠ some w.heap.size
 lt:w.heap.size<ib
 lth:hp<w.heap.size
theorem Tk1.step{w wr w2:World}{hp:Nat}{v v' v2:Value}{ib:Nat}{ov:Value}{it:Bm}{l l2 os:List Bm}(h:Tk1 w wr hp v v' ib ov it l os)(hp2:HpIn w2 hp v2 l2)(hT:Tch (fun k=>k=hp∨v'.ownBlock=some k) wr w2)(hv:∀b,v2.ownBlock=some b->v'.ownBlock=some b∨wr.heap.size<=b):
  Tk1 w w2 hp v v2 ib ov it l2 os:=by
 have hs:=h.tch.size
 have hib:=h.item.lt
 have han:=h.ans.lt
 have hov:∀b,ov.ownBlock=some b->w.heap.size<=b∧b<wr.heap.size:=fun b e=>h.row.lt b e
 refine⟨hp2,fun b e=> ?_,⟨fun e=> ?_,fun e=> ?_,fun b eo e=> ?_⟩,zah h.row (fun b e=>hT.block b (hov b e).2 ?_),hT.blk h.item ?_,hT.blk h.ans ?_,h.tch.trans hT (fun _ _ h=>h) (fun k hk hh=> ?_),h.apart,h.lt,h.lth⟩
 ·rcases hv b e with h1 | h1
  ·exact h.old b h1
  ·right;omega
 ·rcases hv _ e with h1 | h1
  ·exact h.far.1 h1
  ·omega
 ·rcases hv _ e with h1 | h1
  ·exact h.far.2.1 h1
  ·omega
 ·rcases hv _ e with h1 | h1
  ·exact h.far.2.2 b eo h1
  ·have:=(hov b eo).2;omega
 ·rintro(h1 | h1)
  ·have:=(hov b e).1;have:=h.lth;omega
  ·exact h.far.2.2 b e h1
 ·rintro(h1 | h1)
  ·have:=h.lt;have:=h.lth;omega
  ·exact h.far.1 h1
 ·rintro(h1 | h1)
  ·have:=h.lth;omega
  ·exact h.far.2.1 h1
 ·rcases hh with h1 | h1
  ·exact Or.inl h1
  ·rcases h.old _ h1 with h2 | h2
   ·exact Or.inr h2
   ·omega
theorem Tk1.kept{w wr w2:World}{hp:Nat}{v v':Value}{ib:Nat}{ov:Value}{it:Bm}{l os:List Bm}(h:Tk1 w wr hp v v' ib ov it l os)(hb:Below wr.heap.size wr w2):Tk1 w w2 hp v v' ib ov it l os:=
 h.step (h.hpx.kept hb) (Tch.below hb) (fun _ e=>Or.inl e)
theorem Tk1.setItem{w wr w2:World}{hp:Nat}{v v':Value}{ib:Nat}{ov:Value}{it it2:Bm}{l os:List Bm}(h:Tk1 w wr hp v v' ib ov it l os)(hw:w2=put5b wr ib 0 it2):Tk1 w w2 hp v v' ib ov it2 l os:=by
 have hT:Tch (fun j=>j=ib) wr w2:=by rw [hw];exact zaz wr ib 0 it2
 have hib:=h.lt
 have hth:=h.lth
 refine⟨⟨hT.blk h.hpx.blk (by show¬hp=ib;omega),zah h.hpx.row (fun b e=>hT.block b (h.hpx.row.lt b e).2 (by intro e2;subst e2;exact h.far.1 e))⟩,h.old,h.far,zah h.row (fun b e=>hT.block b (h.row.lt b e).2 (by intro e2;subst e2;exact h.apart.1 e)), ?_,hT.blk h.ans (by show¬w.heap.size=ib;omega),h.tch.trans hT (fun _ _ h=>h) (fun k hk e=>by omega),h.apart,h.lt,h.lth⟩
 rw [hw]
 exact((((h.item.set 0 _).set 1 _).set 2 _).set 3 _).set 4 _
theorem Tk1.pass{w wr w2:World}{hp:Nat}{v v':Value}{ib:Nat}{ov ov2:Value}{it:Bm}{l os os2:List Bm}(h:Tk1 w wr hp v v' ib ov it l os)(hr:w2.ownsRow w.heap.size 124 5 ov2 os2.length (flat Bm.cells os2))(hT:Tch (fun k=>ov.ownBlock=some k) wr w2)(hv:∀b,ov2.ownBlock=some b->ov.ownBlock=some b∨wr.heap.size<=b):Tk1 w w2 hp v v' ib ov2 it l os2:=by
 have hs:=h.tch.size
 have hib:=h.item.lt
 have han:=h.ans.lt
 have hlh:=h.lth
 have hov:∀b,ov.ownBlock=some b->w.heap.size<=b∧b<wr.heap.size:=fun b e=>h.row.lt b e
 have hvl:∀b,v'.ownBlock=some b->b<wr.heap.size:=fun b e=>(h.hpx.row.lt b e).2
 refine⟨⟨hT.blk h.hpx.blk (fun e=>by have:=(hov _ e).1;omega),zah h.hpx.row (fun b e=>hT.block b (hvl b e) (fun e2=>h.far.2.2 b e2 e))⟩,h.old,⟨h.far.1,h.far.2.1,fun b e e2=> ?_⟩,hr,hT.blk h.item h.apart.1,hT.blk h.ans h.apart.2,h.tch.trans hT (fun _ _ h=>h) (fun k hk e=>by have:=(hov _ e).1;omega),⟨fun e=> ?_,fun e=> ?_⟩,h.lt,h.lth⟩
 ·rcases hv b e with h1 | h1
  ·exact h.far.2.2 b h1 e2
  ·have:=hvl b e2;omega
 ·rcases hv _ e with h1 | h1
  ·exact h.apart.1 h1
  ·omega
 ·rcases hv _ e with h1 | h1
  ·exact h.apart.2 h1
  ·omega
theorem Tk1.done{w wr wF:World}{hp:Nat}{v v':Value}{ib:Nat}{ov:Value}{it:Bm}{l os:List Bm}(h:Tk1 w wr hp v v' ib ov it l os)(hw:wF=put5b wr w.heap.size 0 it):HpOk w hp v l wF∧Blk wF w.heap.size (bmC it) 124:=by
 have hT:Tch (fun j=>j=w.heap.size) wr wF:=by rw [hw];exact zaz wr w.heap.size 0 it
 have hth:=h.lth
 refine⟨⟨v',⟨hT.blk h.hpx.blk (by show¬hp=w.heap.size;omega),zah h.hpx.row (fun b e=>hT.block b (h.hpx.row.lt b e).2 (by intro e2;subst e2;exact h.far.2.1 e))⟩,h.tch.trans hT (fun _ _ h=>h) (fun k hk e=>by omega),h.old⟩, ?_⟩
 rw [hw]
 exact zgv h.ans it
theorem zr9{w:World}{base g cap n:Nat}{bs:List Bm}(h:w.ownsRow base 124 5 (.slice (some ⟨g,0,none⟩) n cap) bs.length (flat Bm.cells bs))(k:Nat)(hk:k<bs.length):
  w.cell? ⟨g,k*5,none⟩=some (I bs[k].b.o)∧w.cell? ⟨g,k*5+1,none⟩=some (I bs[k].b.s)∧w.cell? ⟨g,k*5+2,none⟩=some (I bs[k].b.t)∧w.cell? ⟨g,k*5+3,none⟩=some (.slice bs[k].ca bs[k].b.clock.length bs[k].cc)∧w.cell? ⟨g,k*5+4,none⟩=some (.slice bs[k].ea bs[k].b.effs.length bs[k].ec):=by
 have hc:=h.cells (g:=g) rfl
 have hx:∀j (_:j<5) u,(bs[k].cells)[j]?=some u->w.cell? ⟨g,k*5+j,none⟩=some u:=fun j hj u hu=>by
  have:=hc (k*5+j) u ((zak Bm.cells 5 zbp bs k hk j hj).trans hu)
  rw [Addr.add_lit,Nat.zero_add] at this
  exact this
 exact⟨hx 0 (by omega) _ rfl,hx 1 (by omega) _ rfl,hx 2 (by omega) _ rfl,hx 3 (by omega) _ rfl,hx 4 (by omega) _ rfl⟩
theorem zkj{α:Type}(less:α->α->Bool)(bs:List α)(i:Nat):(riseP less bs i).length=bs.length:=by
 induction i using Nat.strongRecOn generalizing bs with
 | _ i ih=>
  rw [riseP]
  split
  ·rename_i h
   rw [ih ((i - 1) / 2) (by omega),zbk]
  ·rfl
theorem zti{α:Type}(less:α->α->Bool)(bs:List α)(x:α):(pushP less bs x).length=bs.length+1:=by
 unfold pushP
 rw [zkj]
 simp
theorem zfc{α:Type}(less:α->α->Bool)(os:List α):∀l:List α,(os.foldl (pushP less) l).length=l.length+os.length:=by
 induction os with
 | nil=>intro l;rfl
 | cons x os ih=>intro l;rw [List.foldl_cons,ih,zti,List.length_cons];omega
theorem zqi(hp:Nat)(v:Value)(bs:List Bm)(gb:Nat)(y:Bm)(w:World)(h:HpIn w hp v bs)(hl:bs.length<=1000)(hb:Blk w gb (bmC y) 124)(hg1:gb ≠ hp)(hg2:¬v.ownBlock=some gb):
  Calls Tryz.prog 117 #[.pointer (some ⟨hp,0,none⟩), .func (.func 163) #[] #[.pointer (some ⟨gb,0,none⟩)]] w fun e w'=>TakeHp w hp v (takeP lessM (fun m=>likeB y.b m.b) bs) e w':=by
 have HP:Hid (HpIn w hp v bs):=h
 have HG:Hid (Blk w gb (bmC y) 124):=hb
 clear h hb
 go_enter Tryz.func117,Tryz.ntmps117
 go_wp2_with fail
 obtain⟨w0,hw0⟩:∃w0,w0=w.alloc (.cells zB 124):=⟨_,rfl⟩
 have HB0:Hid (Below w.heap.size w w0):=by rw [hw0];exact(Below.refl _ _).alloc (Nat.le_refl _) _
 have HR0:Hid (Blk w0 w.heap.size zB 124):=by rw [hw0];exact heap_alloc_new w _
 rw [show w.alloc (.cells #[.int .i64 0, .int .i64 0, .int .i64 0, .slice none 0 0, .slice none 0 0] 124)=w0 from hw0.symm]
 clear hw0
 refine(zxi hp v bs w0 (HP.out.kept HB0.out) (by omega)).mono ?_
 rintro e w1 ⟨rfl,v1,hp1,hT1,hv1⟩
 have HVB:Hid (∀k,v.ownBlock=some k->k<w.heap.size):=fun k hk=>(HP.out.row.lt k hk).2
 have hpw:hp<w.heap.size:=HP.out.blk.lt
 have hs1:w.heap.size<w1.heap.size:=by have:=hT1.size;have:=HR0.out.lt;omega
 have HTF:Hid (takeP lessM (fun m=>likeB y.b m.b) bs=finP lessM (fun m=>likeB y.b m.b) bs.length (popR lessM bs).1 (popR lessM bs).2 []):=zvj _ _ _
 have HLE:Hid ((popR lessM bs).2.length+(popR lessM bs).1.toList.length<=bs.length):=ziq _ _
 go_wp2_with fail
 generalize (popR lessM bs).2=l0 at *
 generalize (popR lessM bs).1=r0 at *
 have HK:Hid (Tk1 w (w1.alloc (.cells (bmC (r0.getD bmZ)) 124)) hp v v1 w1.heap.size (.slice none 0 0) (r0.getD bmZ) l0 []):=by
  have hTw:Tch (fun k=>k=hp∨v.ownBlock=some k) w w1:=(Tch.below HB0.out).trans hT1 (fun _ _ h=>h) (fun _ _ h=>h)
  refine⟨hp1.kept ((Below.refl _ _).alloc (Nat.le_refl _) _),fun b e=>Or.inl (by rw [←hv1];exact e),⟨?_, ?_,fun b e=>by simp [Value.ownBlock] at e⟩,⟨rfl, .inl ⟨rfl,rfl⟩⟩,heap_alloc_new w1 _, ?_,hTw.alloc _,⟨by simp [Value.ownBlock],by simp [Value.ownBlock]⟩,hs1,hpw⟩
  ·intro e;rw [hv1] at e;have:=HVB.out _ e;omega
  ·intro e;rw [hv1] at e;have:=HVB.out _ e;omega
  ·exact(hT1.blk HR0.out (by rintro(h | h);omega;have:=HVB.out _ h;omega)).alloc _
 clear hp1 hT1 hv1 HB0 HR0 HP
 obtain⟨wS,hwS⟩:∃wS,wS=w1.alloc (.cells (bmC (r0.getD bmZ)) 124):=⟨_,rfl⟩
 obtain⟨ib,hib⟩:∃ib,ib=w1.heap.size:=⟨_,rfl⟩
 change Code.wp _ _ _ _ (w1.alloc (.cells (bmC (r0.getD bmZ)) 124))
 rw [←hwS,←hib] at HK
 rw [←hwS,←hib]
 clear hwS hib hs1
 go_loopw [6,8] (fun v6 v8 wr=>∃(n:Nat) (r:Option Bm) (l os:List Bm) (oa:Option Addr) (oc:Nat) (v':Value),v6= .slice oa os.length oc∧v8= .bool r.isSome∧os.length+n=bs.length∧l.length+r.toList.length<=n∧Hid (takeP lessM (fun m=>likeB y.b m.b) bs=finP lessM (fun m=>likeB y.b m.b) n r l os)∧Hid (Tk1 w wr hp v v' ib (.slice oa os.length oc) (r.getD bmZ) l os)) (fun v6 _ _=>match v6 with | .slice _ k _=>bs.length+1 - k | _=>0)
 case atStart=>exact⟨bs.length,r0,l0, [],none,0,v1,rfl,rfl,by simp,HLE.out,HTF,HK⟩
 case round=>
  obtain⟨n,r,l,os,oa,oc,v',rfl,rfl,hn,hln,HF,HKr⟩:=hrel
  clear HK HTF HLE
  cases r with
  | none=>
   have HKT:=HKr
   have HFT:Hid (takeP lessM (fun m=>likeB y.b m.b) bs=backP lessM (none,l,os)):=HF.out
   clear HKr HF
   go_wp2_with fail
   go_loopw [34] (fun v34 wX=>∃(k:Nat) (v2:Value),k<=os.length∧v34=I k∧Hid (Tk1 w wX hp v v2 ib (.slice oa os.length oc) bmZ ((os.take k).foldl (pushP lessM) l) os)) (fun v34 _=>os.length - (intOf v34).toNat)
   case atStart=>exact⟨0,v',Nat.zero_le _,rfl,HKT⟩
   case round=>
    obtain⟨k,v2,hk,rfl,HKq⟩:=hrel
    clear HKT
    by_cases hlt:k<os.length
    ·obtain⟨go,rfl⟩:∃go,oa=some ⟨go,0,none⟩:=by
      rcases HKq.out.row.2 with⟨_,hz⟩ | ⟨g,cap,cur,e,_⟩
      ·omega
      ·cases e;exact⟨g,rfl⟩
     obtain⟨e0,e1,e2,e3,e4⟩:=zr9 HKq.out.row k hlt
     have HNX:Hid ((os.take (k+1)).foldl (pushP lessM) l=pushP lessM ((os.take k).foldl (pushP lessM) l) os[k]):=by
      show _=_
      rw [List.take_succ_eq_append_getElem hlt,List.foldl_append]
      rfl
     have HLN:Hid (((os.take k).foldl (pushP lessM) l).length<=1000000):=by
      show _<=_
      rw [zfc,List.length_take]
      omega
     have hki:(k:Int)<os.length:=by omega
     generalize os[k]=z at *
     go_wp2_with fail
     have HKa:Hid (Tk1 w (wr.alloc (.cells (bmC z) 124)) hp v v2 ib (.slice (some ⟨go,0,none⟩) os.length oc) bmZ ((os.take k).foldl (pushP lessM) l) os):=HKq.out.kept ((Below.refl _ _).alloc (Nat.le_refl _) _)
     refine(zk0 hp v2 ((os.take k).foldl (pushP lessM) l) z (wr.alloc (.cells (bmC z) 124)) HKa.out.hpx HLN.out).mono ?_
     rintro e w5 ⟨rfl,v3,hp3,hT3,hv3⟩
     have HK5:Hid (Tk1 w w5 hp v v3 ib (.slice (some ⟨go,0,none⟩) os.length oc) bmZ ((os.take (k+1)).foldl (pushP lessM) l) os):=by
      show Tk1 _ _ _ _ _ _ _ _ _ _
      rw [HNX.out]
      exact HKa.out.step hp3 hT3 hv3
     clear hp3 hT3 hv3 HKa HKq e0 e1 e2 e3 e4 HNX
     go_wp2_with fail
     go_roundw
     case rel=>exact⟨k+1,v3,hlt,by go_num,HK5⟩
     case measure=>simp [intOf];omega
    ·have HT9:Hid (Tk1 w wr hp v v2 ib (.slice oa os.length oc) bmZ (os.foldl (pushP lessM) l) os):=by
      have:=HKq.out
      rw [List.take_of_length_le (by omega)] at this
      exact this
     have hki:¬(k:Int)<os.length:=by omega
     clear HKq
     have x0:wr.cell? ⟨ib,0,none⟩=some (I (bmZ).b.o):=HT9.out.item.cell 0
     have x1:wr.cell? ⟨ib,1,none⟩=some (I (bmZ).b.s):=HT9.out.item.cell 1
     have x2:wr.cell? ⟨ib,2,none⟩=some (I (bmZ).b.t):=HT9.out.item.cell 2
     have x3:wr.cell? ⟨ib,3,none⟩=some (.slice (bmZ).ca (bmZ).b.clock.length (bmZ).cc):=HT9.out.item.cell 3
     have x4:wr.cell? ⟨ib,4,none⟩=some (.slice (bmZ).ea (bmZ).b.effs.length (bmZ).ec):=HT9.out.item.cell 4
     have r0:wr.cell? ⟨w.heap.size,0,none⟩=some (.int .i64 0):=HT9.out.ans.cell 0
     have r1:wr.cell? ⟨w.heap.size,1,none⟩=some (.int .i64 0):=HT9.out.ans.cell 1
     have r2:wr.cell? ⟨w.heap.size,2,none⟩=some (.int .i64 0):=HT9.out.ans.cell 2
     have r3:wr.cell? ⟨w.heap.size,3,none⟩=some (.slice none 0 0):=HT9.out.ans.cell 3
     have r4:wr.cell? ⟨w.heap.size,4,none⟩=some (.slice none 0 0):=HT9.out.ans.cell 4
     have z0:=HT9.out.ans.frozen 0
     have z1:=HT9.out.ans.frozen 1
     have z2:=HT9.out.ans.frozen 2
     have z3:=HT9.out.ans.frozen 3
     have z4:=HT9.out.ans.frozen 4
     go_wp2_with fail
     obtain⟨wF,hwF⟩:∃wF,wF=put5b wr w.heap.size 0 bmZ:=⟨_,rfl⟩
     have HOK:Hid (HpOk w hp v (os.foldl (pushP lessM) l) wF):=(HT9.out.done hwF).1
     have HBF:Hid (Blk wF w.heap.size (bmC bmZ) 124):=(HT9.out.done hwF).2
     change bodyPost _ _ _ Exit.ret _ (put5b wr w.heap.size 0 bmZ)
     rw [←hwF]
     clear hwF HT9 x0 x1 x2 x3 x4 r0 r1 r2 r3 r4 z0 z1 z2 z3 z4
     have f0:wF.cell? ⟨w.heap.size,0,none⟩=some (I (bmZ).b.o):=HBF.out.cell 0
     have f1:wF.cell? ⟨w.heap.size,1,none⟩=some (I (bmZ).b.s):=HBF.out.cell 1
     have f2:wF.cell? ⟨w.heap.size,2,none⟩=some (I (bmZ).b.t):=HBF.out.cell 2
     have f3:wF.cell? ⟨w.heap.size,3,none⟩=some (.slice (bmZ).ca (bmZ).b.clock.length (bmZ).cc):=HBF.out.cell 3
     have f4:wF.cell? ⟨w.heap.size,4,none⟩=some (.slice (bmZ).ea (bmZ).b.effs.length (bmZ).ec):=HBF.out.cell 4
     refine bodyPost_ret (v:= .tuple #[bmV bmZ, .bool false]) (by simp [results,Tryz.results117,go_sem,f0,f1,f2,f3,f4]) rfl ?_
     rw [HFT.out]
     exact⟨rfl,HOK.out⟩
  | some x=>
   have i0:wr.cell? ⟨ib,0,none⟩=some (I x.b.o):=HKr.out.item.cell 0
   have i1:wr.cell? ⟨ib,1,none⟩=some (I x.b.s):=HKr.out.item.cell 1
   have i2:wr.cell? ⟨ib,2,none⟩=some (I x.b.t):=HKr.out.item.cell 2
   have i3:wr.cell? ⟨ib,3,none⟩=some (.slice x.ca x.b.clock.length x.cc):=HKr.out.item.cell 3
   have i4:wr.cell? ⟨ib,4,none⟩=some (.slice x.ea x.b.effs.length x.ec):=HKr.out.item.cell 4
   go_wp2_with fail
   refine(ztw x y gb wr (HKr.out.tch.blk HG.out (by rintro(h | h);exact hg1 h;exact hg2 h))).mono ?_
   rintro e w2 ⟨rfl,hb2⟩
   have HK2:Hid (Tk1 w w2 hp v v' ib (.slice oa os.length oc) x l os):=HKr.out.kept hb2
   have HF2:Hid (takeP lessM (fun m=>likeB y.b m.b) bs=if likeB y.b x.b then backP lessM (some x,l,os) else backP lessM (zba lessM (fun m=>likeB y.b m.b) n l (os++ [x]))):=HF.out
   clear HKr HF hb2 i0 i1 i2 i3 i4
   generalize likeB y.b x.b=bl at *
   cases bl
   ·have HFN:Hid (takeP lessM (fun m=>likeB y.b m.b) bs=backP lessM (zba lessM (fun m=>likeB y.b m.b) n l (os++ [x]))):=HF2.out
    clear HF2
    have i0:w2.cell? ⟨ib,0,none⟩=some (I x.b.o):=HK2.out.item.cell 0
    have i1:w2.cell? ⟨ib,1,none⟩=some (I x.b.s):=HK2.out.item.cell 1
    have i2:w2.cell? ⟨ib,2,none⟩=some (I x.b.t):=HK2.out.item.cell 2
    have i3:w2.cell? ⟨ib,3,none⟩=some (.slice x.ca x.b.clock.length x.cc):=HK2.out.item.cell 3
    have i4:w2.cell? ⟨ib,4,none⟩=some (.slice x.ea x.b.effs.length x.ec):=HK2.out.item.cell 4
    obtain⟨ii,HI⟩:∃i,Hid (Tryz.prog.info? 124=some i∧i.zero=some (.agg #[.int .i64 0, .int .i64 0, .int .i64 0, .slice none 0 0, .slice none 0 0])∧i.size=5∧i.bytes=72):=by obtain⟨i,h⟩:=info_parts zlx;exact⟨i,h⟩
    have hone:∀u∈x.cells,u.oneCell'=true:=by have:=zjl [x];simpa [flat] using this
    have HRW:Hid ((w2.alloc (.cells (bmC x) 124)).ownsRow w.heap.size 124 5 (.slice oa os.length oc) os.length (flat Bm.cells os)):=HK2.out.row.alloc _
    have HLT:Hid (∀j u,(x.cells)[j]?=some u->(w2.alloc (.cells (bmC x) 124)).cell? ((⟨w2.heap.size,0,none⟩:Addr).add j)=some u):=zas w2 x.cells _
    have hsz2:w.heap.size<=(w2.alloc (.cells (bmC x) 124)).heap.size:=by have:=HK2.out.tch.size;simp;omega
    have HSZ2:Hid (w.heap.size<=(w2.alloc (.cells (bmC x) 124)).heap.size):=hsz2
    clear hsz2
    have n1:os.length+1<=maxLen:=by unfold maxLen;omega
    have n2:(os.length+1)*72<=140737488355328:=by omega
    go_wp2_with (first | (at_builtin;refine wpList_append_own_at _ rfl _ _ _ rfl w.heap.size 124 ii (.agg #[.int .i64 0, .int .i64 0, .int .i64 0, .slice none 0 0, .slice none 0 0]) 5 72 Tryz.underlying108 HI.out.1 HI.out.2.1 HI.out.2.2.1 HI.out.2.2.2 rfl (by decide) (.slice oa os.length oc) os.length (flat Bm.cells os) rfl HRW.out ⟨w2.heap.size,0,none⟩ 1 1 x.cells rfl rfl HLT.out hone n1 n2 HSZ2.out ?_;intro ov3 w3 hown3 hgrow3 hnil3 hat3))
    have hln':l.length+1<=n:=by simpa using hln
    obtain⟨n',rfl⟩:∃n',n=n'+1:=⟨n - 1,by omega⟩
    have hsn:(os++ [x]).length=os.length+1:=by simp
    obtain⟨og,oc3,rfl⟩:∃g c,ov3= .slice (some ⟨g,0,none⟩) (os++ [x]).length c:=by
     rcases hown3.2 with⟨_,hz⟩ | ⟨g,cap,cur,e,_⟩
     ·omega
     ·exact⟨g,cap,by rw [hsn];exact e⟩
    have HK3:Hid (Tk1 w w3 hp v v' ib (.slice (some ⟨og,0,none⟩) (os++ [x]).length oc3) x l (os++ [x])):=by
     refine(HK2.out.kept ((Below.refl _ _).alloc (Nat.le_refl _) (.cells (bmC x) 124))).pass ?_ (Tch.grown hgrow3) (fun b e=> ?_)
     ·rw [hsn,zez]
      rw [hsn] at hown3
      exact hown3
     ·rcases hat3 with h | h
      ·rw [e] at h;exact Or.inl h.symm
      ·rw [e] at h;cases h;exact Or.inr (Nat.le_refl _)
    have HFP:Hid (takeP lessM (fun m=>likeB y.b m.b) bs=finP lessM (fun m=>likeB y.b m.b) n' (popR lessM l).1 (popR lessM l).2 (os++ [x])):=by
     show _=_
     rw [HFN.out,zr1]
    have HLP:Hid ((popR lessM l).2.length+(popR lessM l).1.toList.length<=l.length):=ziq _ _
    clear hown3 hgrow3 hnil3 hat3 HK2 HFN HRW HLT HSZ2 i0 i1 i2 i3 i4 HI hone n1 n2
    refine(zxi hp v' l w3 HK3.out.hpx (by omega)).mono ?_
    rintro e w4 ⟨rfl,v4,hp4,hT4,hv4⟩
    have HK4:Hid (Tk1 w w4 hp v v4 ib (.slice (some ⟨og,0,none⟩) (os++ [x]).length oc3) x (popR lessM l).2 (os++ [x])):=HK3.out.step hp4 hT4 (fun b e=>Or.inl (by rw [←hv4];exact e))
    clear hp4 hT4 hv4 HK3
    generalize (popR lessM l).2=l4 at *
    generalize (popR lessM l).1=r4 at *
    have i0:w4.cell? ⟨ib,0,none⟩=some (I x.b.o):=HK4.out.item.cell 0
    have i1:w4.cell? ⟨ib,1,none⟩=some (I x.b.s):=HK4.out.item.cell 1
    have i2:w4.cell? ⟨ib,2,none⟩=some (I x.b.t):=HK4.out.item.cell 2
    have i3:w4.cell? ⟨ib,3,none⟩=some (.slice x.ca x.b.clock.length x.cc):=HK4.out.item.cell 3
    have i4:w4.cell? ⟨ib,4,none⟩=some (.slice x.ea x.b.effs.length x.ec):=HK4.out.item.cell 4
    have z0:=HK4.out.item.frozen 0
    have z1:=HK4.out.item.frozen 1
    have z2:=HK4.out.item.frozen 2
    have z3:=HK4.out.item.frozen 3
    have z4:=HK4.out.item.frozen 4
    have HK5:Hid (Tk1 w (put5b w4 ib 0 (r4.getD bmZ)) hp v v4 ib (.slice (some ⟨og,0,none⟩) (os++ [x]).length oc3) (r4.getD bmZ) l4 (os++ [x])):=HK4.out.setItem rfl
    clear HK4
    go_wp2_with fail
    go_roundw
    case rel=>exact⟨n',r4,l4,os++ [x],some ⟨og,0,none⟩,oc3,v4,by rw [hsn],rfl,by omega,Nat.le_trans HLP.out (by omega),HFP,HK5⟩
    case measure=>simp;omega
   ·have HKT:=HK2
    have HFT:Hid (takeP lessM (fun m=>likeB y.b m.b) bs=backP lessM (some x,l,os)):=HF2.out
    clear HK2 HF2
    go_wp2_with fail
    go_loopw [34] (fun v34 wX=>∃(k:Nat) (v2:Value),k<=os.length∧v34=I k∧Hid (Tk1 w wX hp v v2 ib (.slice oa os.length oc) x ((os.take k).foldl (pushP lessM) l) os)) (fun v34 _=>os.length - (intOf v34).toNat)
    case atStart=>exact⟨0,v',Nat.zero_le _,rfl,HKT⟩
    case round=>
     obtain⟨k,v2,hk,rfl,HKq⟩:=hrel
     clear HKT
     by_cases hlt:k<os.length
     ·obtain⟨go,rfl⟩:∃go,oa=some ⟨go,0,none⟩:=by
       rcases HKq.out.row.2 with⟨_,hz⟩ | ⟨g,cap,cur,e,_⟩
       ·omega
       ·cases e;exact⟨g,rfl⟩
      obtain⟨e0,e1,e2,e3,e4⟩:=zr9 HKq.out.row k hlt
      have HNX:Hid ((os.take (k+1)).foldl (pushP lessM) l=pushP lessM ((os.take k).foldl (pushP lessM) l) os[k]):=by
       show _=_
       rw [List.take_succ_eq_append_getElem hlt,List.foldl_append]
       rfl
      have HLN:Hid (((os.take k).foldl (pushP lessM) l).length<=1000000):=by
       show _<=_
       rw [zfc,List.length_take]
       omega
      have hki:(k:Int)<os.length:=by omega
      generalize os[k]=z at *
      go_wp2_with fail
      have HKa:Hid (Tk1 w (wr.alloc (.cells (bmC z) 124)) hp v v2 ib (.slice (some ⟨go,0,none⟩) os.length oc) x ((os.take k).foldl (pushP lessM) l) os):=HKq.out.kept ((Below.refl _ _).alloc (Nat.le_refl _) _)
      refine(zk0 hp v2 ((os.take k).foldl (pushP lessM) l) z (wr.alloc (.cells (bmC z) 124)) HKa.out.hpx HLN.out).mono ?_
      rintro e w5 ⟨rfl,v3,hp3,hT3,hv3⟩
      have HK5:Hid (Tk1 w w5 hp v v3 ib (.slice (some ⟨go,0,none⟩) os.length oc) x ((os.take (k+1)).foldl (pushP lessM) l) os):=by
       show Tk1 _ _ _ _ _ _ _ _ _ _
       rw [HNX.out]
       exact HKa.out.step hp3 hT3 hv3
      clear hp3 hT3 hv3 HKa HKq e0 e1 e2 e3 e4 HNX
      go_wp2_with fail
      go_roundw
      case rel=>exact⟨k+1,v3,hlt,by go_num,HK5⟩
      case measure=>simp [intOf];omega
     ·have HT9:Hid (Tk1 w wr hp v v2 ib (.slice oa os.length oc) x (os.foldl (pushP lessM) l) os):=by
       have:=HKq.out
       rw [List.take_of_length_le (by omega)] at this
       exact this
      have hki:¬(k:Int)<os.length:=by omega
      clear HKq
      have x0:wr.cell? ⟨ib,0,none⟩=some (I (x).b.o):=HT9.out.item.cell 0
      have x1:wr.cell? ⟨ib,1,none⟩=some (I (x).b.s):=HT9.out.item.cell 1
      have x2:wr.cell? ⟨ib,2,none⟩=some (I (x).b.t):=HT9.out.item.cell 2
      have x3:wr.cell? ⟨ib,3,none⟩=some (.slice (x).ca (x).b.clock.length (x).cc):=HT9.out.item.cell 3
      have x4:wr.cell? ⟨ib,4,none⟩=some (.slice (x).ea (x).b.effs.length (x).ec):=HT9.out.item.cell 4
      have r0:wr.cell? ⟨w.heap.size,0,none⟩=some (.int .i64 0):=HT9.out.ans.cell 0
      have r1:wr.cell? ⟨w.heap.size,1,none⟩=some (.int .i64 0):=HT9.out.ans.cell 1
      have r2:wr.cell? ⟨w.heap.size,2,none⟩=some (.int .i64 0):=HT9.out.ans.cell 2
      have r3:wr.cell? ⟨w.heap.size,3,none⟩=some (.slice none 0 0):=HT9.out.ans.cell 3
      have r4:wr.cell? ⟨w.heap.size,4,none⟩=some (.slice none 0 0):=HT9.out.ans.cell 4
      have z0:=HT9.out.ans.frozen 0
      have z1:=HT9.out.ans.frozen 1
      have z2:=HT9.out.ans.frozen 2
      have z3:=HT9.out.ans.frozen 3
      have z4:=HT9.out.ans.frozen 4
      go_wp2_with fail
      obtain⟨wF,hwF⟩:∃wF,wF=put5b wr w.heap.size 0 x:=⟨_,rfl⟩
      have HOK:Hid (HpOk w hp v (os.foldl (pushP lessM) l) wF):=(HT9.out.done hwF).1
      have HBF:Hid (Blk wF w.heap.size (bmC x) 124):=(HT9.out.done hwF).2
      change bodyPost _ _ _ Exit.ret _ (put5b wr w.heap.size 0 x)
      rw [←hwF]
      clear hwF HT9 x0 x1 x2 x3 x4 r0 r1 r2 r3 r4 z0 z1 z2 z3 z4
      have f0:wF.cell? ⟨w.heap.size,0,none⟩=some (I (x).b.o):=HBF.out.cell 0
      have f1:wF.cell? ⟨w.heap.size,1,none⟩=some (I (x).b.s):=HBF.out.cell 1
      have f2:wF.cell? ⟨w.heap.size,2,none⟩=some (I (x).b.t):=HBF.out.cell 2
      have f3:wF.cell? ⟨w.heap.size,3,none⟩=some (.slice (x).ca (x).b.clock.length (x).cc):=HBF.out.cell 3
      have f4:wF.cell? ⟨w.heap.size,4,none⟩=some (.slice (x).ea (x).b.effs.length (x).ec):=HBF.out.cell 4
      refine bodyPost_ret (v:= .tuple #[bmV x, .bool true]) (by simp [results,Tryz.results117,go_sem,f0,f1,f2,f3,f4]) rfl ?_
      rw [HFT.out]
      exact⟨rfl,HOK.out⟩
structure Ms where
 k:Int
 f:Int
 t:Int
 bs:List UInt8
 sp:Bool
def Ms.cells(m:Ms):List Value:= [I m.k,I m.f,I m.t, .string ⟨m.bs.toArray⟩, .bool m.sp]
abbrev msV (m:Ms):Value:= .agg #[I m.k,I m.f,I m.t, .string ⟨m.bs.toArray⟩, .bool m.sp]
abbrev msC (m:Ms):Array Value:= #[I m.k,I m.f,I m.t, .string ⟨m.bs.toArray⟩, .bool m.sp]
theorem zz5(ls:List Ms):∀u∈flat Ms.cells ls,u.oneCell'=true:=by
 induction ls with
 | nil=>intro u hu;simp [flat] at hu
 | cons m ls ih=>
  intro u hu
  simp only [flat,List.mem_append] at hu
  rcases hu with hu | hu
  ·simp only [Ms.cells,List.mem_cons,List.not_mem_nil,or_false] at hu
   rcases hu with rfl | rfl | rfl | rfl | rfl<;>rfl
  ·exact ih u hu
theorem infoMs:(Tryz.prog.info? 162).map (fun i=>(i.zero,i.size,i.bytes))=some (some (.agg #[.int .i64 0, .int .i64 0, .int .i64 0, .string ⟨#[]⟩, .bool false]),5,48):=by kernel_rfl
theorem zql(l:List Ms)(x:Ms):flat Ms.cells (l++ [x])=flat Ms.cells l++x.cells:=by
 rw [za1]
 show _++(x.cells++ [])=_
 rw [List.append_nil]
structure PoIn(w:World)(own:Clr)(c pp ch:Nat)(pv:Value)(ms:List Ms):Prop where
 blk:Blk w pp #[.chan (some ch),pv] 119
 chn:∃buf s r,w.heap[ch]?=some (.chan 40 buf false s r false)∧buf.size=ms.length
 row:w.ownsRow 0 162 5 pv ms.length (flat Ms.cells ms)
 own1:own pp=c
 own2:own ch=c
 own3:∀g,pv.ownBlock=some g->own g=c
 most:ms.length<=40
theorem PoIn.chlt{w:World}{own:Clr}{c pp ch:Nat}{pv:Value}{ms:List Ms}(h:PoIn w own c pp ch pv ms):ch<w.heap.size:=by
 obtain⟨_,_,_,hc,_⟩:=h.chn
 exact(Array.getElem?_eq_some_iff.1 hc).1
theorem PoIn.keep{w w':World}{own own':Clr}{c pp ch:Nat}{pv:Value}{ms:List Ms}(h:PoIn w own c pp ch pv ms)(hs:Same own c w w')(he:Ext own own' w.heap.size):PoIn w' own' c pp ch pv ms:=by
 obtain⟨buf,s,r,hc,hb⟩:=h.chn
 exact⟨(hs pp h.blk.lt h.own1).trans h.blk,⟨buf,s,r,(hs ch h.chlt h.own2).trans hc,hb⟩,zah h.row (fun g e=>hs g (h.row.lt g e).2 (h.own3 g e)),(he pp h.blk.lt).trans h.own1,(he ch h.chlt).trans h.own2,fun g e=>(he g (h.row.lt g e).2).trans (h.own3 g e),h.most⟩
def PoOk(w:World)(own:Clr)(c pp ch:Nat)(ms:List Ms)(w':World):Prop:=∃own' pv',Ext own own' w.heap.size∧PoIn w' own' c pp ch pv' ms∧TchC own c w w'
theorem ztm(own:Clr)(c pp ch:Nat)(pv:Value)(ms:List Ms)(m:Ms)(w:World)(h:PoIn w own c pp ch pv ms)(hl:ms.length<40):
  Calls Tryz.prog 81 #[.pointer (some ⟨pp,0,none⟩),msV m] w fun e w'=>e= .returned (.tuple #[])∧PoOk w own c pp ch (ms++ [m]) w':=by
 obtain⟨wA,hwA⟩:∃wA,wA=w.alloc (.cells (msC m) 162):=⟨_,rfl⟩
 have HBA:Hid (Below w.heap.size w wA):=by rw [hwA];exact(Below.refl _ _).alloc (Nat.le_refl _) _
 have HX:Hid (Blk wA w.heap.size (msC m) 162):=by rw [hwA];exact heap_alloc_new w _
 have HP:Hid (PoIn wA own c pp ch pv ms):=h.keep (fun b hb _=>HBA.out.block b hb) (Ext.refl _ _)
 have HPW:Hid (PoIn w own c pp ch pv ms):=h
 have c0:wA.cell? ⟨pp,0,none⟩=some (.chan (some ch)):=HP.out.blk.cell 0
 clear h
 refine zgp Tryz.func81 rfl ?_
 simp only [Tryz.ntmps81,List.size_toArray,List.length_cons,List.length_nil,Nat.reduceAdd,Nat.reduceSub,Array.replicate_succ,Array.replicate_zero,List.push_toArray,List.append_toArray,List.nil_append,List.cons_append]
 refine zfn (zgt ?_)
 go_wp2_with fail
 change wpN _ _ _ _ (w.alloc (.cells (msC m) 162))
 rw [←hwA]
 clear hwA
 refine zfn (zgt ?_)
 go_wp2_with fail
 obtain⟨buf,sn,rn,hch,hbuf⟩:=HP.out.chn
 refine zfn (zib ?_)
 change wpR _ _ _ [0,1,2] _ _
 refine zme (i:=0) (cases:= #[Go.Conc.scase ch (.agg #[]) (.agg #[])]) (blocking:=false) (shape:= .select) (w1:=wA) rfl rfl (by simp [go_sem,execOp,Go.Conc.scase,Act.eval]) (fun fr cs es hs=>Go.Conc.step_lone_select_send_room hs hch (by omega)) ?_
 simp only [Act.put,List.getElem_toArray,List.getElem_cons_zero,List.setIfInBounds_toArray,List.set_cons_succ,List.set_cons_zero]
 refine zfm (i:=1) rfl rfl (v:= .int .i64 0) (w':=wA.setChan ch 40 (buf.push (.agg #[])) false (sn+1) rn false) (by simp [go_sem,execOp,Act.eval]) ?_
 simp only [Act.put,List.getElem_toArray,List.getElem_cons_zero,List.getElem_cons_succ,List.setIfInBounds_toArray,List.set_cons_succ,List.set_cons_zero]
 refine zfm (i:=2) rfl rfl (v:= .bool true) (w':=wA.setChan ch 40 (buf.push (.agg #[])) false (sn+1) rn false) (by simp [go_sem,execOp,Act.eval]) ?_
 simp only [Act.put,List.getElem_toArray,List.getElem_cons_zero,List.getElem_cons_succ,List.setIfInBounds_toArray,List.set_cons_succ,List.set_cons_zero]
 refine zri (zgt ?_)
 obtain⟨w2,hw2⟩:∃w2,w2=wA.setChan ch 40 (buf.push (.agg #[])) false (sn+1) rn false:=⟨_,rfl⟩
 have hT2:Tch (fun k=>k=ch) wA w2:=by rw [hw2];exact(Tch.refl _ _).setChan _ _ _ _ _ _ _ (Or.inl rfl)
 have HC2:Hid (∃buf s r,w2.heap[ch]?=some (.chan 40 buf false s r false)∧buf.size=ms.length+1):=⟨_,_,_,by rw [hw2];exact Go.Conc.heap_setChan _ _ _ _ _ _ _ _ HP.out.chlt,by simp [hbuf]⟩
 rw [←hw2]
 clear hw2 hch hbuf buf sn rn
 have hne1:pp ≠ ch:=by
  rintro rfl
  obtain⟨_,_,_,hc,_⟩:=HP.out.chn
  cases HP.out.blk.symm.trans hc
 have HNG:Hid (¬pv.ownBlock=some ch∧¬pv.ownBlock=some pp):=by
  obtain⟨_,_,_,hc,_⟩:=HP.out.chn
  rcases HP.out.row.2 with⟨rfl,_⟩ | ⟨g,cap,cur,rfl,_,hg,_,_,hcs,_⟩
  ·exact⟨by simp [Value.ownBlock],by simp [Value.ownBlock]⟩
  ·refine⟨fun e=> ?_,fun e=> ?_⟩
   ·have e:g=ch:=by simpa [Value.ownBlock] using e
    subst e
    cases hg.symm.trans hc
   ·have e:g=pp:=by simpa [Value.ownBlock] using e
    subst e
    have h9:=hg.symm.trans HP.out.blk
    simp at h9
 have HK2:Hid (Blk w2 pp #[.chan (some ch),pv] 119):=hT2.blk HP.out.blk hne1
 have HX2:Hid (Blk w2 w.heap.size (msC m) 162):=hT2.blk HX.out (by have:=HPW.out.chlt;omega)
 have HR2:Hid (w2.ownsRow 0 162 5 pv ms.length (flat Ms.cells ms)):=zah HP.out.row (fun g e=>hT2.block g (HP.out.row.lt g e).2 (by rintro rfl;exact HNG.out.1 e))
 have HT2:Hid (TchC own c w w2):=(Tch.below HBA.out).trans hT2 (fun _ _ h=>h) (fun k _ e=>by rw [e];exact HPW.out.own2)
 have hs2:w.heap.size<w2.heap.size:=HX2.out.lt
 have hppw:pp<w.heap.size:=HPW.out.blk.lt
 have hone:∀u∈m.cells,u.oneCell'=true:=by have:=zz5 [m];simpa [flat] using this
 obtain⟨i2,hi2,hy0,hy1,hy2⟩:=info_parts infoMs
 have HI2:Hid (Tryz.prog.info? 162=some i2∧i2.zero=some (.agg #[.int .i64 0, .int .i64 0, .int .i64 0, .string ⟨#[]⟩, .bool false])∧i2.size=5∧i2.bytes=48):=⟨hi2,hy0,hy1,hy2⟩
 clear hi2 hy0 hy1 hy2 hT2 c0
 have c1:w2.cell? ⟨pp,1,none⟩=some pv:=HK2.out.cell 1
 have x0:w2.cell? ⟨w.heap.size,0,none⟩=some (I m.k):=HX2.out.cell 0
 have x1:w2.cell? ⟨w.heap.size,1,none⟩=some (I m.f):=HX2.out.cell 1
 have x2:w2.cell? ⟨w.heap.size,2,none⟩=some (I m.t):=HX2.out.cell 2
 have x3:w2.cell? ⟨w.heap.size,3,none⟩=some (.string ⟨m.bs.toArray⟩):=HX2.out.cell 3
 have x4:w2.cell? ⟨w.heap.size,4,none⟩=some (.bool m.sp):=HX2.out.cell 4
 have cA2:(w2.alloc (.cells (msC m) 162)).cell? ⟨pp,1,none⟩=some pv:=(HK2.out.alloc _).cell 1
 go_wp2_with fail
 go_region_law ((refine step_append_lies _ (by rfl) _ _ _ (by rfl) 0 162 i2 (.agg #[.int .i64 0, .int .i64 0, .int .i64 0, .string ⟨#[]⟩, .bool false]) 5 48 Tryz.underlying117 HI2.out.1 HI2.out.2.1 HI2.out.2.2.1 HI2.out.2.2.2 (by rfl) (by omega) pv ms.length (flat Ms.cells ms) (by rfl) (by first | exact HR2.out.alloc _ | exact(HR2.out.alloc _).drew | exact(HR2.out.drew).alloc _) ⟨w2.heap.size,0,none⟩ 1 1 m.cells (by rfl) (by rfl) (by first | exact zas w2 _ _ | exact zb2 w2 _ _) hone (by omega) (by unfold maxLen;omega) (by omega) (by omega) (w2.heap.size+1) (by simp) ?_;intro g7 cap7 w7 hown7 hgrow7 hat7 hlt7;have HT7:Hid (Tch (fun k=>pv.ownBlock=some k) w2 w7):=(by first | exact((Tch.refl _ w2).drew.alloc _).then (Tch.grown hgrow7) | exact((Tch.refl _ w2).alloc _).then (Tch.grown hgrow7));have HO7:Hid (w7.ownsRow 0 162 5 (.slice (some ⟨g7,0,none⟩) (ms.length+1) cap7) (ms.length+1) (flat Ms.cells ms++m.cells)):=hown7;have HA7:Hid (pv.ownBlock=some g7∨g7=w2.heap.size+1):=hat7;have HK7:Hid (Blk w7 pp #[.chan (some ch),pv] 119):=HT7.out.blk HK2.out HNG.out.2;have c7:w7.cell? ⟨pp,1,none⟩=some pv:=HK7.out.cell 1;have z7:w7.frozen? ⟨pp,1,none⟩=false:=HK7.out.frozen 1;clear hown7 hgrow7 hat7 hlt7))
 all_goals
  (go_wp2_with fail
   have hpg:pp ≠ g7:=by
    rcases HA7.out with e | e
    ·intro e2;rw [←e2] at e;exact HNG.out.2 e
    ·omega
   have hcg:ch ≠ g7:=by
    rcases HA7.out with e | e
    ·intro e2;rw [←e2] at e;exact HNG.out.1 e
    ·have:=HPW.out.chlt;omega
   have HE:Hid (PoOk w own c pp ch (ms++ [m]) (w7.setCell ⟨pp,1,none⟩ (.slice (some ⟨g7,0,none⟩) (ms.length+1) cap7))):=by
    have hlen:(ms++ [m]).length=ms.length+1:=by simp
    have hTT:TchC own c w w7:=HT2.out.trans HT7.out (fun _ _ h=>h) (fun k hk e=>HPW.out.own3 k e)
    refine⟨newTo own w.heap.size c, .slice (some ⟨g7,0,none⟩) (ms++ [m]).length cap7,zaf _ _ _,⟨?_, ?_, ?_, ?_, ?_, ?_,by rw [hlen];omega⟩,hTT.setCell _ _ (Or.inl HPW.out.own1)⟩
    ·rw [hlen];exact HK7.out.set 1 _
    ·obtain⟨buf,s,r,hc,hb⟩:=HC2.out
     have hclt:ch<w2.heap.size:=(Array.getElem?_eq_some_iff.1 hc).1
     exact⟨buf,s,r,by rw [heap_setCell_other _ ⟨pp,1,none⟩ ch _ (by exact hne1.symm),HT7.out.block ch hclt HNG.out.1];exact hc,by rw [hb,hlen]⟩
    ·rw [hlen,zql]
     exact zah HO7.out (fun b e=>heap_setCell_other _ ⟨pp,1,none⟩ b _ (by cases e;exact hpg.symm))
    ·exact(zac _ _ _ _ HPW.out.blk.lt).trans HPW.out.own1
    ·exact(zac _ _ _ _ HPW.out.chlt).trans HPW.out.own2
    ·intro g e
     cases e
     rcases HA7.out with e | e
     ·exact(zac _ _ _ _ (HPW.out.row.lt _ e).2).trans (HPW.out.own3 _ e)
     ·exact zae _ _ _ _ (by show w.heap.size<=g7;omega)
   clear HK7 HO7 HT7
   go_wp2
   go_end0
   exact⟨rfl,HE.out⟩)
theorem PoIn.below{w w':World}{own:Clr}{c pp ch:Nat}{pv:Value}{ms:List Ms}(h:PoIn w own c pp ch pv ms)(hB:Below w.heap.size w w'):PoIn w' (newTo own w.heap.size 0) c pp ch pv ms:=h.keep (fun b hb _=>hB.block b hb) (zaf _ _ _)
theorem zar{w:World}{base:Nat}{e:TypeId}{s n:Nat}{v:Value}{xs:List Value}(h:w.ownsRow base e s v n xs):∃a c,v= .slice a n c:=by
 rcases h.2 with⟨rfl,rfl⟩ | ⟨g,cap,cur,rfl,_⟩
 ·exact⟨none,0,rfl⟩
 ·exact⟨_,_,rfl⟩
theorem zij{w:World}{base:Nat}{e:TypeId}{s n:Nat}{v:Value}{xs:List Value}(h:w.ownsRow base e s v n xs)(hn:0<n):∃g c,v= .slice (some ⟨g,0,none⟩) n c:=by
 rcases h.2 with⟨rfl,rfl⟩ | ⟨g,cap,cur,rfl,_⟩
 ·omega
 ·exact⟨_,_,rfl⟩
end Go.Proofs.YtfmcngncaffloaaGreatDoor
