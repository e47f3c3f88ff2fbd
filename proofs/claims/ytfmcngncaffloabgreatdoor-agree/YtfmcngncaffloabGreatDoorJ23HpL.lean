import Derived.Test.YtfmcngncaffloabGreatDoorJ22HpE
import Derived.Deep.AppendLies
set_option maxHeartbeats 1600000
namespace Go.Proofs.YtfmcngncaffloabGreatDoor
open Go.RowKit Go.Proofs.Tryz
set_option maxRecDepth 100000
def pushP{α:Type}(less:α->α->Bool)(bs:List α)(x:α):List α:=riseP less (bs++ [x]) bs.length
theorem zg0(l:List Bm)(x:Bm):flat Bm.cells (l++ [x])=flat Bm.cells l++x.cells:=by
 rw [za2];show _++(x.cells++ [])=_;rw [List.append_nil]
theorem zsu:(prog.info? 134).map (fun i=>(i.zero,i.size,i.bytes))=some (some (.agg #[.int .i64 0, .int .i64 0, .int .i64 0, .slice none 0 0, .slice none 0 0]),5,72):=by kernel_rfl
abbrev bmC (m:Bm):Array Value:= #[I m.b.o,I m.b.s,I m.b.t, .slice m.ca m.b.clock.length m.cc, .slice m.ea m.b.effs.length m.ec]
def HpOk(w:World)(hp:Nat)(v:Value)(bs:List Bm)(w':World):Prop:=∃v',HpIn w' hp v' bs∧Tch (fun k=>k=hp∨v.ownBlock=some k) w w'∧(∀b,v'.ownBlock=some b->v.ownBlock=some b∨w.heap.size<=b)
theorem zeu(hp:Nat)(v:Value)(bs:List Bm)(x:Bm)(w:World)(h:HpIn w hp v bs)(hl:bs.length<=1000000):
  Calls prog 138 #[.pointer (some ⟨hp,0,none⟩),bmV x] w fun e w'=>e= .returned (.tuple #[])∧HpOk w hp v (pushP lessM bs x) w':=by
 obtain⟨wA,hwA⟩:∃wA,wA=w.alloc (.cells (bmC x) 134):=⟨_,rfl⟩
 have HBA:Hid (Below w.heap.size w wA):=by rw [hwA];exact(Below.refl _ _).alloc (ac _) _
 have HP:Hid (HpIn wA hp v bs):=h.kept HBA.out;have HX:Hid (Blk wA w.heap.size (bmC x) 134):=by rw [hwA];exact heap_alloc_new w _
 have hpw:hp<w.heap.size:=h.blk.lt;have HVB:Hid (∀b,v.ownBlock=some b->b<w.heap.size):=fun b hb=>(h.row.lt b hb).2
 have c0:wA.cell? ⟨hp,0,none⟩=some v:=HP.out.blk.cell 0;have x0:wA.cell? ⟨w.heap.size,0,none⟩=some (I x.b.o):=HX.out.cell 0;have x1:wA.cell? ⟨w.heap.size,1,none⟩=some (I x.b.s):=HX.out.cell 1;have x2:wA.cell? ⟨w.heap.size,2,none⟩=some (I x.b.t):=HX.out.cell 2;have x3:wA.cell? ⟨w.heap.size,3,none⟩=some (.slice x.ca x.b.clock.length x.cc):=HX.out.cell 3;have x4:wA.cell? ⟨w.heap.size,4,none⟩=some (.slice x.ea x.b.effs.length x.ec):=HX.out.cell 4;have cA2:(wA.alloc (.cells (bmC x) 134)).cell? ⟨hp,0,none⟩=some v:=(HP.out.blk.alloc _).cell 0;obtain⟨i2,hi2,hy0,hy1,hy2⟩:=info_parts zsu;have HI2:Hid (prog.info? 134=some i2∧i2.zero=some (.agg #[.int .i64 0, .int .i64 0, .int .i64 0, .slice none 0 0, .slice none 0 0])∧i2.size=5∧i2.bytes=72):=⟨hi2,hy0,hy1,hy2⟩
 have HNE:Hid (¬v.ownBlock=some hp):=by
  rcases h.row.2 with⟨rfl,_⟩ | ⟨g,cap,cur,rfl,_⟩
  ·intro e;cases e
  ·intro e;exact h.ne (by simpa [Value.ownBlock] using e.symm)
 clear h hi2 hy0 hy1 hy2;have hone:∀u∈x.cells,u.oneCell'=true:=by have:=zty [x];simpa [flat] using this
 go_enter func138,ntmps138;go_wp2_with fail
 change Code.wp _ _ _ _ (w.alloc (.cells (bmC x) 134));rw [←hwA];clear hwA;go_region_law ((refine step_append_lies _ (by rfl) _ _ _ (by rfl) 0 134 i2 (.agg #[.int .i64 0, .int .i64 0, .int .i64 0, .slice none 0 0, .slice none 0 0]) 5 72 underlying147 HI2.out.1 HI2.out.2.1 HI2.out.2.2.1 HI2.out.2.2.2 (by rfl) (by omega) v bs.length (flat Bm.cells bs) (by rfl) (by first | exact HP.out.row.alloc _ | exact(HP.out.row.alloc _).drew | exact(HP.out.row.drew).alloc _) ⟨wA.heap.size,0,none⟩ 1 1 x.cells (by rfl) (by rfl) (by first | exact zcf wA _ _ | exact zdb wA _ _) hone (by omega) (by unfold maxLen;omega) (by omega) (by omega) (wA.heap.size+1) (by simp) ?_;intro g7 cap7 w7 hown7 hgrow7 hat7 hlt7;have HT7:Hid (Tch (fun k=>v.ownBlock=some k) wA w7):=(by first | exact((Tch.refl _ wA).drew.alloc _).then (Tch.grown hgrow7) | exact((Tch.refl _ wA).alloc _).then (Tch.grown hgrow7));have HO7:Hid (w7.ownsRow 0 134 5 (.slice (some ⟨g7,0,none⟩) (bs.length+1) cap7) (bs.length+1) (flat Bm.cells bs++x.cells)):=hown7;have HA7:Hid (v.ownBlock=some g7∨g7=wA.heap.size+1):=hat7;have HK7:Hid (Blk w7 hp #[v, .func (.func 78) #[] #[]] 188):=HT7.out.blk HP.out.blk HNE.out;have c7:w7.cell? ⟨hp,0,none⟩=some v:=HK7.out.cell 0;have z7:w7.frozen? ⟨hp,0,none⟩=false:=HK7.out.frozen 0;clear hown7 hgrow7 hat7 hlt7))
 all_goals
  (go_wp2_with fail
   have hsA:=HBA.out.size
   have hpg:hp ≠ g7:=by
    rcases HA7.out with e | e
    ·intro e2;rw [←e2] at e;exact HNE.out e
    ·omega
   have hlen:(bs++ [x]).length=bs.length+1:=by simp
   have HP8:Hid (HpIn (w7.setCell ⟨hp,0,none⟩ (.slice (some ⟨g7,0,none⟩) (bs.length+1) cap7)) hp (.slice (some ⟨g7,0,none⟩) (bs++ [x]).length cap7) (bs++ [x])):=by
    refine⟨?_, ?_⟩
    ·rw [hlen];exact HK7.out.set 0 _
    ·rw [hlen,zg0]
     exact zag HO7.out (fun b e=>heap_setCell_other _ ⟨hp,0,none⟩ b _ (by cases e;exact hpg.symm))
   have HT8:Hid (Tch (fun k=>k=hp∨v.ownBlock=some k) w (w7.setCell ⟨hp,0,none⟩ (.slice (some ⟨g7,0,none⟩) (bs.length+1) cap7))):=Tch.setCell ((Tch.below HBA.out).trans HT7.out (fun _ _ h=>h) (fun _ _ h=>Or.inr h)) _ _ (Or.inl (Or.inl rfl));have HG8:Hid (v.ownBlock=some g7∨w.heap.size<=g7):=HA7.out.imp id (fun e=>by omega);refine(zwv hp g7 cap7 bs.length (bs++ [x]) _ HP8.out (by omega) (by omega)).mono ?_;rintro e w9 ⟨rfl,hp9,hT9⟩
   have HE:Hid (HpOk w hp v (pushP lessM bs x) w9):=⟨_,by
    unfold pushP;rw [show(riseP lessM (bs++ [x]) bs.length)=riseP lessM (bs++ [x]) bs.length from rfl]
    exact hp9,HT8.out.trans hT9 (fun _ _ h=>h) (fun k hk h=>by
     subst h;rcases HG8.out with e | e
     ·exact Or.inr e
     ·omega),fun b e=>by cases e;exact HG8.out⟩
   clear hp9 hT9 HP8 HT8 HG8 hsA;go_wp2;go_end0
   exact⟨rfl,HE.out⟩)
theorem zp4(hp g cap:Nat)(w:World)(h:HpIn w hp (.slice (some ⟨g,0,none⟩) 0 cap) []):
  Calls prog 196 #[.pointer (some ⟨hp,0,none⟩),I 0] w fun e w'=>e= .returned (I 0)∧w'=w:=by
 have c0:w.cell? ⟨hp,0,none⟩=some (.slice (some ⟨g,0,none⟩) 0 cap):=h.blk.cell 0;clear h;go_enter func196,ntmps196;go_wp2_with fail
 go_loopw [5,6] (fun v5 v6 wr=>v5=I 0∧v6=I 1∧wr=w) (fun _ _ _=>0)
 case atStart=>exact⟨rfl,rfl,rfl⟩
 case round=>
  obtain⟨rfl,rfl,rfl⟩:=hrel;go_wp2;go_ret;exact⟨rfl,rfl⟩
theorem zsy(hp g cap:Nat)(w:World)(h:HpIn w hp (.slice (some ⟨g,0,none⟩) 0 cap) []):
  Calls prog 177 #[.pointer (some ⟨hp,0,none⟩),I 0] w fun e w'=>e= .returned (.tuple #[])∧w'=w:=by
 go_enter func177,ntmps177;go_wp2_with fail
 refine(zp4 hp g cap w h).mono ?_;rintro e w1 ⟨rfl,hw1⟩;rw [hw1];clear hw1 w1 h;go_wp2_with fail
 go_loopw [1,4] (fun v1 v4 wr=>v1=I 0∧v4=I 0∧wr=w) (fun _ _ _=>0)
 case atStart=>exact⟨rfl,rfl,rfl⟩
 case round=>
  obtain⟨rfl,rfl,rfl⟩:=hrel;go_wp2;go_end0;exact⟨rfl,rfl⟩
def popP{α:Type}(less:α->α->Bool)(bs:List α):Option (α×List α):=
 match bs with
 | []=>none
 | x::l=>some (x,sinkP less (((x::l).set 0 ((x::l)[l.length]'(by simp))).take l.length) 0)
abbrev zB:Array Value:= #[.int .i64 0, .int .i64 0, .int .i64 0, .slice none 0 0, .slice none 0 0]
abbrev twoZ (w:World):World:=(w.alloc (.cells #[.int .i64 0, .int .i64 0, .int .i64 0, .slice none 0 0, .slice none 0 0] 134)).alloc (.cells #[.int .i64 0, .int .i64 0, .int .i64 0, .slice none 0 0, .slice none 0 0] 134)
theorem zb4(w:World):Below w.heap.size w (twoZ w):=((Below.refl _ _).alloc (ac _) _).alloc (by simp) _
abbrev zeroB:Value:= .agg #[.int .i64 0, .int .i64 0, .int .i64 0, .slice none 0 0, .slice none 0 0]
theorem zwx(hp:Nat)(v:Value)(w:World)(h:HpIn w hp v []):
  Calls prog 137 #[.pointer (some ⟨hp,0,none⟩)] w fun e w'=>e= .returned (.tuple #[zeroB, .bool false])∧Below w.heap.size w w':=by
 obtain⟨a,c,rfl⟩:∃a c,v= .slice a 0 c:=by
  rcases h.row.2 with⟨rfl,_⟩ | ⟨g,cap,cur,rfl,_⟩
  ·exact⟨_,_,rfl⟩
  ·exact⟨_,_,rfl⟩
 have c0:(twoZ w).cell? ⟨hp,0,none⟩=some (.slice a 0 c):=(h.kept (zb4 w)).blk.cell 0;have HB:Hid (Below w.heap.size w (twoZ w)):=zb4 w;clear h;go_enter func137,ntmps137;go_wp2_with fail
 exact bodyPost_ret (v:= .tuple #[zeroB, .bool false]) (by simp [results,Tryz.results137,go_sem]) rfl ⟨rfl,HB.out⟩
def bmZ:Bm:=⟨⟨0,0,0, [], []⟩,none,none,0,0, []⟩
theorem zxa{α:Type}(f:α->List Value)(n:Nat)(hf:∀x,(f x).length=n)(l:List α)(k:Nat)(hk:k<=l.length):(flat f l).take (k*n)=flat f (l.take k):=by
 have h1:flat f l=flat f (l.take k)++flat f (l.drop k):=by rw [←za2,aH]
 have h2:(flat f (l.take k)).length=k*n:=by rw [zan f n hf,al,Nat.min_eq_left hk]
 rw [h1,←h2,List.take_left]
theorem zzf{w:World}{e:TypeId}{g n cap k s:Nat}{α:Type}(f:α->List Value)(hf:∀x,(f x).length=s){bs:List α}(hn:n=bs.length)(h:w.ownsRow 0 e s (.slice (some ⟨g,0,none⟩) n cap) n (flat f bs))(hk:k<=n):
  w.ownsRow 0 e s (.slice (some ⟨g,0,none⟩) k cap) k (flat f (bs.take k)):=by
 subst hn;rcases h.2 with⟨e1,_⟩ | ⟨g',cap',cur,e1,hb,hc,h3,h4,h5,h6⟩
 ·cases e1
 ·cases e1
  refine⟨by rw [zan f s hf,al,Nat.min_eq_left hk], .inr ⟨g,cap,cur,rfl,hb,hc,by omega,h4,h5, ?_⟩⟩;rw [←zxa f s hf bs k hk,←h6,List.take_take,Nat.min_eq_left (Nat.mul_le_mul_right _ hk)]
def PopOk(w:World)(hp g cap:Nat)(bs:List Bm)(w':World):Prop:=HpIn w' hp (.slice (some ⟨g,0,none⟩) bs.length cap) bs∧Tch (fun k=>k=hp∨k=g) w w'
theorem zuf{w wC:World}{hp g cap:Nat}{bs:List Bm}{k:Nat}(y:Bm)(hb:Below w.heap.size w wC)(h:HpIn wC hp (.slice (some ⟨g,0,none⟩) bs.length cap) bs)(hk:k<bs.length)(v:Value)(hv:v= .slice (some ⟨g,0,none⟩) k cap):
  PopOk w hp g cap ((bs.set 0 y).take k) (((put5b (put5b wC g 0 y) g (k*5) bmZ).drew).setCell ⟨hp,0,none⟩ v):=by
 subst hv;have hne:=h.ne;have hT:Tch (fun j=>j=g) wC (put5b (put5b wC g 0 y) g (k*5) bmZ).drew:=((zav wC g 0 y).then (zav _ g (k*5) bmZ)).drew;have hrow:(put5b (put5b wC g 0 y) g (k*5) bmZ).drew.ownsRow 0 134 5 (.slice (some ⟨g,0,none⟩) bs.length cap) bs.length (flat Bm.cells ((bs.set 0 y).set k bmZ)):=(zhi (zhi h.row 0 _) k _).drew;generalize (put5b (put5b wC g 0 y) g (k*5) bmZ).drew=W at *
 have ht:((bs.set 0 y).set k bmZ).take k=(bs.set 0 y).take k:=by
  rw [List.take_set_of_le (ac _)]
 have hl:((bs.set 0 y).take k).length=k:=by rw [al,aE];omega
 refine⟨⟨?_, ?_⟩, ?_⟩
 ·have:=(hT.blk h.blk hne).set 0 (.slice (some ⟨g,0,none⟩) k cap)
  rw [hl];exact this
 ·have h1:=zzf Bm.cells zcq (by simp) hrow (Nat.le_of_lt hk)
  rw [ht] at h1;rw [hl];exact zag h1 (fun b e=>heap_setCell_other _ ⟨hp,0,none⟩ b _ (by cases e;exact hne.symm))
 ·exact Tch.setCell ((Tch.below hb).trans hT (fun _ _ h=>h) (fun _ _ h=>Or.inr h)) _ _ (Or.inl (Or.inl rfl))
theorem zl5{α:Type}(less:α->α->Bool)(bs:List α)(i:Nat):(sinkP less bs i).length=bs.length:=by
 induction hn:bs.length - i using Nat.strongRecOn generalizing bs i with
 | _ n ih=>
  rw [sinkP];split
  ·rename_i h
   have h1:=zes less bs i;have h2:=zeq less bs i h.2;have h3:=h.1;rw [ih (bs.length - za5 less bs i) (by omega) (swapP bs i (za5 less bs i)) (za5 less bs i) (by rw [zbk]),zbk]
  ·rfl
theorem zh3{w:World}{R:Nat}(h:Blk w R #[.int .i64 0, .int .i64 0, .int .i64 0, .slice none 0 0, .slice none 0 0] 134)(m:Bm):Blk (put5b w R 0 m) R (bmC m) 134:=
 ((((h.set 0 _).set 1 _).set 2 _).set 3 _).set 4 _
theorem zww(hp g cap:Nat)(x y:Bm)(l:List Bm)(w:World)(h:HpIn w hp (.slice (some ⟨g,0,none⟩) (l.length+1) cap) (x::l))(hl:l.length<=1000000)(hpos:0<l.length)(hy:(x::l)[l.length]?=some y):
  Calls prog 137 #[.pointer (some ⟨hp,0,none⟩)] w fun e w'=>e= .returned (.tuple #[bmV x, .bool true])∧PopOk w hp g cap (sinkP lessM (((x::l).set 0 y).take l.length) 0) w':=by
 obtain⟨hyl,hye⟩:=af.1 hy;have HP:Hid (HpIn (twoZ w) hp (.slice (some ⟨g,0,none⟩) (l.length+1) cap) (x::l)):=h.kept (zb4 w);have c0:(twoZ w).cell? ⟨hp,0,none⟩=some (.slice (some ⟨g,0,none⟩) (l.length+1) cap):=HP.out.blk.cell 0;obtain⟨a0,a1,a2,a3,a4⟩:=zct HP.out.row 0 (by simp);simp only [List.getElem_cons_zero,Nat.zero_mul,aV] at a0 a1 a2 a3 a4;have hp0:¬(l.length:Int)<0:=by omega
 obtain⟨wC,hwC⟩:∃wC,wC=(twoZ w).alloc (.cells (bmC x) 134):=⟨_,rfl⟩
 have HBC:Hid (Below w.heap.size w wC):=by rw [hwC];exact(zb4 w).alloc (zb4 w).size _
 have HPC:Hid (HpIn wC hp (.slice (some ⟨g,0,none⟩) (l.length+1) cap) (x::l)):=h.kept HBC.out;have HR:Hid (Blk wC w.heap.size #[.int .i64 0, .int .i64 0, .int .i64 0, .slice none 0 0, .slice none 0 0] 134):=by rw [hwC];exact(Blk.alloc (heap_alloc_new w _) _).alloc _
 have HN:Hid (Blk wC (w.heap.size+1) #[.int .i64 0, .int .i64 0, .int .i64 0, .slice none 0 0, .slice none 0 0] 134):=by rw [hwC];exact(Blk.second w _ _ _).alloc _
 have HX:Hid (Blk wC (w.heap.size+1+1) (bmC x) 134):=by
  have e:(twoZ w).heap.size=w.heap.size+1+1:=by simp
  rw [hwC,←e];exact heap_alloc_new (twoZ w) _
 have hgw:g<w.heap.size:=(h.row.lt g rfl).2;have hpw:hp<w.heap.size:=h.blk.lt
 have hcap:l.length+1<=cap:=by
  rcases h.row.2 with⟨e1,_⟩ | ⟨g',cap',cur,e1,_,_,h3,_⟩
  ·cases e1
  ·cases e1;exact h3
 have hcap1:l.length<=cap:=by omega
 have hcap2:(l.length:Int)<=(cap:Int):=by omega
 clear h HP hcap;go_enter func137,ntmps137;go_wp2_with fail
 change Code.wp _ _ _ _ ((twoZ w).alloc (.cells (bmC x) 134));rw [←hwC];clear hwC c0 a0 a1 a2 a3 a4;have c0:wC.cell? ⟨hp,0,none⟩=some (.slice (some ⟨g,0,none⟩) (l.length+1) cap):=HPC.out.blk.cell 0;obtain⟨a0,a1,a2,a3,a4⟩:=zct HPC.out.row 0 (by simp);simp only [List.getElem_cons_zero,Nat.zero_mul,aV] at a0 a1 a2 a3 a4;obtain⟨b0,b1,b2,b3,b4⟩:=zct HPC.out.row l.length hyl;rw [hye] at b0 b1 b2 b3 b4;have n0:wC.cell? ⟨w.heap.size+1,0,none⟩=some (.int .i64 0):=HN.out.cell 0;have n1:wC.cell? ⟨w.heap.size+1,1,none⟩=some (.int .i64 0):=HN.out.cell 1;have n2:wC.cell? ⟨w.heap.size+1,2,none⟩=some (.int .i64 0):=HN.out.cell 2;have n3:wC.cell? ⟨w.heap.size+1,3,none⟩=some (.slice none 0 0):=HN.out.cell 3;have n4:wC.cell? ⟨w.heap.size+1,4,none⟩=some (.slice none 0 0):=HN.out.cell 4;have HF:Hid (∀k,wC.frozen? ⟨g,k,none⟩=false):=fun k=>zka HPC.out.row k
 have f0:=HF.out 0;have f1:=HF.out 1;have f2:=HF.out 2;have f3:=HF.out 3;have f4:=HF.out 4;have g0:=HF.out (l.length*5);have g1:=HF.out (l.length*5+1);have g2:=HF.out (l.length*5+2);have g3:=HF.out (l.length*5+3);have g4:=HF.out (l.length*5+4);have hne:l.length*5 ≠ 0:=by omega
 clear hy hye hyl;go_region
 obtain⟨wD,hwD⟩:∃wD,wD=(put5b (put5b wC g 0 y) g (l.length*5) bmZ).drew:=⟨_,rfl⟩
 change Exit.then _ _ Exit.normal _ (put5b (put5b wC g 0 y) g (l.length*5) bmZ).drew
 have HPO:Hid (PopOk w hp g cap (((x::l).set 0 y).take l.length) (wD.setCell ⟨hp,0,none⟩ (.slice (some ⟨g,0,none⟩) l.length cap))):=by
  show PopOk _ _ _ _ _ _;rw [hwD];exact zuf y HBC.out HPC.out (by simp) _ rfl
 have HTD:Hid (Tch (fun j=>j=g) wC wD):=by
  show Tch _ _ _;rw [hwD];exact((zav wC g 0 y).then (zav _ g (l.length*5) bmZ)).drew
 rw [←hwD];clear hwD;have HKD:Hid (Blk wD hp #[.slice (some ⟨g,0,none⟩) (l.length+1) cap, .func (.func 78) #[] #[]] 188):=HTD.out.blk HPC.out.blk HPC.out.ne;have HRD:Hid (Blk wD w.heap.size #[.int .i64 0, .int .i64 0, .int .i64 0, .slice none 0 0, .slice none 0 0] 134):=HTD.out.blk HR.out (by omega);have HXD:Hid (Blk wD (w.heap.size+1+1) (bmC x) 134):=HTD.out.blk HX.out (by omega);have hsz:w.heap.size+1+1<wD.heap.size:=HXD.out.lt;clear HTD HPC HR HN HX c0 a0 a1 a2 a3 a4 b0 b1 b2 b3 b4 n0 n1 n2 n3 n4 HF f0 f1 f2 f3 f4 g0 g1 g2 g3 g4;have d0:wD.cell? ⟨hp,0,none⟩=some (.slice (some ⟨g,0,none⟩) (l.length+1) cap):=HKD.out.cell 0;have z0:wD.frozen? ⟨hp,0,none⟩=false:=HKD.out.frozen 0;go_wp2_with fail
 have HLL:Hid ((((x::l).set 0 y).take l.length).length=l.length):=by show _=_;rw [al,aE,aJ];omega
 obtain⟨wE,hwE⟩:∃wE,wE=wD.setCell ⟨hp,0,none⟩ (.slice (some ⟨g,0,none⟩) l.length cap):=⟨_,rfl⟩
 have HRE:Hid (Blk wE w.heap.size #[.int .i64 0, .int .i64 0, .int .i64 0, .slice none 0 0, .slice none 0 0] 134):=by rw [hwE];exact HRD.out.other (by show w.heap.size ≠ hp;omega) _
 have HXE:Hid (Blk wE (w.heap.size+1+1) (bmC x) 134):=by rw [hwE];exact HXD.out.other (by show w.heap.size+1+1 ≠ hp;omega) _
 rw [←hwE] at HPO ⊢;clear hwE HRD HXD HKD d0 z0 hsz;obtain⟨LL,HLQ⟩:∃LL,Hid (((x::l).set 0 y).take l.length=LL):=⟨_,rfl⟩
 rw [HLQ.out] at HPO HLL;refine(zwu hp g cap 0 LL wE HPO.out.1 (by rw [HLL.out];omega) (by rw [HLL.out];omega)).mono ?_;rintro e w3 ⟨rfl,hp3,hT3⟩;have HP3:Hid (HpIn w3 hp (.slice (some ⟨g,0,none⟩) (sinkP lessM LL 0).length cap) (sinkP lessM LL 0)):=by show HpIn _ _ _ _;rw [zl5];exact hp3
 have HT3:Hid (Tch (fun k=>k=hp∨k=g) w w3):=HPO.out.2.trans hT3 (fun _ _ h=>h) (fun _ _ h=>Or.inr h);have HR3:Hid (Blk w3 w.heap.size #[.int .i64 0, .int .i64 0, .int .i64 0, .slice none 0 0, .slice none 0 0] 134):=hT3.blk HRE.out (by omega);have HX3:Hid (Blk w3 (w.heap.size+1+1) (bmC x) 134):=hT3.blk HXE.out (by omega);clear hp3 hT3 HRE HXE HPO HLL;have x0:w3.cell? ⟨w.heap.size+1+1,0,none⟩=some (I x.b.o):=HX3.out.cell 0;have x1:w3.cell? ⟨w.heap.size+1+1,1,none⟩=some (I x.b.s):=HX3.out.cell 1;have x2:w3.cell? ⟨w.heap.size+1+1,2,none⟩=some (I x.b.t):=HX3.out.cell 2;have x3:w3.cell? ⟨w.heap.size+1+1,3,none⟩=some (.slice x.ca x.b.clock.length x.cc):=HX3.out.cell 3;have x4:w3.cell? ⟨w.heap.size+1+1,4,none⟩=some (.slice x.ea x.b.effs.length x.ec):=HX3.out.cell 4;have r0:w3.cell? ⟨w.heap.size,0,none⟩=some (.int .i64 0):=HR3.out.cell 0;have r1:w3.cell? ⟨w.heap.size,1,none⟩=some (.int .i64 0):=HR3.out.cell 1;have r2:w3.cell? ⟨w.heap.size,2,none⟩=some (.int .i64 0):=HR3.out.cell 2;have r3:w3.cell? ⟨w.heap.size,3,none⟩=some (.slice none 0 0):=HR3.out.cell 3;have r4:w3.cell? ⟨w.heap.size,4,none⟩=some (.slice none 0 0):=HR3.out.cell 4;have z0:=HR3.out.frozen 0;have z1:=HR3.out.frozen 1;have z2:=HR3.out.frozen 2;have z3:=HR3.out.frozen 3;have z4:=HR3.out.frozen 4;go_wp2_with fail
 change bodyPost _ _ _ Exit.ret _ (put5b w3 w.heap.size 0 x);have HF:Hid (Blk (put5b w3 w.heap.size 0 x) w.heap.size (bmC x) 134):=zh3 HR3.out x;have HTF:Hid (Tch (fun k=>k=hp∨k=g) w (put5b w3 w.heap.size 0 x)):=HT3.out.trans (zav w3 w.heap.size 0 x) (fun _ _ h=>h) (fun k hk h=>by omega);have HPF:Hid (HpIn (put5b w3 w.heap.size 0 x) hp (.slice (some ⟨g,0,none⟩) (sinkP lessM LL 0).length cap) (sinkP lessM LL 0)):=⟨(zav w3 w.heap.size 0 x).blk HP3.out.blk (by show¬hp=w.heap.size;omega),zag HP3.out.row (fun b e=>zix (by rw [←(by simpa [Value.ownBlock] using e:g=b)];omega))⟩
 clear HP3 HT3 HR3 HX3 x0 x1 x2 x3 x4 r0 r1 r2 r3 r4 z0 z1 z2 z3 z4;generalize put5b w3 w.heap.size 0 x=wF at *
 have f0:wF.cell? ⟨w.heap.size,0,none⟩=some (I x.b.o):=HF.out.cell 0;have f1:wF.cell? ⟨w.heap.size,1,none⟩=some (I x.b.s):=HF.out.cell 1;have f2:wF.cell? ⟨w.heap.size,2,none⟩=some (I x.b.t):=HF.out.cell 2;have f3:wF.cell? ⟨w.heap.size,3,none⟩=some (.slice x.ca x.b.clock.length x.cc):=HF.out.cell 3;have f4:wF.cell? ⟨w.heap.size,4,none⟩=some (.slice x.ea x.b.effs.length x.ec):=HF.out.cell 4;refine bodyPost_ret (v:= .tuple #[bmV x, .bool true]) (by simp [results,Tryz.results137,go_sem,f0,f1,f2,f3,f4]) rfl ⟨rfl, ?_⟩;rw [HLQ.out];exact⟨HPF.out,HTF.out⟩
theorem hpop_one(hp g cap:Nat)(x:Bm)(w:World)(h:HpIn w hp (.slice (some ⟨g,0,none⟩) 1 cap) [x]):
  Calls prog 137 #[.pointer (some ⟨hp,0,none⟩)] w fun e w'=>e= .returned (.tuple #[bmV x, .bool true])∧PopOk w hp g cap [] w':=by
 have HP:Hid (HpIn (twoZ w) hp (.slice (some ⟨g,0,none⟩) 1 cap) [x]):=h.kept (zb4 w);have c0:(twoZ w).cell? ⟨hp,0,none⟩=some (.slice (some ⟨g,0,none⟩) 1 cap):=HP.out.blk.cell 0;obtain⟨a0,a1,a2,a3,a4⟩:=zct HP.out.row 0 (by simp);simp only [List.getElem_cons_zero,Nat.zero_mul,aV] at a0 a1 a2 a3 a4;obtain⟨wC,hwC⟩:∃wC,wC=(twoZ w).alloc (.cells (bmC x) 134):=⟨_,rfl⟩
 have HBC:Hid (Below w.heap.size w wC):=by rw [hwC];exact(zb4 w).alloc (zb4 w).size _
 have HPC:Hid (HpIn wC hp (.slice (some ⟨g,0,none⟩) 1 cap) [x]):=h.kept HBC.out;have HR:Hid (Blk wC w.heap.size #[.int .i64 0, .int .i64 0, .int .i64 0, .slice none 0 0, .slice none 0 0] 134):=by rw [hwC];exact(Blk.alloc (heap_alloc_new w _) _).alloc _
 have HN:Hid (Blk wC (w.heap.size+1) #[.int .i64 0, .int .i64 0, .int .i64 0, .slice none 0 0, .slice none 0 0] 134):=by rw [hwC];exact(Blk.second w _ _ _).alloc _
 have HX:Hid (Blk wC (w.heap.size+1+1) (bmC x) 134):=by
  have e:(twoZ w).heap.size=w.heap.size+1+1:=by simp
  rw [hwC,←e];exact heap_alloc_new (twoZ w) _
 have hgw:g<w.heap.size:=(h.row.lt g rfl).2;have hpw:hp<w.heap.size:=h.blk.lt
 have hcap:1<=cap:=by
  rcases h.row.2 with⟨e1,_⟩ | ⟨g',cap',cur,e1,_,_,h3,_⟩
  ·cases e1
  ·cases e1;exact h3
 clear h HP;go_enter func137,ntmps137;go_wp2_with fail
 change Code.wp _ _ _ _ ((twoZ w).alloc (.cells (bmC x) 134));rw [←hwC];clear hwC c0 a0 a1 a2 a3 a4;have c0:wC.cell? ⟨hp,0,none⟩=some (.slice (some ⟨g,0,none⟩) 1 cap):=HPC.out.blk.cell 0;obtain⟨a0,a1,a2,a3,a4⟩:=zct HPC.out.row 0 (by simp);simp only [List.getElem_cons_zero,Nat.zero_mul,aV] at a0 a1 a2 a3 a4;have n0:wC.cell? ⟨w.heap.size+1,0,none⟩=some (.int .i64 0):=HN.out.cell 0;have n1:wC.cell? ⟨w.heap.size+1,1,none⟩=some (.int .i64 0):=HN.out.cell 1;have n2:wC.cell? ⟨w.heap.size+1,2,none⟩=some (.int .i64 0):=HN.out.cell 2;have n3:wC.cell? ⟨w.heap.size+1,3,none⟩=some (.slice none 0 0):=HN.out.cell 3;have n4:wC.cell? ⟨w.heap.size+1,4,none⟩=some (.slice none 0 0):=HN.out.cell 4;have HF:Hid (∀k,wC.frozen? ⟨g,k,none⟩=false):=fun k=>zka HPC.out.row k
 have f0:=HF.out 0;have f1:=HF.out 1;have f2:=HF.out 2;have f3:=HF.out 3;have f4:=HF.out 4;go_region
 obtain⟨wD,hwD⟩:∃wD,wD=(put5b (put5b wC g 0 x) g 0 bmZ).drew:=⟨_,rfl⟩
 change Exit.then _ _ Exit.normal _ (put5b (put5b wC g 0 x) g 0 bmZ).drew
 have HPO:Hid (PopOk w hp g cap (([]:List Bm)) (wD.setCell ⟨hp,0,none⟩ (.slice (some ⟨g,0,none⟩) 0 cap))):=by
  show PopOk _ _ _ _ _ _;rw [hwD];exact zuf (bs:= [x]) (k:=0) x HBC.out HPC.out (by simp) _ rfl
 have HTD:Hid (Tch (fun j=>j=g) wC wD):=by
  show Tch _ _ _;rw [hwD];exact((zav wC g 0 x).then (zav _ g 0 bmZ)).drew
 rw [←hwD];clear hwD;have HKD:Hid (Blk wD hp #[.slice (some ⟨g,0,none⟩) 1 cap, .func (.func 78) #[] #[]] 188):=HTD.out.blk HPC.out.blk HPC.out.ne;have HRD:Hid (Blk wD w.heap.size #[.int .i64 0, .int .i64 0, .int .i64 0, .slice none 0 0, .slice none 0 0] 134):=HTD.out.blk HR.out (by omega);have HXD:Hid (Blk wD (w.heap.size+1+1) (bmC x) 134):=HTD.out.blk HX.out (by omega);have hsz:w.heap.size+1+1<wD.heap.size:=HXD.out.lt;clear HTD HPC HR HN HX c0 a0 a1 a2 a3 a4 n0 n1 n2 n3 n4 HF f0 f1 f2 f3 f4;have d0:wD.cell? ⟨hp,0,none⟩=some (.slice (some ⟨g,0,none⟩) 1 cap):=HKD.out.cell 0;have z0:wD.frozen? ⟨hp,0,none⟩=false:=HKD.out.frozen 0;go_wp2_with fail
 obtain⟨wE,hwE⟩:∃wE,wE=wD.setCell ⟨hp,0,none⟩ (.slice (some ⟨g,0,none⟩) 0 cap):=⟨_,rfl⟩
 have HRE:Hid (Blk wE w.heap.size #[.int .i64 0, .int .i64 0, .int .i64 0, .slice none 0 0, .slice none 0 0] 134):=by rw [hwE];exact HRD.out.other (by show w.heap.size ≠ hp;omega) _
 have HXE:Hid (Blk wE (w.heap.size+1+1) (bmC x) 134):=by rw [hwE];exact HXD.out.other (by show w.heap.size+1+1 ≠ hp;omega) _
 rw [←hwE] at HPO ⊢;clear hwE HRD HXD HKD d0 z0 hsz;refine(zsy hp g cap wE HPO.out.1).mono ?_;rintro e w3 ⟨rfl,hw3⟩;have HP3:Hid (HpIn w3 hp (.slice (some ⟨g,0,none⟩) 0 cap) []):=by rw [hw3];exact HPO.out.1
 have HT3:Hid (Tch (fun k=>k=hp∨k=g) w w3):=by rw [hw3];exact HPO.out.2
 have HR3:Hid (Blk w3 w.heap.size #[.int .i64 0, .int .i64 0, .int .i64 0, .slice none 0 0, .slice none 0 0] 134):=by rw [hw3];exact HRE.out
 have HX3:Hid (Blk w3 (w.heap.size+1+1) (bmC x) 134):=by rw [hw3];exact HXE.out
 clear hw3 HRE HXE HPO;have x0:w3.cell? ⟨w.heap.size+1+1,0,none⟩=some (I x.b.o):=HX3.out.cell 0;have x1:w3.cell? ⟨w.heap.size+1+1,1,none⟩=some (I x.b.s):=HX3.out.cell 1;have x2:w3.cell? ⟨w.heap.size+1+1,2,none⟩=some (I x.b.t):=HX3.out.cell 2;have x3:w3.cell? ⟨w.heap.size+1+1,3,none⟩=some (.slice x.ca x.b.clock.length x.cc):=HX3.out.cell 3;have x4:w3.cell? ⟨w.heap.size+1+1,4,none⟩=some (.slice x.ea x.b.effs.length x.ec):=HX3.out.cell 4;have r0:w3.cell? ⟨w.heap.size,0,none⟩=some (.int .i64 0):=HR3.out.cell 0;have r1:w3.cell? ⟨w.heap.size,1,none⟩=some (.int .i64 0):=HR3.out.cell 1;have r2:w3.cell? ⟨w.heap.size,2,none⟩=some (.int .i64 0):=HR3.out.cell 2;have r3:w3.cell? ⟨w.heap.size,3,none⟩=some (.slice none 0 0):=HR3.out.cell 3;have r4:w3.cell? ⟨w.heap.size,4,none⟩=some (.slice none 0 0):=HR3.out.cell 4;have z0:=HR3.out.frozen 0;have z1:=HR3.out.frozen 1;have z2:=HR3.out.frozen 2;have z3:=HR3.out.frozen 3;have z4:=HR3.out.frozen 4;go_wp2_with fail
 change bodyPost _ _ _ Exit.ret _ (put5b w3 w.heap.size 0 x);have HF:Hid (Blk (put5b w3 w.heap.size 0 x) w.heap.size (bmC x) 134):=zh3 HR3.out x;have HTF:Hid (Tch (fun k=>k=hp∨k=g) w (put5b w3 w.heap.size 0 x)):=HT3.out.trans (zav w3 w.heap.size 0 x) (fun _ _ h=>h) (fun k hk h=>by omega);have HPF:Hid (HpIn (put5b w3 w.heap.size 0 x) hp (.slice (some ⟨g,0,none⟩) 0 cap) []):=⟨(zav w3 w.heap.size 0 x).blk HP3.out.blk (by show¬hp=w.heap.size;omega),zag HP3.out.row (fun b e=>zix (by rw [←(by simpa [Value.ownBlock] using e:g=b)];omega))⟩
 clear HP3 HT3 HR3 HX3 x0 x1 x2 x3 x4 r0 r1 r2 r3 r4 z0 z1 z2 z3 z4;generalize put5b w3 w.heap.size 0 x=wF at *
 have f0:wF.cell? ⟨w.heap.size,0,none⟩=some (I x.b.o):=HF.out.cell 0;have f1:wF.cell? ⟨w.heap.size,1,none⟩=some (I x.b.s):=HF.out.cell 1;have f2:wF.cell? ⟨w.heap.size,2,none⟩=some (I x.b.t):=HF.out.cell 2;have f3:wF.cell? ⟨w.heap.size,3,none⟩=some (.slice x.ca x.b.clock.length x.cc):=HF.out.cell 3;have f4:wF.cell? ⟨w.heap.size,4,none⟩=some (.slice x.ea x.b.effs.length x.ec):=HF.out.cell 4;refine bodyPost_ret (v:= .tuple #[bmV x, .bool true]) (by simp [results,Tryz.results137,go_sem,f0,f1,f2,f3,f4]) rfl ⟨rfl, ?_⟩;exact⟨HPF.out,HTF.out⟩
def zuz(w:World)(hp:Nat)(v:Value)(r:Option (Bm×List Bm))(bs:List Bm)(e:Ending)(w':World):Prop:=
 match r with
 | none=>e= .returned (.tuple #[zeroB, .bool false])∧HpIn w' hp v bs∧Below w.heap.size w w'
 | some (x,l)=>e= .returned (.tuple #[bmV x, .bool true])∧HpIn w' hp (match v with | .slice a _ c=> .slice a l.length c | v=>v) l∧Tch (fun k=>k=hp∨v.ownBlock=some k) w w'
theorem hpop_any(hp:Nat)(v:Value)(bs:List Bm)(w:World)(h:HpIn w hp v bs)(hl:bs.length<=1000000):
  Calls prog 137 #[.pointer (some ⟨hp,0,none⟩)] w fun e w'=>zuz w hp v (popP lessM bs) bs e w':=by
 cases bs with
 | nil=>
  refine(zwx hp v w h).mono ?_;rintro e w' ⟨rfl,hb⟩;exact⟨rfl,h.kept hb,hb⟩
 | cons x l=>
  rcases h.row.2 with⟨_,hz⟩ | ⟨g,cap,cur,rfl,_⟩
  ·simp at hz
  ·have hpo:∀(l':List Bm) (w':World),PopOk w hp g cap l' w'->HpIn w' hp (.slice (some ⟨g,0,none⟩) l'.length cap) l'∧Tch (fun k=>k=hp∨(Value.slice (some ⟨g,0,none⟩) (x::l).length cap).ownBlock=some k) w w':=fun l' w' h=>⟨h.1,h.2.mono (fun k _ hk=>hk.imp id (fun e=>by rw [e];rfl))⟩
   by_cases hpos:0<l.length
   ·have hy:(x::l)[l.length]?=some ((x::l)[l.length]'(by simp)):=ag _
    refine(zww hp g cap x _ l w h (by simp at hl;omega) hpos hy).mono ?_;rintro e w' ⟨rfl,ho⟩;exact⟨rfl,hpo _ _ ho⟩
   ·obtain rfl:l= []:=aw (by omega)
    refine(hpop_one hp g cap x w h).mono ?_;rintro e w' ⟨rfl,ho⟩
    have he:popP lessM [x]=some (x, []):=by
     unfold popP;simp only [List.length_nil,List.take_zero];rw [sinkP,dif_neg (by simp)]
    rw [he];exact⟨rfl,hpo _ _ ho⟩
theorem zza{α:Type}(less:α->α->Bool)(bs l:List α)(x:α)(h:popP less bs=some (x,l)):l.length+1=bs.length:=by
 cases bs with
 | nil=>cases h
 | cons y m=>
  unfold popP at h;simp only [Option.some.injEq,Prod.mk.injEq] at h;rw [←h.2,zl5,al,aE,aJ];omega
theorem zkp(hp:Nat)(v:Value)(bs:List Bm)(w:World)(h:HpIn w hp v bs):
  Calls prog 103 #[.pointer (some ⟨hp,0,none⟩)] w fun e w'=>e= .returned (I bs.length)∧w'=w:=by
 obtain⟨a,c,rfl⟩:∃a c,v= .slice a bs.length c:=by
  rcases h.row.2 with⟨rfl,hz⟩ | ⟨g,cap,cur,rfl,_⟩
  ·exact⟨_,_,by rw [hz]⟩
  ·exact⟨_,_,rfl⟩
 have c0:w.cell? ⟨hp,0,none⟩=some (.slice a bs.length c):=h.blk.cell 0;clear h;go_enter func103,ntmps103;go_wp2;go_ret;exact⟨rfl,rfl⟩
def likeB(b o:Wv.Bt):Bool:=(o.o==b.o) && (o.s==b.s)
theorem zki(x:Bm)(w:World):
  Calls prog 100 #[bmV x] w fun e w'=>e= .returned (.func (.func 139) #[] #[.pointer (some ⟨w.heap.size,0,none⟩)])∧w'=w.alloc (.cells (bmC x) 134):=by
 go_enter func100,ntmps100;go_wp2;go_ret;exact⟨rfl,rfl⟩
theorem zmg(x y:Bm)(gb:Nat)(w:World)(h:Blk w gb (bmC y) 134):
  Calls prog 139 #[bmV x, .pointer (some ⟨gb,0,none⟩)] w fun e w'=>e= .returned (.bool (likeB y.b x.b))∧Below w.heap.size w w':=by
 have HB:Hid (Blk (w.alloc (.cells (bmC x) 134)) gb (bmC y) 134):=h.alloc _;have c0:(w.alloc (.cells (bmC x) 134)).cell? ⟨gb,0,none⟩=some (I y.b.o):=HB.out.cell 0;have c1:(w.alloc (.cells (bmC x) 134)).cell? ⟨gb,1,none⟩=some (I y.b.s):=HB.out.cell 1;clear h;have HE:Hid (Below w.heap.size w (w.alloc (.cells (bmC x) 134))):=(Below.refl _ _).alloc (ac _) _;clear HB;unfold bmC at c0 c1;have HL:Hid (likeB y.b x.b=((x.b.o==y.b.o) && (x.b.s==y.b.s))):=rfl;obtain⟨q,hq⟩:∃q,q=(x.b.o==y.b.o):=⟨_,rfl⟩
 rw [←hq] at HL;go_enter func139,ntmps139;cases q
 ·have hq2:(x.b.o==y.b.o)=false:=hq.symm
  clear hq;go_wp2;go_ret;exact⟨by rw [HL.out];rfl,HE.out⟩
 ·have hq2:(x.b.o==y.b.o)=true:=hq.symm
  clear hq;go_wp2;go_ret;exact⟨by rw [HL.out];rfl,HE.out⟩
def za1{α:Type}(less:α->α->Bool)(f:α->Bool):Nat->List α->List α->Option α×List α×List α
 | 0,bs,os=>(none,bs,os)
 | n+1,bs,os=>match popP less bs with
  | none=>(none,bs,os)
  | some (x,l)=>if f x then(some x,l,os) else za1 less f n l (os++ [x])
def takeP{α:Type}(less:α->α->Bool)(f:α->Bool)(bs:List α):Option α×List α:=
 let r:=za1 less f (bs.length+1) bs []
 (r.1,r.2.2.foldl (pushP less) r.2.1)
def TakeHp(w:World)(hp:Nat)(v:Value)(r:Option Bm×List Bm)(e:Ending)(w':World):Prop:=e= .returned (.tuple #[bmV (r.1.getD bmZ), .bool r.1.isSome])∧HpOk w hp v r.2 w'
def popR{α:Type}(less:α->α->Bool)(bs:List α):Option α×List α:=match popP less bs with | none=>(none,bs) | some (x,l)=>(some x,l)
theorem zn0(hp:Nat)(v:Value)(bs:List Bm)(w:World)(h:HpIn w hp v bs)(hl:bs.length<=1000000):
  Calls prog 137 #[.pointer (some ⟨hp,0,none⟩)] w fun e w'=>e= .returned (.tuple #[bmV ((popR lessM bs).1.getD bmZ), .bool (popR lessM bs).1.isSome])∧∃v',HpIn w' hp v' (popR lessM bs).2∧Tch (fun k=>k=hp∨v.ownBlock=some k) w w'∧v'.ownBlock=v.ownBlock:=by
 refine(hpop_any hp v bs w h hl).mono ?_;intro e w' hh;unfold zuz at hh;unfold popR;cases hq:popP lessM bs with
 | none=>
  rw [hq] at hh;obtain⟨rfl,h1,h2⟩:=hh;exact⟨rfl,v,h1,Tch.below h2,rfl⟩
 | some p=>
  obtain⟨x,l⟩:=p;rw [hq] at hh;obtain⟨rfl,h1,h2⟩:=hh;refine⟨rfl,_,h1,h2, ?_⟩;rcases h.row.2 with⟨rfl,_⟩ | ⟨g,cap,cur,rfl,_⟩<;>rfl
theorem zfn{α:Type}(less:α->α->Bool)(bs:List α):(popR less bs).2.length+(popR less bs).1.toList.length<=bs.length:=by
 unfold popR;cases hq:popP less bs with
 | none=>simp
 | some p=>have:=zza less bs p.2 p.1 (by rw [hq]);simp;omega
def backP{α:Type}(less:α->α->Bool)(q:Option α×List α×List α):Option α×List α:=(q.1,q.2.2.foldl (pushP less) q.2.1)
def finP{α:Type}(less:α->α->Bool)(f:α->Bool)(n:Nat)(r:Option α)(l os:List α):Option α×List α:=
 match r with
 | none=>backP less (none,l,os)
 | some x=>if f x then backP less (some x,l,os) else backP less (za1 less f n l (os++ [x]))
theorem zn5{α:Type}(less:α->α->Bool)(f:α->Bool)(n:Nat)(l os:List α):backP less (za1 less f (n+1) l os)=finP less f n (popR less l).1 (popR less l).2 os:=by
 unfold finP popR;rw [za1];cases hq:popP less l with
 | none=>rfl
 | some p=>
  obtain⟨x,m⟩:=p;simp only;split<;>rfl
theorem zow{α:Type}(less:α->α->Bool)(f:α->Bool)(bs:List α):takeP less f bs=finP less f bs.length (popR less bs).1 (popR less bs).2 []:=by
 rw [←zn5];rfl
structure Tk1(w wr:World)(hp:Nat)(v v':Value)(ib:Nat)(ov:Value)(it:Bm)(l os:List Bm):Prop where
 hpx:HpIn wr hp v' l
 old:∀b,v'.ownBlock=some b->v.ownBlock=some b∨w.heap.size<=b
 far:v'.ownBlock ≠ some ib∧v'.ownBlock ≠ some w.heap.size∧∀b,ov.ownBlock=some b->v'.ownBlock ≠ some b
 row:wr.ownsRow w.heap.size 134 5 ov os.length (flat Bm.cells os)
 item:Blk wr ib (bmC it) 134
 ans:Blk wr w.heap.size zB 134
 tch:Tch (fun k=>k=hp∨v.ownBlock=some k) w wr
 apart:ov.ownBlock ≠ some ib∧ov.ownBlock ≠ some w.heap.size
 lt:w.heap.size<ib
 lth:hp<w.heap.size
theorem Tk1.step{w wr w2:World}{hp:Nat}{v v' v2:Value}{ib:Nat}{ov:Value}{it:Bm}{l l2 os:List Bm}(h:Tk1 w wr hp v v' ib ov it l os)(hp2:HpIn w2 hp v2 l2)(hT:Tch (fun k=>k=hp∨v'.ownBlock=some k) wr w2)(hv:∀b,v2.ownBlock=some b->v'.ownBlock=some b∨wr.heap.size<=b):
  Tk1 w w2 hp v v2 ib ov it l2 os:=by
 have hs:=h.tch.size;have hib:=h.item.lt;have han:=h.ans.lt;have hov:∀b,ov.ownBlock=some b->w.heap.size<=b∧b<wr.heap.size:=fun b e=>h.row.lt b e
 refine⟨hp2,fun b e=> ?_,⟨fun e=> ?_,fun e=> ?_,fun b eo e=> ?_⟩,zag h.row (fun b e=>hT.block b (hov b e).2 ?_),hT.blk h.item ?_,hT.blk h.ans ?_,h.tch.trans hT (fun _ _ h=>h) (fun k hk hh=> ?_),h.apart,h.lt,h.lth⟩
 ·rcases hv b e with h1 | h1
  ·exact h.old b h1
  ·right;omega
 ·rcases hv _ e with h1 | h1
  ·exact h.far.1 h1
  ·omega
 ·rcases hv _ e with h1 | h1
  ·exact h.far.2.1 h1
  ·omega
 ·rcases hv _ e with h1 | h1
  ·exact h.far.2.2 b eo h1
  ·have:=(hov b eo).2;omega
 ·rintro(h1 | h1)
  ·have:=(hov b e).1;have:=h.lth;omega
  ·exact h.far.2.2 b e h1
 ·rintro(h1 | h1)
  ·have:=h.lt;have:=h.lth;omega
  ·exact h.far.1 h1
 ·rintro(h1 | h1)
  ·have:=h.lth;omega
  ·exact h.far.2.1 h1
 ·rcases hh with h1 | h1
  ·exact Or.inl h1
  ·rcases h.old _ h1 with h2 | h2
   ·exact Or.inr h2
   ·omega
theorem Tk1.kept{w wr w2:World}{hp:Nat}{v v':Value}{ib:Nat}{ov:Value}{it:Bm}{l os:List Bm}(h:Tk1 w wr hp v v' ib ov it l os)(hb:Below wr.heap.size wr w2):Tk1 w w2 hp v v' ib ov it l os:=
 h.step (h.hpx.kept hb) (Tch.below hb) (fun _ e=>Or.inl e)
theorem Tk1.setItem{w wr w2:World}{hp:Nat}{v v':Value}{ib:Nat}{ov:Value}{it it2:Bm}{l os:List Bm}(h:Tk1 w wr hp v v' ib ov it l os)(hw:w2=put5b wr ib 0 it2):Tk1 w w2 hp v v' ib ov it2 l os:=by
 have hT:Tch (fun j=>j=ib) wr w2:=by rw [hw];exact zav wr ib 0 it2
 have hib:=h.lt;have hth:=h.lth;refine⟨⟨hT.blk h.hpx.blk (by show¬hp=ib;omega),zag h.hpx.row (fun b e=>hT.block b (h.hpx.row.lt b e).2 (by intro e2;subst e2;exact h.far.1 e))⟩,h.old,h.far,zag h.row (fun b e=>hT.block b (h.row.lt b e).2 (by intro e2;subst e2;exact h.apart.1 e)), ?_,hT.blk h.ans (by show¬w.heap.size=ib;omega),h.tch.trans hT (fun _ _ h=>h) (fun k hk e=>by omega),h.apart,h.lt,h.lth⟩;rw [hw];exact((((h.item.set 0 _).set 1 _).set 2 _).set 3 _).set 4 _
theorem Tk1.pass{w wr w2:World}{hp:Nat}{v v':Value}{ib:Nat}{ov ov2:Value}{it:Bm}{l os os2:List Bm}(h:Tk1 w wr hp v v' ib ov it l os)(hr:w2.ownsRow w.heap.size 134 5 ov2 os2.length (flat Bm.cells os2))(hT:Tch (fun k=>ov.ownBlock=some k) wr w2)(hv:∀b,ov2.ownBlock=some b->ov.ownBlock=some b∨wr.heap.size<=b):Tk1 w w2 hp v v' ib ov2 it l os2:=by
 have hs:=h.tch.size;have hib:=h.item.lt;have han:=h.ans.lt;have hlh:=h.lth;have hov:∀b,ov.ownBlock=some b->w.heap.size<=b∧b<wr.heap.size:=fun b e=>h.row.lt b e
 have hvl:∀b,v'.ownBlock=some b->b<wr.heap.size:=fun b e=>(h.hpx.row.lt b e).2
 refine⟨⟨hT.blk h.hpx.blk (fun e=>by have:=(hov _ e).1;omega),zag h.hpx.row (fun b e=>hT.block b (hvl b e) (fun e2=>h.far.2.2 b e2 e))⟩,h.old,⟨h.far.1,h.far.2.1,fun b e e2=> ?_⟩,hr,hT.blk h.item h.apart.1,hT.blk h.ans h.apart.2,h.tch.trans hT (fun _ _ h=>h) (fun k hk e=>by have:=(hov _ e).1;omega),⟨fun e=> ?_,fun e=> ?_⟩,h.lt,h.lth⟩
 ·rcases hv b e with h1 | h1
  ·exact h.far.2.2 b h1 e2
  ·have:=hvl b e2;omega
 ·rcases hv _ e with h1 | h1
  ·exact h.apart.1 h1
  ·omega
 ·rcases hv _ e with h1 | h1
  ·exact h.apart.2 h1
  ·omega
theorem Tk1.done{w wr wF:World}{hp:Nat}{v v':Value}{ib:Nat}{ov:Value}{it:Bm}{l os:List Bm}(h:Tk1 w wr hp v v' ib ov it l os)(hw:wF=put5b wr w.heap.size 0 it):HpOk w hp v l wF∧Blk wF w.heap.size (bmC it) 134:=by
 have hT:Tch (fun j=>j=w.heap.size) wr wF:=by rw [hw];exact zav wr w.heap.size 0 it
 have hth:=h.lth;refine⟨⟨v',⟨hT.blk h.hpx.blk (by show¬hp=w.heap.size;omega),zag h.hpx.row (fun b e=>hT.block b (h.hpx.row.lt b e).2 (by intro e2;subst e2;exact h.far.2.1 e))⟩,h.tch.trans hT (fun _ _ h=>h) (fun k hk e=>by omega),h.old⟩, ?_⟩;rw [hw];exact zh3 h.ans it
theorem zhw{w:World}{base g cap n:Nat}{bs:List Bm}(h:w.ownsRow base 134 5 (.slice (some ⟨g,0,none⟩) n cap) bs.length (flat Bm.cells bs))(k:Nat)(hk:k<bs.length):
  w.cell? ⟨g,k*5,none⟩=some (I bs[k].b.o)∧w.cell? ⟨g,k*5+1,none⟩=some (I bs[k].b.s)∧w.cell? ⟨g,k*5+2,none⟩=some (I bs[k].b.t)∧w.cell? ⟨g,k*5+3,none⟩=some (.slice bs[k].ca bs[k].b.clock.length bs[k].cc)∧w.cell? ⟨g,k*5+4,none⟩=some (.slice bs[k].ea bs[k].b.effs.length bs[k].ec):=by
 have hc:=h.cells (g:=g) rfl
 have hx:∀j (_:j<5) u,(bs[k].cells)[j]?=some u->w.cell? ⟨g,k*5+j,none⟩=some u:=fun j hj u hu=>by
  have:=hc (k*5+j) u ((zao Bm.cells 5 zcq bs k hk j hj).trans hu);rw [Addr.add_lit,aV] at this;exact this
 exact⟨hx 0 (by omega) _ rfl,hx 1 (by omega) _ rfl,hx 2 (by omega) _ rfl,hx 3 (by omega) _ rfl,hx 4 (by omega) _ rfl⟩
theorem zv3{α:Type}(less:α->α->Bool)(bs:List α)(i:Nat):(riseP less bs i).length=bs.length:=by
 induction i using Nat.strongRecOn generalizing bs with
 | _ i ih=>
  rw [riseP];split
  ·rename_i h
   rw [ih ((i - 1) / 2) (by omega),zbk]
  ·rfl
theorem zmb{α:Type}(less:α->α->Bool)(bs:List α)(x:α):(pushP less bs x).length=bs.length+1:=by
 unfold pushP;rw [zv3];simp
theorem zc7{α:Type}(less:α->α->Bool)(os:List α):∀l:List α,(os.foldl (pushP less) l).length=l.length+os.length:=by
 induction os with
 | nil=>intro l;rfl
 | cons x os ih=>intro l;rw [List.foldl_cons,ih,zmb,aJ];omega
theorem zsx(hp:Nat)(v:Value)(bs:List Bm)(gb:Nat)(y:Bm)(w:World)(h:HpIn w hp v bs)(hl:bs.length<=1000)(hb:Blk w gb (bmC y) 134)(hg1:gb ≠ hp)(hg2:¬v.ownBlock=some gb):
  Calls prog 99 #[.pointer (some ⟨hp,0,none⟩), .func (.func 139) #[] #[.pointer (some ⟨gb,0,none⟩)]] w fun e w'=>TakeHp w hp v (takeP lessM (fun m=>likeB y.b m.b) bs) e w':=by
 have HP:Hid (HpIn w hp v bs):=h;have HG:Hid (Blk w gb (bmC y) 134):=hb;clear h hb;go_enter func99,ntmps99;go_wp2_with fail
 obtain⟨w0,hw0⟩:∃w0,w0=w.alloc (.cells zB 134):=⟨_,rfl⟩
 have HB0:Hid (Below w.heap.size w w0):=by rw [hw0];exact(Below.refl _ _).alloc (ac _) _
 have HR0:Hid (Blk w0 w.heap.size zB 134):=by rw [hw0];exact heap_alloc_new w _
 rw [show w.alloc (.cells #[.int .i64 0, .int .i64 0, .int .i64 0, .slice none 0 0, .slice none 0 0] 134)=w0 from hw0.symm];clear hw0;refine(zn0 hp v bs w0 (HP.out.kept HB0.out) (by omega)).mono ?_;rintro e w1 ⟨rfl,v1,hp1,hT1,hv1⟩;have HVB:Hid (∀k,v.ownBlock=some k->k<w.heap.size):=fun k hk=>(HP.out.row.lt k hk).2
 have hpw:hp<w.heap.size:=HP.out.blk.lt;have hs1:w.heap.size<w1.heap.size:=by have:=hT1.size;have:=HR0.out.lt;omega
 have HTF:Hid (takeP lessM (fun m=>likeB y.b m.b) bs=finP lessM (fun m=>likeB y.b m.b) bs.length (popR lessM bs).1 (popR lessM bs).2 []):=zow _ _ _;have HLE:Hid ((popR lessM bs).2.length+(popR lessM bs).1.toList.length<=bs.length):=zfn _ _;go_wp2_with fail
 generalize (popR lessM bs).2=l0 at *
 generalize (popR lessM bs).1=r0 at *
 have HK:Hid (Tk1 w (w1.alloc (.cells (bmC (r0.getD bmZ)) 134)) hp v v1 w1.heap.size (.slice none 0 0) (r0.getD bmZ) l0 []):=by
  have hTw:Tch (fun k=>k=hp∨v.ownBlock=some k) w w1:=(Tch.below HB0.out).trans hT1 (fun _ _ h=>h) (fun _ _ h=>h);refine⟨hp1.kept ((Below.refl _ _).alloc (ac _) _),fun b e=>Or.inl (by rw [←hv1];exact e),⟨?_, ?_,fun b e=>by simp [Value.ownBlock] at e⟩,⟨rfl, .inl ⟨rfl,rfl⟩⟩,heap_alloc_new w1 _, ?_,hTw.alloc _,⟨by simp [Value.ownBlock],by simp [Value.ownBlock]⟩,hs1,hpw⟩
  ·intro e;rw [hv1] at e;have:=HVB.out _ e;omega
  ·intro e;rw [hv1] at e;have:=HVB.out _ e;omega
  ·exact(hT1.blk HR0.out (by rintro(h | h);omega;have:=HVB.out _ h;omega)).alloc _
 clear hp1 hT1 hv1 HB0 HR0 HP;obtain⟨wS,hwS⟩:∃wS,wS=w1.alloc (.cells (bmC (r0.getD bmZ)) 134):=⟨_,rfl⟩
 obtain⟨ib,hib⟩:∃ib,ib=w1.heap.size:=⟨_,rfl⟩
 change Code.wp _ _ _ _ (w1.alloc (.cells (bmC (r0.getD bmZ)) 134));rw [←hwS,←hib] at HK;rw [←hwS,←hib];clear hwS hib hs1;go_loopw [6,8] (fun v6 v8 wr=>∃(n:Nat) (r:Option Bm) (l os:List Bm) (oa:Option Addr) (oc:Nat) (v':Value),v6= .slice oa os.length oc∧v8= .bool r.isSome∧os.length+n=bs.length∧l.length+r.toList.length<=n∧Hid (takeP lessM (fun m=>likeB y.b m.b) bs=finP lessM (fun m=>likeB y.b m.b) n r l os)∧Hid (Tk1 w wr hp v v' ib (.slice oa os.length oc) (r.getD bmZ) l os)) (fun v6 _ _=>match v6 with | .slice _ k _=>bs.length+1 - k | _=>0)
 case atStart=>exact⟨bs.length,r0,l0, [],none,0,v1,rfl,rfl,by simp,HLE.out,HTF,HK⟩
 case round=>
  obtain⟨n,r,l,os,oa,oc,v',rfl,rfl,hn,hln,HF,HKr⟩:=hrel;clear HK HTF HLE;cases r with
  | none=>
   have HKT:=HKr;have HFT:Hid (takeP lessM (fun m=>likeB y.b m.b) bs=backP lessM (none,l,os)):=HF.out;clear HKr HF;go_wp2_with fail
   go_loopw [34] (fun v34 wX=>∃(k:Nat) (v2:Value),k<=os.length∧v34=I k∧Hid (Tk1 w wX hp v v2 ib (.slice oa os.length oc) bmZ ((os.take k).foldl (pushP lessM) l) os)) (fun v34 _=>os.length - (intOf v34).toNat)
   case atStart=>exact⟨0,v',az _,rfl,HKT⟩
   case round=>
    obtain⟨k,v2,hk,rfl,HKq⟩:=hrel;clear HKT;by_cases hlt:k<os.length
    ·obtain⟨go,rfl⟩:∃go,oa=some ⟨go,0,none⟩:=by
      rcases HKq.out.row.2 with⟨_,hz⟩ | ⟨g,cap,cur,e,_⟩
      ·omega
      ·cases e;exact⟨g,rfl⟩
     obtain⟨e0,e1,e2,e3,e4⟩:=zhw HKq.out.row k hlt
     have HNX:Hid ((os.take (k+1)).foldl (pushP lessM) l=pushP lessM ((os.take k).foldl (pushP lessM) l) os[k]):=by
      show _=_;rw [aC hlt,List.foldl_append];rfl
     have HLN:Hid (((os.take k).foldl (pushP lessM) l).length<=1000000):=by
      show _<=_;rw [zc7,al];omega
     have hki:(k:Int)<os.length:=by omega
     generalize os[k]=z at *
     go_wp2_with fail
     have HKa:Hid (Tk1 w (wr.alloc (.cells (bmC z) 134)) hp v v2 ib (.slice (some ⟨go,0,none⟩) os.length oc) bmZ ((os.take k).foldl (pushP lessM) l) os):=HKq.out.kept ((Below.refl _ _).alloc (ac _) _);refine(zeu hp v2 ((os.take k).foldl (pushP lessM) l) z (wr.alloc (.cells (bmC z) 134)) HKa.out.hpx HLN.out).mono ?_;rintro e w5 ⟨rfl,v3,hp3,hT3,hv3⟩
     have HK5:Hid (Tk1 w w5 hp v v3 ib (.slice (some ⟨go,0,none⟩) os.length oc) bmZ ((os.take (k+1)).foldl (pushP lessM) l) os):=by
      show Tk1 _ _ _ _ _ _ _ _ _ _;rw [HNX.out];exact HKa.out.step hp3 hT3 hv3
     clear hp3 hT3 hv3 HKa HKq e0 e1 e2 e3 e4 HNX;go_wp2_with fail
     go_roundw
     case rel=>exact⟨k+1,v3,hlt,by go_num,HK5⟩
     case measure=>simp [intOf];omega
    ·have HT9:Hid (Tk1 w wr hp v v2 ib (.slice oa os.length oc) bmZ (os.foldl (pushP lessM) l) os):=by
      have:=HKq.out;rw [aM (by omega)] at this;exact this
     have hki:¬(k:Int)<os.length:=by omega
     clear HKq;have x0:wr.cell? ⟨ib,0,none⟩=some (I (bmZ).b.o):=HT9.out.item.cell 0;have x1:wr.cell? ⟨ib,1,none⟩=some (I (bmZ).b.s):=HT9.out.item.cell 1;have x2:wr.cell? ⟨ib,2,none⟩=some (I (bmZ).b.t):=HT9.out.item.cell 2;have x3:wr.cell? ⟨ib,3,none⟩=some (.slice (bmZ).ca (bmZ).b.clock.length (bmZ).cc):=HT9.out.item.cell 3;have x4:wr.cell? ⟨ib,4,none⟩=some (.slice (bmZ).ea (bmZ).b.effs.length (bmZ).ec):=HT9.out.item.cell 4;have r0:wr.cell? ⟨w.heap.size,0,none⟩=some (.int .i64 0):=HT9.out.ans.cell 0;have r1:wr.cell? ⟨w.heap.size,1,none⟩=some (.int .i64 0):=HT9.out.ans.cell 1;have r2:wr.cell? ⟨w.heap.size,2,none⟩=some (.int .i64 0):=HT9.out.ans.cell 2;have r3:wr.cell? ⟨w.heap.size,3,none⟩=some (.slice none 0 0):=HT9.out.ans.cell 3;have r4:wr.cell? ⟨w.heap.size,4,none⟩=some (.slice none 0 0):=HT9.out.ans.cell 4;have z0:=HT9.out.ans.frozen 0;have z1:=HT9.out.ans.frozen 1;have z2:=HT9.out.ans.frozen 2;have z3:=HT9.out.ans.frozen 3;have z4:=HT9.out.ans.frozen 4;go_wp2_with fail
     obtain⟨wF,hwF⟩:∃wF,wF=put5b wr w.heap.size 0 bmZ:=⟨_,rfl⟩
     have HOK:Hid (HpOk w hp v (os.foldl (pushP lessM) l) wF):=(HT9.out.done hwF).1;have HBF:Hid (Blk wF w.heap.size (bmC bmZ) 134):=(HT9.out.done hwF).2;change bodyPost _ _ _ Exit.ret _ (put5b wr w.heap.size 0 bmZ);rw [←hwF];clear hwF HT9 x0 x1 x2 x3 x4 r0 r1 r2 r3 r4 z0 z1 z2 z3 z4;have f0:wF.cell? ⟨w.heap.size,0,none⟩=some (I (bmZ).b.o):=HBF.out.cell 0;have f1:wF.cell? ⟨w.heap.size,1,none⟩=some (I (bmZ).b.s):=HBF.out.cell 1;have f2:wF.cell? ⟨w.heap.size,2,none⟩=some (I (bmZ).b.t):=HBF.out.cell 2;have f3:wF.cell? ⟨w.heap.size,3,none⟩=some (.slice (bmZ).ca (bmZ).b.clock.length (bmZ).cc):=HBF.out.cell 3;have f4:wF.cell? ⟨w.heap.size,4,none⟩=some (.slice (bmZ).ea (bmZ).b.effs.length (bmZ).ec):=HBF.out.cell 4;refine bodyPost_ret (v:= .tuple #[bmV bmZ, .bool false]) (by simp [results,Tryz.results99,go_sem,f0,f1,f2,f3,f4]) rfl ?_;rw [HFT.out];exact⟨rfl,HOK.out⟩
  | some x=>
   have i0:wr.cell? ⟨ib,0,none⟩=some (I x.b.o):=HKr.out.item.cell 0;have i1:wr.cell? ⟨ib,1,none⟩=some (I x.b.s):=HKr.out.item.cell 1;have i2:wr.cell? ⟨ib,2,none⟩=some (I x.b.t):=HKr.out.item.cell 2;have i3:wr.cell? ⟨ib,3,none⟩=some (.slice x.ca x.b.clock.length x.cc):=HKr.out.item.cell 3;have i4:wr.cell? ⟨ib,4,none⟩=some (.slice x.ea x.b.effs.length x.ec):=HKr.out.item.cell 4;go_wp2_with fail
   refine(zmg x y gb wr (HKr.out.tch.blk HG.out (by rintro(h | h);exact hg1 h;exact hg2 h))).mono ?_;rintro e w2 ⟨rfl,hb2⟩;have HK2:Hid (Tk1 w w2 hp v v' ib (.slice oa os.length oc) x l os):=HKr.out.kept hb2;have HF2:Hid (takeP lessM (fun m=>likeB y.b m.b) bs=if likeB y.b x.b then backP lessM (some x,l,os) else backP lessM (za1 lessM (fun m=>likeB y.b m.b) n l (os++ [x]))):=HF.out;clear HKr HF hb2 i0 i1 i2 i3 i4;generalize likeB y.b x.b=bl at *
   cases bl
   ·have HFN:Hid (takeP lessM (fun m=>likeB y.b m.b) bs=backP lessM (za1 lessM (fun m=>likeB y.b m.b) n l (os++ [x]))):=HF2.out
    clear HF2;have i0:w2.cell? ⟨ib,0,none⟩=some (I x.b.o):=HK2.out.item.cell 0;have i1:w2.cell? ⟨ib,1,none⟩=some (I x.b.s):=HK2.out.item.cell 1;have i2:w2.cell? ⟨ib,2,none⟩=some (I x.b.t):=HK2.out.item.cell 2;have i3:w2.cell? ⟨ib,3,none⟩=some (.slice x.ca x.b.clock.length x.cc):=HK2.out.item.cell 3;have i4:w2.cell? ⟨ib,4,none⟩=some (.slice x.ea x.b.effs.length x.ec):=HK2.out.item.cell 4;obtain⟨ii,HI⟩:∃i,Hid (prog.info? 134=some i∧i.zero=some (.agg #[.int .i64 0, .int .i64 0, .int .i64 0, .slice none 0 0, .slice none 0 0])∧i.size=5∧i.bytes=72):=by obtain⟨i,h⟩:=info_parts zsu;exact⟨i,h⟩
    have hone:∀u∈x.cells,u.oneCell'=true:=by have:=zty [x];simpa [flat] using this
    have HRW:Hid ((w2.alloc (.cells (bmC x) 134)).ownsRow w.heap.size 134 5 (.slice oa os.length oc) os.length (flat Bm.cells os)):=HK2.out.row.alloc _;have HLT:Hid (∀j u,(x.cells)[j]?=some u->(w2.alloc (.cells (bmC x) 134)).cell? ((⟨w2.heap.size,0,none⟩:Addr).add j)=some u):=zcf w2 x.cells _;have hsz2:w.heap.size<=(w2.alloc (.cells (bmC x) 134)).heap.size:=by have:=HK2.out.tch.size;simp;omega
    have HSZ2:Hid (w.heap.size<=(w2.alloc (.cells (bmC x) 134)).heap.size):=hsz2;clear hsz2;have n1:os.length+1<=maxLen:=by unfold maxLen;omega
    have n2:(os.length+1)*72<=140737488355328:=by omega
    go_wp2_with (first | (at_builtin;refine wpList_append_own_at _ rfl _ _ _ rfl w.heap.size 134 ii (.agg #[.int .i64 0, .int .i64 0, .int .i64 0, .slice none 0 0, .slice none 0 0]) 5 72 underlying147 HI.out.1 HI.out.2.1 HI.out.2.2.1 HI.out.2.2.2 rfl (by decide) (.slice oa os.length oc) os.length (flat Bm.cells os) rfl HRW.out ⟨w2.heap.size,0,none⟩ 1 1 x.cells rfl rfl HLT.out hone n1 n2 HSZ2.out ?_;intro ov3 w3 hown3 hgrow3 hnil3 hat3))
    have hln':l.length+1<=n:=by simpa using hln
    obtain⟨n',rfl⟩:∃n',n=n'+1:=⟨n - 1,by omega⟩
    have hsn:(os++ [x]).length=os.length+1:=by simp
    obtain⟨og,oc3,rfl⟩:∃g c,ov3= .slice (some ⟨g,0,none⟩) (os++ [x]).length c:=by
     rcases hown3.2 with⟨_,hz⟩ | ⟨g,cap,cur,e,_⟩
     ·omega
     ·exact⟨g,cap,by rw [hsn];exact e⟩
    have HK3:Hid (Tk1 w w3 hp v v' ib (.slice (some ⟨og,0,none⟩) (os++ [x]).length oc3) x l (os++ [x])):=by
     refine(HK2.out.kept ((Below.refl _ _).alloc (ac _) (.cells (bmC x) 134))).pass ?_ (Tch.grown hgrow3) (fun b e=> ?_)
     ·rw [hsn,zg0]
      rw [hsn] at hown3;exact hown3
     ·rcases hat3 with h | h
      ·rw [e] at h;exact Or.inl h.symm
      ·rw [e] at h;cases h;exact Or.inr (ac _)
    have HFP:Hid (takeP lessM (fun m=>likeB y.b m.b) bs=finP lessM (fun m=>likeB y.b m.b) n' (popR lessM l).1 (popR lessM l).2 (os++ [x])):=by
     show _=_;rw [HFN.out,zn5]
    have HLP:Hid ((popR lessM l).2.length+(popR lessM l).1.toList.length<=l.length):=zfn _ _;clear hown3 hgrow3 hnil3 hat3 HK2 HFN HRW HLT HSZ2 i0 i1 i2 i3 i4 HI hone n1 n2;refine(zn0 hp v' l w3 HK3.out.hpx (by omega)).mono ?_;rintro e w4 ⟨rfl,v4,hp4,hT4,hv4⟩;have HK4:Hid (Tk1 w w4 hp v v4 ib (.slice (some ⟨og,0,none⟩) (os++ [x]).length oc3) x (popR lessM l).2 (os++ [x])):=HK3.out.step hp4 hT4 (fun b e=>Or.inl (by rw [←hv4];exact e));clear hp4 hT4 hv4 HK3;generalize (popR lessM l).2=l4 at *
    generalize (popR lessM l).1=r4 at *
    have i0:w4.cell? ⟨ib,0,none⟩=some (I x.b.o):=HK4.out.item.cell 0;have i1:w4.cell? ⟨ib,1,none⟩=some (I x.b.s):=HK4.out.item.cell 1;have i2:w4.cell? ⟨ib,2,none⟩=some (I x.b.t):=HK4.out.item.cell 2;have i3:w4.cell? ⟨ib,3,none⟩=some (.slice x.ca x.b.clock.length x.cc):=HK4.out.item.cell 3;have i4:w4.cell? ⟨ib,4,none⟩=some (.slice x.ea x.b.effs.length x.ec):=HK4.out.item.cell 4;have z0:=HK4.out.item.frozen 0;have z1:=HK4.out.item.frozen 1;have z2:=HK4.out.item.frozen 2;have z3:=HK4.out.item.frozen 3;have z4:=HK4.out.item.frozen 4;have HK5:Hid (Tk1 w (put5b w4 ib 0 (r4.getD bmZ)) hp v v4 ib (.slice (some ⟨og,0,none⟩) (os++ [x]).length oc3) (r4.getD bmZ) l4 (os++ [x])):=HK4.out.setItem rfl;clear HK4;go_wp2_with fail
    go_roundw
    case rel=>exact⟨n',r4,l4,os++ [x],some ⟨og,0,none⟩,oc3,v4,by rw [hsn],rfl,by omega,aQ HLP.out (by omega),HFP,HK5⟩
    case measure=>simp;omega
   ·have HKT:=HK2
    have HFT:Hid (takeP lessM (fun m=>likeB y.b m.b) bs=backP lessM (some x,l,os)):=HF2.out;clear HK2 HF2;go_wp2_with fail
    go_loopw [34] (fun v34 wX=>∃(k:Nat) (v2:Value),k<=os.length∧v34=I k∧Hid (Tk1 w wX hp v v2 ib (.slice oa os.length oc) x ((os.take k).foldl (pushP lessM) l) os)) (fun v34 _=>os.length - (intOf v34).toNat)
    case atStart=>exact⟨0,v',az _,rfl,HKT⟩
    case round=>
     obtain⟨k,v2,hk,rfl,HKq⟩:=hrel;clear HKT;by_cases hlt:k<os.length
     ·obtain⟨go,rfl⟩:∃go,oa=some ⟨go,0,none⟩:=by
       rcases HKq.out.row.2 with⟨_,hz⟩ | ⟨g,cap,cur,e,_⟩
       ·omega
       ·cases e;exact⟨g,rfl⟩
      obtain⟨e0,e1,e2,e3,e4⟩:=zhw HKq.out.row k hlt
      have HNX:Hid ((os.take (k+1)).foldl (pushP lessM) l=pushP lessM ((os.take k).foldl (pushP lessM) l) os[k]):=by
       show _=_;rw [aC hlt,List.foldl_append];rfl
      have HLN:Hid (((os.take k).foldl (pushP lessM) l).length<=1000000):=by
       show _<=_;rw [zc7,al];omega
      have hki:(k:Int)<os.length:=by omega
      generalize os[k]=z at *
      go_wp2_with fail
      have HKa:Hid (Tk1 w (wr.alloc (.cells (bmC z) 134)) hp v v2 ib (.slice (some ⟨go,0,none⟩) os.length oc) x ((os.take k).foldl (pushP lessM) l) os):=HKq.out.kept ((Below.refl _ _).alloc (ac _) _);refine(zeu hp v2 ((os.take k).foldl (pushP lessM) l) z (wr.alloc (.cells (bmC z) 134)) HKa.out.hpx HLN.out).mono ?_;rintro e w5 ⟨rfl,v3,hp3,hT3,hv3⟩
      have HK5:Hid (Tk1 w w5 hp v v3 ib (.slice (some ⟨go,0,none⟩) os.length oc) x ((os.take (k+1)).foldl (pushP lessM) l) os):=by
       show Tk1 _ _ _ _ _ _ _ _ _ _;rw [HNX.out];exact HKa.out.step hp3 hT3 hv3
      clear hp3 hT3 hv3 HKa HKq e0 e1 e2 e3 e4 HNX;go_wp2_with fail
      go_roundw
      case rel=>exact⟨k+1,v3,hlt,by go_num,HK5⟩
      case measure=>simp [intOf];omega
     ·have HT9:Hid (Tk1 w wr hp v v2 ib (.slice oa os.length oc) x (os.foldl (pushP lessM) l) os):=by
       have:=HKq.out;rw [aM (by omega)] at this;exact this
      have hki:¬(k:Int)<os.length:=by omega
      clear HKq;have x0:wr.cell? ⟨ib,0,none⟩=some (I (x).b.o):=HT9.out.item.cell 0;have x1:wr.cell? ⟨ib,1,none⟩=some (I (x).b.s):=HT9.out.item.cell 1;have x2:wr.cell? ⟨ib,2,none⟩=some (I (x).b.t):=HT9.out.item.cell 2;have x3:wr.cell? ⟨ib,3,none⟩=some (.slice (x).ca (x).b.clock.length (x).cc):=HT9.out.item.cell 3;have x4:wr.cell? ⟨ib,4,none⟩=some (.slice (x).ea (x).b.effs.length (x).ec):=HT9.out.item.cell 4;have r0:wr.cell? ⟨w.heap.size,0,none⟩=some (.int .i64 0):=HT9.out.ans.cell 0;have r1:wr.cell? ⟨w.heap.size,1,none⟩=some (.int .i64 0):=HT9.out.ans.cell 1;have r2:wr.cell? ⟨w.heap.size,2,none⟩=some (.int .i64 0):=HT9.out.ans.cell 2;have r3:wr.cell? ⟨w.heap.size,3,none⟩=some (.slice none 0 0):=HT9.out.ans.cell 3;have r4:wr.cell? ⟨w.heap.size,4,none⟩=some (.slice none 0 0):=HT9.out.ans.cell 4;have z0:=HT9.out.ans.frozen 0;have z1:=HT9.out.ans.frozen 1;have z2:=HT9.out.ans.frozen 2;have z3:=HT9.out.ans.frozen 3;have z4:=HT9.out.ans.frozen 4;go_wp2_with fail
      obtain⟨wF,hwF⟩:∃wF,wF=put5b wr w.heap.size 0 x:=⟨_,rfl⟩
      have HOK:Hid (HpOk w hp v (os.foldl (pushP lessM) l) wF):=(HT9.out.done hwF).1;have HBF:Hid (Blk wF w.heap.size (bmC x) 134):=(HT9.out.done hwF).2;change bodyPost _ _ _ Exit.ret _ (put5b wr w.heap.size 0 x);rw [←hwF];clear hwF HT9 x0 x1 x2 x3 x4 r0 r1 r2 r3 r4 z0 z1 z2 z3 z4;have f0:wF.cell? ⟨w.heap.size,0,none⟩=some (I (x).b.o):=HBF.out.cell 0;have f1:wF.cell? ⟨w.heap.size,1,none⟩=some (I (x).b.s):=HBF.out.cell 1;have f2:wF.cell? ⟨w.heap.size,2,none⟩=some (I (x).b.t):=HBF.out.cell 2;have f3:wF.cell? ⟨w.heap.size,3,none⟩=some (.slice (x).ca (x).b.clock.length (x).cc):=HBF.out.cell 3;have f4:wF.cell? ⟨w.heap.size,4,none⟩=some (.slice (x).ea (x).b.effs.length (x).ec):=HBF.out.cell 4;refine bodyPost_ret (v:= .tuple #[bmV x, .bool true]) (by simp [results,Tryz.results99,go_sem,f0,f1,f2,f3,f4]) rfl ?_;rw [HFT.out];exact⟨rfl,HOK.out⟩
