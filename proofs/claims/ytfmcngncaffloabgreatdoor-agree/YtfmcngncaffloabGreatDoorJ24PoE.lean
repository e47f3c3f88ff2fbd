import Derived.Test.YtfmcngncaffloabGreatDoorJ23HpL
import Derived.ArgAppend
set_option maxHeartbeats 1600000
namespace Go.Proofs.YtfmcngncaffloabGreatDoor
open Go.RowKit Go.Proofs.Tryz
set_option maxRecDepth 100000
def IdxOk(w:World)(b:Bool)(e:Ending)(w':World):Prop:=∃i:Int,e= .returned (I i)∧decide (0<=i)=b∧Below w.heap.size w w'
theorem any_at{bs:List Bm}{f:Bm->Bool}(k:Nat)(hk:k<bs.length)(h:f bs[k]=true):bs.any f=true:=List.any_eq_true.2 ⟨_,aU hk,h⟩
theorem any_no{bs:List Bm}{f:Bm->Bool}(h:∀j (hj:j<bs.length),f bs[j]=false):bs.any f=false:=by
 rw [List.any_eq_false];intro x hx;obtain⟨j,hj,rfl⟩:=List.getElem_of_mem hx;rw [h j hj];decide
theorem zsv(a:Option Addr)(c:Nat)(bs:List Bm)(y:Bm)(gb:Nat)(w:World)(h:w.ownsRow 0 134 5 (.slice a bs.length c) bs.length (flat Bm.cells bs))(hg:Blk w gb (bmC y) 134)(hl:bs.length<=1048576):
  Calls prog 206 #[.slice a bs.length c, .func (.func 139) #[] #[.pointer (some ⟨gb,0,none⟩)]] w fun e w'=>IdxOk w (bs.any fun m=>likeB y.b m.b) e w':=by
 have HR:Hid (w.ownsRow 0 134 5 (.slice a bs.length c) bs.length (flat Bm.cells bs)):=h;have HG:Hid (Blk w gb (bmC y) 134):=hg;clear h hg;go_enter func206,ntmps206;go_wp2_with fail
 go_loopw [8] (fun x wr=>∃k:Nat,k<=bs.length∧x=I k∧Hid (∀j (hj:j<bs.length),j<k->likeB y.b bs[j].b=false)∧Hid (Below w.heap.size w wr)) (fun x _=>bs.length - (intOf x).toNat)
 case atStart=>exact⟨0,az _,rfl,fun j hj h=>absurd h (by omega),Below.refl _ _⟩
 case round=>
  obtain⟨k,hk,rfl,HN,HB⟩:=hrel;by_cases hlt:k<bs.length
  ·have HRk:Hid (wr.ownsRow 0 134 5 (.slice a bs.length c) bs.length (flat Bm.cells bs)):=zag HR.out (fun g e=>HB.out.block g (HR.out.lt g e).2)
   obtain⟨g,rfl⟩:∃g,a=some ⟨g,0,none⟩:=by
    rcases HRk.out.2 with⟨_,hz⟩ | ⟨g,cap,cur,e,_⟩
    ·omega
    ·cases e;exact⟨g,rfl⟩
   obtain⟨e0,e1,e2,e3,e4⟩:=zhw HRk.out k hlt;have hki:(k:Int)<bs.length:=by omega
   obtain⟨z,hz⟩:∃z,bs[k]=z:=⟨_,rfl⟩
   have HZ:Hid (bs[k]=z):=hz;rw [hz] at e0 e1 e2 e3 e4;clear hz;go_wp2_with fail
   refine(zmg z y gb wr (HG.out.kept HB.out HG.out.lt)).mono ?_;rintro e w1 ⟨rfl,hb1⟩;have HB1:Hid (Below w.heap.size w w1):=HB.out.trans (hb1.mono HB.out.size);clear hb1;generalize hfk:likeB y.b z.b=b at *
   have HFK:Hid (likeB y.b z.b=b):=hfk;clear hfk;cases b
   ·go_wp2_with fail
    go_roundw
    case rel=>
     refine⟨k+1,hlt,by go_num,fun j hj h=> ?_,HB1⟩;by_cases hjk:j=k
     ·subst hjk;rw [HZ.out];exact HFK.out
     ·exact HN.out j hj (by omega)
    case measure=>simp [intOf];omega
   ·have HI:Hid ((bs.any fun m=>likeB y.b m.b)=true):=any_at k hlt (by show likeB y.b bs[k].b=true;rw [HZ.out];exact HFK.out)
    go_wp2;go_ret;exact⟨k,rfl,by rw [HI.out];simp,HB1.out⟩
  ·obtain rfl:k=bs.length:=by omega
   have HI:Hid ((bs.any fun m=>likeB y.b m.b)=false):=any_no (fun j hj=>HN.out j hj hj);go_wp2;go_ret;exact⟨-1,rfl,by rw [HI.out];rfl,HB.out⟩
theorem zlw(a:Option Addr)(c:Nat)(bs:List Bm)(y:Bm)(gb:Nat)(w:World)(h:w.ownsRow 0 134 5 (.slice a bs.length c) bs.length (flat Bm.cells bs))(hg:Blk w gb (bmC y) 134)(hl:bs.length<=1048576):
  Calls prog 190 #[.slice a bs.length c, .func (.func 139) #[] #[.pointer (some ⟨gb,0,none⟩)]] w fun e w'=>e= .returned (.bool (bs.any fun m=>likeB y.b m.b))∧Below w.heap.size w w':=by
 go_enter func190,ntmps190;go_wp2_with fail
 refine(zsv a c bs y gb w h hg hl).mono ?_;rintro e w1 ⟨i,rfl,hi,hb⟩;have HB:Hid (Below w.heap.size w w1):=hb;have HI:Hid (decide (0<=i)=bs.any fun m=>likeB y.b m.b):=hi;clear h hg hb hi;go_wp2;go_ret;rw [←HI.out];exact⟨rfl,HB.out⟩
theorem zp7(hp:Nat)(v:Value)(bs:List Bm)(y:Bm)(gb:Nat)(w:World)(h:HpIn w hp v bs)(hg:Blk w gb (bmC y) 134)(hl:bs.length<=1048576):
  Calls prog 166 #[.pointer (some ⟨hp,0,none⟩), .func (.func 139) #[] #[.pointer (some ⟨gb,0,none⟩)]] w fun e w'=>e= .returned (.bool (bs.any fun m=>likeB y.b m.b))∧Below w.heap.size w w':=by
 obtain⟨a,n,c,rfl⟩:=zcd h.row
 obtain rfl:n=bs.length:=by
  rcases h.row.2 with⟨e,hz⟩ | ⟨g,cap,cur,e,_⟩
  ·cases e;exact hz.symm
  ·cases e;rfl
 have c0:w.cell? ⟨hp,0,none⟩=some (.slice a bs.length c):=h.blk.cell 0;have HC:Hid (Calls prog 190 #[.slice a bs.length c, .func (.func 139) #[] #[.pointer (some ⟨gb,0,none⟩)]] w fun e w'=>e= .returned (.bool (bs.any fun m=>likeB y.b m.b))∧Below w.heap.size w w'):=zlw a c bs y gb w h.row hg hl;clear h hg;go_enter func166,ntmps166;go_wp2_with fail
 refine HC.out.mono ?_;rintro e w1 ⟨rfl,hb⟩;have HB:Hid (Below w.heap.size w w1):=hb;clear hb HC;go_wp2;go_ret;exact⟨rfl,HB.out⟩
structure Ms where
 k:Int
 f:Int
 t:Int
 bs:List UInt8
 sp:Bool
def Ms.cells(m:Ms):List Value:= [I m.k,I m.f,I m.t, .string ⟨m.bs.toArray⟩, .bool m.sp]
abbrev msV (m:Ms):Value:= .agg #[I m.k,I m.f,I m.t, .string ⟨m.bs.toArray⟩, .bool m.sp]
abbrev msC (m:Ms):Array Value:= #[I m.k,I m.f,I m.t, .string ⟨m.bs.toArray⟩, .bool m.sp]
theorem za9(m:Ms):m.cells.length=5:=rfl
theorem zzm(ls:List Ms):∀u∈flat Ms.cells ls,u.oneCell'=true:=by
 induction ls with
 | nil=>intro u hu;simp [flat] at hu
 | cons m ls ih=>
  intro u hu;simp only [flat,ao] at hu;rcases hu with hu | hu
  ·simp only [Ms.cells,ar,List.not_mem_nil,or_false] at hu
   rcases hu with rfl | rfl | rfl | rfl | rfl<;>rfl
  ·exact ih u hu
theorem zst:(prog.info? 160).map (fun i=>(i.zero,i.size,i.bytes))=some (some (.agg #[.int .i64 0, .int .i64 0, .int .i64 0, .string ⟨#[]⟩, .bool false]),5,48):=by kernel_rfl
theorem zs7(l:List Ms)(x:Ms):flat Ms.cells (l++ [x])=flat Ms.cells l++x.cells:=by
 rw [za2];show _++(x.cells++ [])=_;rw [List.append_nil]
structure PoIn(w:World)(own:Clr)(c pp ch:Nat)(pv:Value)(ms:List Ms):Prop where
 blk:Blk w pp #[.chan (some ch),pv] 157
 chn:∃buf s r,w.heap[ch]?=some (.chan 40 buf false s r false)∧buf.size=ms.length
 row:w.ownsRow 0 160 5 pv ms.length (flat Ms.cells ms)
 own1:own pp=c
 own2:own ch=c
 own3:∀g,pv.ownBlock=some g->own g=c
 most:ms.length<=40
theorem PoIn.chlt{w:World}{own:Clr}{c pp ch:Nat}{pv:Value}{ms:List Ms}(h:PoIn w own c pp ch pv ms):ch<w.heap.size:=by
 obtain⟨_,_,_,hc,_⟩:=h.chn;exact(am.1 hc).1
theorem PoIn.keep{w w':World}{own own':Clr}{c pp ch:Nat}{pv:Value}{ms:List Ms}(h:PoIn w own c pp ch pv ms)(hs:Same own c w w')(he:Ext own own' w.heap.size):PoIn w' own' c pp ch pv ms:=by
 obtain⟨buf,s,r,hc,hb⟩:=h.chn;exact⟨(hs pp h.blk.lt h.own1).trans h.blk,⟨buf,s,r,(hs ch h.chlt h.own2).trans hc,hb⟩,zag h.row (fun g e=>hs g (h.row.lt g e).2 (h.own3 g e)),(he pp h.blk.lt).trans h.own1,(he ch h.chlt).trans h.own2,fun g e=>(he g (h.row.lt g e).2).trans (h.own3 g e),h.most⟩
def PoOk(w:World)(own:Clr)(c pp ch:Nat)(ms:List Ms)(w':World):Prop:=∃own' pv',Ext own own' w.heap.size∧PoIn w' own' c pp ch pv' ms∧TchC own c w w'
theorem zwc(own:Clr)(c pp ch:Nat)(pv:Value)(ms:List Ms)(m:Ms)(w:World)(h:PoIn w own c pp ch pv ms)(hl:ms.length<40):
  Calls prog 92 #[.pointer (some ⟨pp,0,none⟩),msV m] w fun e w'=>e= .returned (.tuple #[])∧PoOk w own c pp ch (ms++ [m]) w':=by
 obtain⟨wA,hwA⟩:∃wA,wA=w.alloc (.cells (msC m) 160):=⟨_,rfl⟩
 have HBA:Hid (Below w.heap.size w wA):=by rw [hwA];exact(Below.refl _ _).alloc (ac _) _
 have HX:Hid (Blk wA w.heap.size (msC m) 160):=by rw [hwA];exact heap_alloc_new w _
 have HP:Hid (PoIn wA own c pp ch pv ms):=h.keep (fun b hb _=>HBA.out.block b hb) (Ext.refl _ _);have HPW:Hid (PoIn w own c pp ch pv ms):=h;have c0:wA.cell? ⟨pp,0,none⟩=some (.chan (some ch)):=HP.out.blk.cell 0;clear h;refine ze8 func92 rfl ?_;simp only [ntmps92,List.size_toArray,aJ,List.length_nil,Nat.reduceAdd,Nat.reduceSub,Array.replicate_succ,Array.replicate_zero,List.push_toArray,List.append_toArray,List.nil_append,aR];refine zcr (zdn ?_);go_wp2_with fail
 change wpN _ _ _ _ (w.alloc (.cells (msC m) 160));rw [←hwA];clear hwA;refine zcr (zdn ?_);go_wp2_with fail
 obtain⟨buf,sn,rn,hch,hbuf⟩:=HP.out.chn;refine zcr (zgp ?_);change wpR _ _ _ [0,1,2] _ _;refine zjp (i:=0) (cases:= #[Go.Conc.scase ch (.agg #[]) (.agg #[])]) (blocking:=false) (shape:= .select) (w1:=wA) rfl rfl (by simp [go_sem,execOp,Go.Conc.scase,Act.eval]) (fun fr cs es hs=>Go.Conc.step_lone_select_send_room hs hch (by omega)) ?_;simp only [Act.put,List.getElem_toArray,List.getElem_cons_zero,List.setIfInBounds_toArray,List.set_cons_succ,List.set_cons_zero];refine zcp (i:=1) rfl rfl (v:= .int .i64 0) (w':=wA.setChan ch 40 (buf.push (.agg #[])) false (sn+1) rn false) (by simp [go_sem,execOp,Act.eval]) ?_;simp only [Act.put,List.getElem_toArray,List.getElem_cons_zero,List.getElem_cons_succ,List.setIfInBounds_toArray,List.set_cons_succ,List.set_cons_zero];refine zcp (i:=2) rfl rfl (v:= .bool true) (w':=wA.setChan ch 40 (buf.push (.agg #[])) false (sn+1) rn false) (by simp [go_sem,execOp,Act.eval]) ?_;simp only [Act.put,List.getElem_toArray,List.getElem_cons_zero,List.getElem_cons_succ,List.setIfInBounds_toArray,List.set_cons_succ,List.set_cons_zero];refine zna (zdn ?_);obtain⟨w2,hw2⟩:∃w2,w2=wA.setChan ch 40 (buf.push (.agg #[])) false (sn+1) rn false:=⟨_,rfl⟩
 have hT2:Tch (fun k=>k=ch) wA w2:=by rw [hw2];exact(Tch.refl _ _).setChan _ _ _ _ _ _ _ (Or.inl rfl)
 have HC2:Hid (∃buf s r,w2.heap[ch]?=some (.chan 40 buf false s r false)∧buf.size=ms.length+1):=⟨_,_,_,by rw [hw2];exact Go.Conc.heap_setChan _ _ _ _ _ _ _ _ HP.out.chlt,by simp [hbuf]⟩
 rw [←hw2];clear hw2 hch hbuf buf sn rn
 have hne1:pp ≠ ch:=by
  rintro rfl;obtain⟨_,_,_,hc,_⟩:=HP.out.chn;cases HP.out.blk.symm.trans hc
 have HNG:Hid (¬pv.ownBlock=some ch∧¬pv.ownBlock=some pp):=by
  obtain⟨_,_,_,hc,_⟩:=HP.out.chn;rcases HP.out.row.2 with⟨rfl,_⟩ | ⟨g,cap,cur,rfl,_,hg,_,_,hcs,_⟩
  ·exact⟨by simp [Value.ownBlock],by simp [Value.ownBlock]⟩
  ·refine⟨fun e=> ?_,fun e=> ?_⟩
   ·have e:g=ch:=by simpa [Value.ownBlock] using e
    subst e;cases hg.symm.trans hc
   ·have e:g=pp:=by simpa [Value.ownBlock] using e
    subst e;have h9:=hg.symm.trans HP.out.blk;simp at h9
 have HK2:Hid (Blk w2 pp #[.chan (some ch),pv] 157):=hT2.blk HP.out.blk hne1;have HX2:Hid (Blk w2 w.heap.size (msC m) 160):=hT2.blk HX.out (by have:=HPW.out.chlt;omega);have HR2:Hid (w2.ownsRow 0 160 5 pv ms.length (flat Ms.cells ms)):=zag HP.out.row (fun g e=>hT2.block g (HP.out.row.lt g e).2 (by rintro rfl;exact HNG.out.1 e));have HT2:Hid (TchC own c w w2):=(Tch.below HBA.out).trans hT2 (fun _ _ h=>h) (fun k _ e=>by rw [e];exact HPW.out.own2);have hs2:w.heap.size<w2.heap.size:=HX2.out.lt;have hppw:pp<w.heap.size:=HPW.out.blk.lt;have hone:∀u∈m.cells,u.oneCell'=true:=by have:=zzm [m];simpa [flat] using this
 obtain⟨i2,hi2,hy0,hy1,hy2⟩:=info_parts zst;have HI2:Hid (prog.info? 160=some i2∧i2.zero=some (.agg #[.int .i64 0, .int .i64 0, .int .i64 0, .string ⟨#[]⟩, .bool false])∧i2.size=5∧i2.bytes=48):=⟨hi2,hy0,hy1,hy2⟩
 clear hi2 hy0 hy1 hy2 hT2 c0;have c1:w2.cell? ⟨pp,1,none⟩=some pv:=HK2.out.cell 1;have x0:w2.cell? ⟨w.heap.size,0,none⟩=some (I m.k):=HX2.out.cell 0;have x1:w2.cell? ⟨w.heap.size,1,none⟩=some (I m.f):=HX2.out.cell 1;have x2:w2.cell? ⟨w.heap.size,2,none⟩=some (I m.t):=HX2.out.cell 2;have x3:w2.cell? ⟨w.heap.size,3,none⟩=some (.string ⟨m.bs.toArray⟩):=HX2.out.cell 3;have x4:w2.cell? ⟨w.heap.size,4,none⟩=some (.bool m.sp):=HX2.out.cell 4;have cA2:(w2.alloc (.cells (msC m) 160)).cell? ⟨pp,1,none⟩=some pv:=(HK2.out.alloc _).cell 1;go_wp2_with fail
 go_region_law ((refine step_append_lies _ (by rfl) _ _ _ (by rfl) 0 160 i2 (.agg #[.int .i64 0, .int .i64 0, .int .i64 0, .string ⟨#[]⟩, .bool false]) 5 48 underlying155 HI2.out.1 HI2.out.2.1 HI2.out.2.2.1 HI2.out.2.2.2 (by rfl) (by omega) pv ms.length (flat Ms.cells ms) (by rfl) (by first | exact HR2.out.alloc _ | exact(HR2.out.alloc _).drew | exact(HR2.out.drew).alloc _) ⟨w2.heap.size,0,none⟩ 1 1 m.cells (by rfl) (by rfl) (by first | exact zcf w2 _ _ | exact zdb w2 _ _) hone (by omega) (by unfold maxLen;omega) (by omega) (by omega) (w2.heap.size+1) (by simp) ?_;intro g7 cap7 w7 hown7 hgrow7 hat7 hlt7;have HT7:Hid (Tch (fun k=>pv.ownBlock=some k) w2 w7):=(by first | exact((Tch.refl _ w2).drew.alloc _).then (Tch.grown hgrow7) | exact((Tch.refl _ w2).alloc _).then (Tch.grown hgrow7));have HO7:Hid (w7.ownsRow 0 160 5 (.slice (some ⟨g7,0,none⟩) (ms.length+1) cap7) (ms.length+1) (flat Ms.cells ms++m.cells)):=hown7;have HA7:Hid (pv.ownBlock=some g7∨g7=w2.heap.size+1):=hat7;have HK7:Hid (Blk w7 pp #[.chan (some ch),pv] 157):=HT7.out.blk HK2.out HNG.out.2;have c7:w7.cell? ⟨pp,1,none⟩=some pv:=HK7.out.cell 1;have z7:w7.frozen? ⟨pp,1,none⟩=false:=HK7.out.frozen 1;clear hown7 hgrow7 hat7 hlt7))
 all_goals
  (go_wp2_with fail
   have hpg:pp ≠ g7:=by
    rcases HA7.out with e | e
    ·intro e2;rw [←e2] at e;exact HNG.out.2 e
    ·omega
   have hcg:ch ≠ g7:=by
    rcases HA7.out with e | e
    ·intro e2;rw [←e2] at e;exact HNG.out.1 e
    ·have:=HPW.out.chlt;omega
   have HE:Hid (PoOk w own c pp ch (ms++ [m]) (w7.setCell ⟨pp,1,none⟩ (.slice (some ⟨g7,0,none⟩) (ms.length+1) cap7))):=by
    have hlen:(ms++ [m]).length=ms.length+1:=by simp
    have hTT:TchC own c w w7:=HT2.out.trans HT7.out (fun _ _ h=>h) (fun k hk e=>HPW.out.own3 k e);refine⟨newTo own w.heap.size c, .slice (some ⟨g7,0,none⟩) (ms++ [m]).length cap7,zab _ _ _,⟨?_, ?_, ?_, ?_, ?_, ?_,by rw [hlen];omega⟩,hTT.setCell _ _ (Or.inl HPW.out.own1)⟩
    ·rw [hlen];exact HK7.out.set 1 _
    ·obtain⟨buf,s,r,hc,hb⟩:=HC2.out
     have hclt:ch<w2.heap.size:=(am.1 hc).1;exact⟨buf,s,r,by rw [heap_setCell_other _ ⟨pp,1,none⟩ ch _ (by exact hne1.symm),HT7.out.block ch hclt HNG.out.1];exact hc,by rw [hb,hlen]⟩
    ·rw [hlen,zs7]
     exact zag HO7.out (fun b e=>heap_setCell_other _ ⟨pp,1,none⟩ b _ (by cases e;exact hpg.symm))
    ·exact(zae _ _ _ _ HPW.out.blk.lt).trans HPW.out.own1
    ·exact(zae _ _ _ _ HPW.out.chlt).trans HPW.out.own2
    ·intro g e
     cases e
     rcases HA7.out with e | e
     ·exact(zae _ _ _ _ (HPW.out.row.lt _ e).2).trans (HPW.out.own3 _ e)
     ·exact zaf _ _ _ _ (by show w.heap.size<=g7;omega)
   clear HK7 HO7 HT7;go_wp2;go_end0
   exact⟨rfl,HE.out⟩)
theorem PoIn.below{w w':World}{own:Clr}{c pp ch:Nat}{pv:Value}{ms:List Ms}(h:PoIn w own c pp ch pv ms)(hB:Below w.heap.size w w'):PoIn w' (newTo own w.heap.size 0) c pp ch pv ms:=h.keep (fun b hb _=>hB.block b hb) (zab _ _ _)
theorem zd0{w:World}{base:Nat}{e:TypeId}{s n:Nat}{v:Value}{xs:List Value}(h:w.ownsRow base e s v n xs):∃a c,v= .slice a n c:=by
 rcases h.2 with⟨rfl,rfl⟩ | ⟨g,cap,cur,rfl,_⟩
 ·exact⟨none,0,rfl⟩
 ·exact⟨_,_,rfl⟩
theorem zf4{w:World}{base g cap n:Nat}{ms:List Ms}(h:w.ownsRow base 160 5 (.slice (some ⟨g,0,none⟩) n cap) ms.length (flat Ms.cells ms))(k:Nat)(hk:k<ms.length):
  w.cell? ⟨g,k*5,none⟩=some (I ms[k].k)∧w.cell? ⟨g,k*5+1,none⟩=some (I ms[k].f)∧w.cell? ⟨g,k*5+2,none⟩=some (I ms[k].t)∧w.cell? ⟨g,k*5+3,none⟩=some (.string ⟨ms[k].bs.toArray⟩)∧w.cell? ⟨g,k*5+4,none⟩=some (.bool ms[k].sp):=by
 have hc:=h.cells (g:=g) rfl
 have hx:∀j (_:j<5) u,(ms[k].cells)[j]?=some u->w.cell? ⟨g,k*5+j,none⟩=some u:=fun j hj u hu=>by
  have:=hc (k*5+j) u ((zao Ms.cells 5 za9 ms k hk j hj).trans hu);simpa [Addr.add_lit] using this
 exact⟨hx 0 (by omega) _ rfl,hx 1 (by omega) _ rfl,hx 2 (by omega) _ rfl,hx 3 (by omega) _ rfl,hx 4 (by omega) _ rfl⟩
theorem zc6{w:World}{base:Nat}{e:TypeId}{s n:Nat}{v:Value}{xs:List Value}(h:w.ownsRow base e s v n xs)(hn:0<n):∃g c,v= .slice (some ⟨g,0,none⟩) n c:=by
 rcases h.2 with⟨rfl,rfl⟩ | ⟨g,cap,cur,rfl,_⟩
 ·omega
 ·exact⟨_,_,rfl⟩
theorem zdz(own:Clr)(c pp ch:Nat)(pv:Value)(ms:List Ms)(i:Int)(w:World)(h:PoIn w own c pp ch pv ms):
  Calls prog 88 #[.pointer (some ⟨pp,0,none⟩),I i] w fun e w'=>e= .returned (.bool (decide (0<=i∧i<ms.length)))∧w'=w:=by
 obtain⟨a,cp,rfl⟩:=zd0 h.row;have c1:w.cell? ⟨pp,1,none⟩=some (.slice a ms.length cp):=h.blk.cell 1;clear h;obtain⟨bq,HQ⟩:∃bq,Hid (decide (0<=i∧i<(ms.length:Int))=bq):=⟨_,rfl⟩
 rw [HQ.out];go_enter func88,ntmps88;by_cases h0:0<=i
 ·by_cases h1:i<(ms.length:Int)
  ·have HD:Hid (true=bq):=(aT (p:=0<=i∧i<(ms.length:Int)) ⟨h0,h1⟩).symm.trans HQ.out
   clear HQ;go_wp2;go_ret;exact⟨by rw [←HD.out];rfl,rfl⟩
  ·have HD:Hid (false=bq):=(decide_eq_false (p:=0<=i∧i<(ms.length:Int)) (fun h=>h1 h.2)).symm.trans HQ.out
   clear HQ;go_wp2;go_ret;exact⟨by rw [←HD.out];rfl,rfl⟩
 ·have HD:Hid (false=bq):=(decide_eq_false (p:=0<=i∧i<(ms.length:Int)) (fun h=>h0 h.1)).symm.trans HQ.out
  clear HQ;go_wp2;go_ret;exact⟨by rw [←HD.out];rfl,rfl⟩
def zay(m:Ms):List Value:= [I m.k,I m.f,I m.t, .string ⟨m.bs.toArray⟩]
theorem mg_one(ls:List Ms):∀u∈flat zay ls,u.oneCell'=true:=by
 induction ls with
 | nil=>intro u hu;simp [flat] at hu
 | cons m ls ih=>
  intro u hu;simp only [flat,ao] at hu;rcases hu with hu | hu
  ·simp only [zay,ar,List.not_mem_nil,or_false] at hu
   rcases hu with rfl | rfl | rfl | rfl<;>rfl
  ·exact ih u hu
theorem zs9(l:List Ms)(x:Ms):flat zay (l++ [x])=flat zay l++zay x:=by
 rw [za2];show _++(zay x++ [])=_;rw [List.append_nil]
theorem infoMg:(prog.info? 72).map (fun i=>(i.zero,i.size,i.bytes))=some (some (.agg #[.int .i64 0, .int .i64 0, .int .i64 0, .string ⟨#[]⟩]),4,40):=by kernel_rfl
def MsgsOk(w:World)(ms:List Ms)(e:Ending)(w':World):Prop:=∃v,e= .returned v∧w'.ownsRow w.heap.size 72 4 v ms.length (flat zay ms)∧Below w.heap.size w w'
theorem zwa(own:Clr)(c pp ch:Nat)(pv:Value)(ms:List Ms)(w:World)(h:PoIn w own c pp ch pv ms):
  Calls prog 63 #[.pointer (some ⟨pp,0,none⟩)] w fun e w'=>MsgsOk w ms e w':=by
 have HP:Hid (PoIn w own c pp ch pv ms):=h;obtain⟨a,cp,rfl⟩:=zd0 h.row;have c1:w.cell? ⟨pp,1,none⟩=some (.slice a ms.length cp):=h.blk.cell 1;have hmost:ms.length<=40:=h.most;clear h;go_enter func63,ntmps63;go_wp2_with fail
 go_loopw [3,11] (fun vl x wr=>∃k:Nat,k<=ms.length∧x=I k∧Hid (wr.ownsRow w.heap.size 72 4 vl k (flat zay (ms.take k)))∧Hid (Below w.heap.size w wr)) (fun _ x _=>ms.length - (intOf x).toNat)
 case atStart=>exact⟨0,az _,rfl,⟨rfl, .inl ⟨rfl,rfl⟩⟩,Below.refl _ _⟩
 case round=>
  obtain⟨k,hk,rfl,HO,HB⟩:=hrel;by_cases hlt:k<ms.length
  ·obtain⟨g,cq,eq⟩:=zc6 HP.out.row (by omega)
   cases eq
   have HPr:Hid (PoIn wr (newTo own w.heap.size 0) c pp ch (.slice (some ⟨g,0,none⟩) ms.length cp) ms):=HP.out.below HB.out;obtain⟨e0,e1,e2,e3,e4⟩:=zf4 HPr.out.row k hlt;have HT:Hid (flat zay (ms.take (k+1))=flat zay (ms.take k)++zay ms[k]):=by show _=_;rw [aC hlt,zs9]
   have hki:(k:Int)<ms.length:=by omega
   generalize ms[k]=z at *
   obtain⟨va,vc,rfl⟩:=zd0 HO.out;obtain⟨ii,HI⟩:∃i,Hid (prog.info? 72=some i∧i.zero=some (.agg #[.int .i64 0, .int .i64 0, .int .i64 0, .string ⟨#[]⟩])∧i.size=4∧i.bytes=40):=by obtain⟨i,h⟩:=info_parts infoMg;exact⟨i,h⟩
   have hone:∀u∈zay z,u.oneCell'=true:=by have:=mg_one [z];simpa [flat] using this
   have HBB:Hid (Below wr.heap.size wr ((wr.alloc (.cells (msC z) 160)).alloc (.cells (zay z).toArray 72))):=((Below.refl _ _).alloc (ac _) _).alloc (by simp) _;have HRW:Hid (((wr.alloc (.cells (msC z) 160)).alloc (.cells (zay z).toArray 72)).ownsRow w.heap.size 72 4 (.slice va k vc) k (flat zay (ms.take k))):=(HO.out.alloc _).alloc _
   have HLT:Hid (∀j u,(zay z)[j]?=some u->((wr.alloc (.cells (msC z) 160)).alloc (.cells (zay z).toArray 72)).cell? ((⟨wr.heap.size+1,0,none⟩:Addr).add j)=some u):=by
    have:=zcf (wr.alloc (.cells (msC z) 160)) (zay z) 72;rw [World.size_alloc] at this;exact this
   have HSZ:Hid (w.heap.size<=((wr.alloc (.cells (msC z) 160)).alloc (.cells (zay z).toArray 72)).heap.size):=by show _<=_;have:=HB.out.size;simp;omega
   have n1:k+1<=maxLen:=by unfold maxLen;omega
   have n2:(k+1)*40<=140737488355328:=by omega
   go_wp2_with (first | (at_builtin;refine wpList_append_own_at _ rfl _ _ _ rfl w.heap.size 72 ii (.agg #[.int .i64 0, .int .i64 0, .int .i64 0, .string ⟨#[]⟩]) 4 40 underlying55 HI.out.1 HI.out.2.1 HI.out.2.2.1 HI.out.2.2.2 rfl (by decide) (.slice va k vc) k (flat zay (ms.take k)) rfl HRW.out ⟨wr.heap.size+1,0,none⟩ 1 1 (zay z) rfl rfl HLT.out hone n1 n2 HSZ.out ?_;intro ov3 w3 hown3 hgrow3 hnil3 hat3))
   go_roundw
   case rel=>
    refine⟨k+1,hlt,by go_num, ?_, ?_⟩
    ·show World.ownsRow _ _ _ _ _ _ _
     rw [HT.out];exact hown3
    ·exact(HB.out.trans (HBB.out.mono HB.out.size)).trans ((Tch.grown hgrow3).toBelow HSZ.out (fun b hb e=>by have:=(HRW.out.lt b e).1;omega))
   case measure=>simp [intOf];omega
  ·have hkn:k=ms.length:=by omega
   have HE:Hid (wr.ownsRow w.heap.size 72 4 u3 ms.length (flat zay ms)):=by
    have:=HO.out;rw [hkn,aM (ac _)] at this;exact this
   have hki:¬(k:Int)<ms.length:=by omega
   clear HO hkn;go_wp2;go_ret;exact⟨_,rfl,HE.out,HB.out⟩
theorem zj3{P:Program}(w:World)(t ty elem:TypeId)(s g n cap:Nat)(a:Addr)(m c:Nat)(cur:Array Value)(tt:TypeId)(news:List Value)(hu:P.underlying t=some (.slice elem))(hs:(P.info? elem).map (·.size)=some s)(hg:Blk w g cur tt)(hl:news.length=m*s)(hnews:∀j u,news[j]?=some u->w.cell? (a.add j)=some u)(h1:∀u∈news,u.oneCell'=true)(hroom:n+m<=cap)(hfit:n*s+news.length<=cur.size):
  (Builtin.append_ #[t,t] ty #[.slice (some ⟨g,0,none⟩) n cap, .slice (some a) m c]).run P w= .ok (.slice (some ⟨g,0,none⟩) (n+m) cap) (w.setRow g (cur.toList.take (n*s)++news++cur.toList.drop (n*s+news.length)).toArray):=by
 cases hq:P.info? elem with
 | none=>simp [hq] at hs
 | some i=>
  have hi:i.size=s:=by simpa [hq] using hs
  subst hi;have hfc:=run_firstCells_some (P:=P) w i.size m a m c news hl hnews;have hst:=run_storeCells_at P g (n*i.size) tt news 0 cur w hg (by simpa using hfit) h1;simp only [Nat.add_zero] at hst;simp [Builtin.append_,run_underlying hu,sizeOf,typeInfo,hq,Builtin.lenOf,hroom,hfc,Addr.add_lit,hst]
theorem zfe{P:Program}{ops:Array Oper}{o:Oper}{a:Act}{w:World}{K:Act->World->Prop}{Q:Exit->Act->World->Prop}{E:Prop}
  (hg:o.guard=none) (d x:Operand) (t:TypeId) (hop:o.op=Op.call {callee:=Callee.builtin Builtin.append,args:= #[d,x],argTypes:= #[t,t]})
  (v u:Value) (hd:a.eval d=v) (hx:a.eval x=u) {v':Value} {w':World} (hr:(Builtin.append_ #[t,t] o.type #[v,u]).run P w= .ok v' w') (hK:K (a.put o.dst v') w'):
  if Region.wanted o (yielded ops a.tmps)=true then Oper.wp P o a w K Q else E:=by
 have hw:Region.wanted o (yielded ops a.tmps)=true:=by simp [Region.wanted,hg]
 rw [aA hw];unfold Oper.wp;simp [execOp,hop,resolve,invoke,builtin,hd,hx,hr,Result.andThen];exact hK
theorem zlo{P:Program}(w:World)(t ty elem:TypeId)(z:Value)(s g o n c:Nat)(cur:Array Value)(tt:TypeId)(hu:P.underlying t=some (.slice elem))(hz:(P.info? elem).map (fun i=>(i.zero,i.size))=some (some z,s))(hzs:z.cells.size=s)(h0:0<s)(hg:Blk w g cur tt)(hn:0<n)(hfit:o+n*s<=cur.size)(h1:∀u∈(Builtin.zeroCells z.cells n).toList,u.oneCell'=true):
  (Builtin.clear_ #[t] ty #[.slice (some ⟨g,o,none⟩) n c]).run P w= .ok (.tuple #[]) (w.setRow g (cur.toList.take o++(Builtin.zeroCells z.cells n).toList++cur.toList.drop (o+(Builtin.zeroCells z.cells n).toList.length)).toArray):=by
 cases hq:P.info? elem with
 | none=>simp [hq] at hz
 | some i=>
  simp only [hq,Option.map_some,Option.some.injEq,Prod.mk.injEq] at hz;obtain⟨hz1,rfl⟩:=hz;obtain⟨m,rfl⟩:∃m,n=m+1:=⟨n - 1,by omega⟩
  have hlen:(Builtin.zeroCells z.cells (m+1)).toList.length=(m+1)*i.size:=by simp [Builtin.zeroCells,hzs]
  have hst:=run_storeCells_at P g o tt (Builtin.zeroCells z.cells (m+1)).toList 0 cur w hg (by rw [hlen];omega) h1;simp only [Nat.add_zero] at hst;simp [Builtin.clear_,run_underlying hu,zeroValue,typeInfo,hq,hz1,hst]
theorem zs6{α:Type}(f:α->List Value)(n:Nat)(hf:∀x,(f x).length=n)(l:List α)(k:Nat)(hk:k<=l.length):(flat f l).take (k*n)=flat f (l.take k):=by
 have h:flat f l=flat f (l.take k)++flat f (l.drop k):=by rw [←za2,aH]
 have hl:(flat f (l.take k)).length=k*n:=by rw [zan f n hf,al,Nat.min_eq_left hk]
 rw [h,←hl,List.take_left]
theorem ztc{α:Type}(f:α->List Value)(n:Nat)(hf:∀x,(f x).length=n)(l:List α)(k:Nat)(hk:k<=l.length):(flat f l).drop (k*n)=flat f (l.drop k):=by
 have h:flat f l=flat f (l.take k)++flat f (l.drop k):=by rw [←za2,aH]
 have hl:(flat f (l.take k)).length=k*n:=by rw [zan f n hf,al,Nat.min_eq_left hk]
 rw [h,←hl,List.drop_left]
theorem del_list(C:List Value)(ms:List Ms)(i:Nat)(hi:i<ms.length)(hC:C.take (ms.length*5)=flat Ms.cells ms):(C.take (i*5)++flat Ms.cells (ms.drop (i+1))++C.drop (i*5+(flat Ms.cells (ms.drop (i+1))).length)).take ((ms.eraseIdx i).length*5)=flat Ms.cells (ms.eraseIdx i):=by
 have h1:C.take (i*5)=flat Ms.cells (ms.take i):=by
  rw [←zs6 Ms.cells 5 za9 ms i (by omega),←hC,List.take_take,Nat.min_eq_left (by omega)]
 have h2:flat Ms.cells (ms.take i)++flat Ms.cells (ms.drop (i+1))=flat Ms.cells (ms.eraseIdx i):=by rw [←za2,List.eraseIdx_eq_take_drop_succ]
 rw [h1,h2,←zan Ms.cells 5 za9,List.take_left]
theorem infoMs2:(prog.info? 160).map (fun i=>(i.zero,i.size))=some (some (.agg #[.int .i64 0, .int .i64 0, .int .i64 0, .string ⟨#[]⟩, .bool false]),5):=by
 obtain⟨i,h1,h2,h3,_⟩:=info_parts zst;rw [h1,Option.map_some,h2,h3]
theorem infoMs3:(prog.info? 160).map (·.size)=some 5:=by
 obtain⟨i,h1,h2,h3,_⟩:=info_parts zst;rw [h1,Option.map_some,h3]
theorem zu0(n:Nat):∀u∈(Builtin.zeroCells (Value.cells (.agg #[.int .i64 0, .int .i64 0, .int .i64 0, .string ⟨#[]⟩, .bool false])) n).toList,u.oneCell'=true:=by
 intro u hu;simp only [Builtin.zeroCells,Array.toList_map,aG] at hu;obtain⟨i,_,rfl⟩:=hu;have h:i % 5<5:=Nat.mod_lt _ (by decide);show(#[Value.int .i64 0, .int .i64 0, .int .i64 0, .string ⟨#[]⟩, .bool false][i % 5]!).oneCell'=true;generalize i % 5=r at h;have:r=0∨r=1∨r=2∨r=3∨r=4:=by omega
 rcases this with rfl | rfl | rfl | rfl | rfl<;>rfl
theorem zk3(g cp:Nat)(ms:List Ms)(i:Nat)(w:World)(h:w.ownsRow 0 160 5 (.slice (some ⟨g,0,none⟩) ms.length cp) ms.length (flat Ms.cells ms))(hi:i<ms.length)(ad:Addr)(c:Nat)(had:ms.length - (i+1)=0∨ad=⟨g,(i+1)*5,none⟩):
  ∃w' cur,(∀ty,(Builtin.append_ #[155,155] ty #[.slice (some ⟨g,0,none⟩) i cp, .slice (some ad) (ms.length - (i+1)) c]).run prog w= .ok (.slice (some ⟨g,0,none⟩) (i+(ms.length - (i+1))) cp) w')∧Blk w' g cur 160∧cur.size=cp*5∧cur.toList.take ((ms.eraseIdx i).length*5)=flat Ms.cells (ms.eraseIdx i)∧Tch (fun k=>k=g) w w':=by
 rcases h.2 with⟨e,_⟩ | ⟨g',cap,cur,e,_,hg,h1,h2,h3,h4⟩
 ·cases e
 ·cases e
  have hln:(flat Ms.cells (ms.drop (i+1))).length=(ms.length - (i+1))*5:=by rw [zan Ms.cells 5 za9,aP]
  refine⟨_,_,fun ty=>zj3 (P:=prog) w _ ty _ 5 g i cp ad (ms.length - (i+1)) c cur _ (flat Ms.cells (ms.drop (i+1))) underlying155 infoMs3 hg hln (fun j u hj=> ?_) (zzm _) (by omega) (by rw [hln,h3];omega),setRow_heap w g cur _ _ _ hg, ?_, ?_,⟨rfl,rfl,rfl,by simp,fun k _ hk=>setRow_other w g k _ hk⟩⟩
  ·rcases had with h0 | rfl
   ·have hj2:=(af.1 hj).1
    omega
   ·have hjl:=(af.1 hj).1
    rw [Addr.add_lit,cell_of_row w g _ cur _ (0,0) hg]
    have e1:(flat Ms.cells ms)[(i+1)*5+j]?=some u:=by
     rw [←List.getElem?_drop,ztc Ms.cells 5 za9 ms (i+1) (by omega)];exact hj
    rw [←h4,aL (by omega)] at e1;simpa using e1
  ·simp only [List.size_toArray,ah,al,aP,Array.length_toList,hln,h3]
   omega
  ·exact del_list cur.toList ms i hi h4
theorem zeh{P:Program}(w:World){ops:Array Oper}{rest:List Oper}{o:Oper}{a:Act}{Q:Exit->Act->World->Prop}(hgd:o.guard=none)(d:Operand)(t:TypeId)
  (ho:o.op= .call {callee:= .builtin .clear,args:= #[d],argTypes:= #[t]}) (v:Value) (hd:a.eval d=v) {v':Value} {w':World}
  (hr:(Builtin.clear_ #[t] o.type #[v]).run P w= .ok v' w') (h:wpList P ops Q rest (a.put o.dst v') w'):wpList P ops Q (o::rest) a w:=by
 refine wpList_plain hgd fun K hK=> ?_
 unfold Oper.wp execOp;simp only [ho,resolve,invoke,builtin,Sem.run_bind,Sem.run_pure,Result.andThen_ok,List.map_toArray,List.map_cons,List.map_nil,hd,hr];exact hK _ _ h
theorem zmx(g cp N n:Nat)(xs:List Value)(cur:Array Value)(w:World)(hB:Blk w g cur 160)(hs:cur.size=cp*5)(hk:cur.toList.take (N*5)=xs)(hl:xs.length=N*5)(hn:N+1=n)(hc:n<=cp)(hm:cp<=maxLen)(c:Nat):
  ∃w',(∀ty,(Builtin.clear_ #[155] ty #[.slice (some ⟨g,N*5,none⟩) (n - N) c]).run prog w= .ok (.tuple #[]) w')∧w'.ownsRow 0 160 5 (.slice (some ⟨g,0,none⟩) N cp) N xs∧Tch (fun k=>k=g) w w':=by
 have hlen:(Builtin.zeroCells (Value.cells (.agg #[.int .i64 0, .int .i64 0, .int .i64 0, .string ⟨#[]⟩, .bool false])) (n - N)).toList.length=5:=by
  have:n - N=1:=by omega
  rw [this];simp [Builtin.zeroCells,Value.cells]
 refine⟨_,fun ty=>zlo (P:=prog) w _ ty _ (.agg #[.int .i64 0, .int .i64 0, .int .i64 0, .string ⟨#[]⟩, .bool false]) 5 g (N*5) (n - N) c cur _ underlying155 infoMs2 rfl (by decide) hB (by omega) (by rw [hs];omega) (zu0 _),⟨hl, .inr ⟨g,cp,_,rfl,az _,setRow_heap w g cur _ _ _ hB,by omega,hm, ?_, ?_⟩⟩,⟨rfl,rfl,rfl,by simp,fun k _ hk=>setRow_other w g k _ hk⟩⟩
 ·simp only [List.size_toArray,ah,al,aP,Array.length_toList,hlen,hs]
  omega
 ·have h1:(cur.toList.take (N*5)).length=N*5:=by rw [al,Array.length_toList,hs];omega
  rw [au];show(cur.toList.take (N*5)++_).take (N*5)=xs;rw [List.take_append_of_le_length (by omega),aM (by omega)];exact hk
theorem zze(g cp:Nat)(ms:List Ms)(i:Nat)(w:World)(h:w.ownsRow 0 160 5 (.slice (some ⟨g,0,none⟩) ms.length cp) ms.length (flat Ms.cells ms))(hi:i<ms.length)(hl:ms.length<=40):
  Calls prog 89 #[.slice (some ⟨g,0,none⟩) ms.length cp,I i,I ((i:Int)+1)] w fun e w'=>e= .returned (.slice (some ⟨g,0,none⟩) (ms.eraseIdx i).length cp)∧w'.ownsRow 0 160 5 (.slice (some ⟨g,0,none⟩) (ms.eraseIdx i).length cp) (ms.eraseIdx i).length (flat Ms.cells (ms.eraseIdx i))∧Tch (fun k=>k=g) w w':=by
 have HR:Hid (w.ownsRow 0 160 5 (.slice (some ⟨g,0,none⟩) ms.length cp) ms.length (flat Ms.cells ms)):=h
 have hcp:ms.length<=cp∧cp<=maxLen:=by
  rcases h.2 with⟨e,_⟩ | ⟨g',cap,cur,e,_,_,h1,h2,_⟩
  ·cases e
  ·cases e;exact⟨h1,h2⟩
 clear h;obtain⟨hcp1,hcp2⟩:=hcp;have hcp3:cp<=9223372036854775807:=by unfold maxLen at hcp2;omega
 go_enter func89,ntmps89;have hicp:i<=cp:=by omega
 have hj1:i+1<=ms.length:=hi;have hj2:(i:Int)+1<=(ms.length:Int):=by omega
 have hj3:(i:Int)<=(cp:Int):=by omega
 have hj4:((i:Int)+1).toNat=i+1:=by omega
 have hj5:(0:Int)<=(i:Int)+1:=by omega
 have hj6:¬(i:Int)+1<0:=by omega
 have HEL:Hid ((ms.eraseIdx i).length=i+(ms.length - (i+1))):=by show _=_;rw [List.length_eraseIdx_of_lt hi];omega
 have HIC:Hid (i<=cp):=hicp;by_cases hcq:cp=i+1
 ·subst hcq
  have HMZ:Hid (ms.length - (i+1)=0):=by show _=_;omega
  obtain⟨w5,cur5,hAP,hB5,hs5,ht5,hT5⟩:=zk3 g (i+1) ms i w.drew HR.out.drew hi ⟨g,0,none⟩ 0 (Or.inl HMZ.out);rw [HMZ.out] at hAP HEL;have HAP:Hid (∀ty,(Builtin.append_ #[155,155] ty #[.slice (some ⟨g,0,none⟩) i (i+1), .slice (some ⟨g,0,none⟩) 0 0]).run prog w.drew= .ok (.slice (some ⟨g,0,none⟩) i (i+1)) w5):=hAP;have HEL2:Hid ((ms.eraseIdx i).length=i):=HEL.out;have HB5:Hid (Blk w5 g cur5 160):=hB5;have HS5:Hid (cur5.size=(i+1)*5):=hs5;have HK5:Hid (cur5.toList.take ((ms.eraseIdx i).length*5)=flat Ms.cells (ms.eraseIdx i)):=ht5;have HT5:Hid (Tch (fun k=>k=g) w w5):=(Tch.refl _ _).drew.then hT5;clear hB5 hs5 ht5 hT5 hAP HEL;have hj7:(i:Int)<=(i:Int)+1:=by omega
  go_wp2_with fail
  go_region_law (first | (refine zfe (by rfl) _ _ _ (by rfl) (.slice (some ⟨g,0,none⟩) i (i+1)) (.slice (some ⟨g,0,none⟩) 0 0) (by rfl) (by rfl) (HAP.out _) ?_))
  clear HAP;have HN4:Hid (i+1=ms.length):=by show _=_;omega
  have hN5:(i:Int)<=(ms.length:Int):=by omega
  have hN6:i<=ms.length:=by omega
  have hN7:ms.length<=i+1:=by omega
  rw [HEL2.out] at HK5;obtain⟨w6,HCL,hO6,hT6⟩:=zmx g (i+1) i ms.length (flat Ms.cells (ms.eraseIdx i)) cur5 w5 HB5.out HS5.out HK5.out (by rw [zan Ms.cells 5 za9,HEL2.out]) HN4.out hcp1 hcp2 1;have HCL:Hid (∀ty,(Builtin.clear_ #[155] ty #[.slice (some ⟨g,i*5,none⟩) (ms.length - i) 1]).run prog w5= .ok (.tuple #[]) w6):=HCL;have HO6:Hid (w6.ownsRow 0 160 5 (.slice (some ⟨g,0,none⟩) i (i+1)) i (flat Ms.cells (ms.eraseIdx i))):=hO6;have HT6:Hid (Tch (fun k=>k=g) w w6):=HT5.out.then hT6;clear hO6 hT6 HB5 HS5 HK5 HT5 HR HN4;go_wp2_with (first | (refine zeh _ rfl _ _ rfl (.slice (some ⟨g,i*5,none⟩) (ms.length - i) 1) rfl (HCL.out _) ?_))
  go_ret;refine⟨?_, ?_,HT6.out⟩
  ·rw [HEL2.out];rfl
  ·rw [HEL2.out];exact HO6.out
 ·obtain⟨w5,cur5,HAP,hB5,hs5,ht5,hT5⟩:=zk3 g cp ms i w.drew HR.out.drew hi ⟨g,(i+1)*5,none⟩ (cp - (i+1)) (Or.inr rfl)
  have HAP:Hid (∀ty,(Builtin.append_ #[155,155] ty #[.slice (some ⟨g,0,none⟩) i cp, .slice (some ⟨g,(i+1)*5,none⟩) (ms.length - (i+1)) (cp - (i+1))]).run prog w.drew= .ok (.slice (some ⟨g,0,none⟩) (i+(ms.length - (i+1))) cp) w5):=HAP;have HB5:Hid (Blk w5 g cur5 160):=hB5;have HS5:Hid (cur5.size=cp*5):=hs5;have HK5:Hid (cur5.toList.take ((ms.eraseIdx i).length*5)=flat Ms.cells (ms.eraseIdx i)):=ht5;have HT5:Hid (Tch (fun k=>k=g) w w5):=(Tch.refl _ _).drew.then hT5;clear hB5 hs5 ht5 hT5;go_wp2_with fail
  go_region_law (first | (refine zfe (by rfl) _ _ _ (by rfl) (.slice (some ⟨g,0,none⟩) i cp) (.slice (some ⟨g,(i+1)*5,none⟩) (ms.length - (i+1)) (cp - (i+1))) (by rfl) (by rfl) (HAP.out _) ?_))
  clear HAP;obtain⟨N,HN⟩:∃N,Hid (i+(ms.length - (i+1))=N):=⟨_,rfl⟩
  rw [HN.out] at HEL ⊢;have hN1:N<=ms.length:=by have:=HN.out;omega
  have hN2:N<=cp:=by omega
  have hN3:¬cp=N:=by have:=HN.out;omega
  have HN4:Hid (N+1=ms.length):=by have:=HN.out;show _=_;omega
  have hN5:(N:Int)<=(ms.length:Int):=by omega
  rw [HEL.out] at HK5;obtain⟨w6,HCL,hO6,hT6⟩:=zmx g cp N ms.length (flat Ms.cells (ms.eraseIdx i)) cur5 w5 HB5.out HS5.out HK5.out (by rw [zan Ms.cells 5 za9,HEL.out]) HN4.out hcp1 hcp2 (cp - N);have HCL:Hid (∀ty,(Builtin.clear_ #[155] ty #[.slice (some ⟨g,N*5,none⟩) (ms.length - N) (cp - N)]).run prog w5= .ok (.tuple #[]) w6):=HCL;have HO6:Hid (w6.ownsRow 0 160 5 (.slice (some ⟨g,0,none⟩) N cp) N (flat Ms.cells (ms.eraseIdx i))):=hO6;have HT6:Hid (Tch (fun k=>k=g) w w6):=HT5.out.then hT6;clear hO6 hT6 HB5 HS5 HK5 HT5 HN HR HN4;go_wp2_with (first | (refine zeh _ rfl _ _ rfl (.slice (some ⟨g,N*5,none⟩) (ms.length - N) (cp - N)) rfl (HCL.out _) ?_))
  go_ret;refine⟨?_, ?_,HT6.out⟩
  ·rw [HEL.out];rfl
  ·rw [HEL.out];exact HO6.out
