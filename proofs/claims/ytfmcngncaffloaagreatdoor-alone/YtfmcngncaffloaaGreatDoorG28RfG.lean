import Derived.Test.YtfmcngncaffloaaGreatDoorG27RvF
set_option maxHeartbeats 3200000
namespace Go.Proofs.YtfmcngncaffloaaGreatDoor
open Go.RowKit
set_option maxRecDepth 100000
theorem zej{α:Type}(f:α->Bool)(l:List α)(i:Nat)(hi:i<l.length):(l.take (i+1)).filter f=(l.take i).filter f++(if f l[i]=true then [l[i]] else []):=by
 rw [List.take_succ_eq_append_getElem hi,List.filter_append]
 congr 1
 simp only [List.filter_cons,List.filter_nil]
theorem zce(ks:List Mk)(a:Option Addr)(c:Nat)(w:World)(h:MksAt w a ks)(hl:ks.length<=1048576)(hd:∀k∈ks,k.m.e.dots.length<=1048576)(ht:(treeK ks (ks.length+1) ⟨0,0,0⟩).length<=1048576):
  Calls Tryz.prog 172 #[.slice a ks.length c] w fun e w'=>∃v',e= .returned v'∧w'.ownsRow w.heap.size 259 11 v' (zau ks).length (flat Mk.cells (zau ks))∧Below w.heap.size w w':=by
 have HM:Hid (MksAt w a ks):=h
 have HD:Hid (∀k∈ks,k.m.e.dots.length<=1048576):=hd
 obtain⟨i1,HI1⟩:∃i,Hid (Tryz.prog.info? 259=some i∧i.zero=some mkZ∧i.size=11∧i.bytes=104):=by obtain⟨i,h⟩:=info_parts zg7;exact⟨i,h⟩
 have HTR:=zvh ks a c hl (ks.length+1) ⟨0,0,0⟩ w h ht (by omega)
 rw [show((ks.length+1:Nat):Int)=(ks.length:Int)+1 by omega] at HTR
 obtain⟨all,HALL⟩:∃all,Hid (treeK ks (ks.length+1) ⟨0,0,0⟩=all):=⟨_,rfl⟩
 have HEK:Hid (zau ks=all.filter (fun k=> !goneK ks 6 k.d)):=by show _=_;unfold zau;rw [HALL.out]
 rw [HALL.out] at HTR ht
 clear h hd
 go_enter Tryz.func172,Tryz.ntmps172
 go_wp2_with fail
 refine HTR.mono ?_
 rintro e wB ⟨v1,rfl,hown1,hb1⟩
 obtain⟨oa,oc,rfl⟩:=zar hown1
 have HR1:Hid (wB.ownsRow w.heap.size 259 11 (.slice oa all.length oc) all.length (flat Mk.cells all)):=hown1
 have HB1:Hid (Below w.heap.size w wB):=hb1
 clear hown1 hb1 HTR
 go_wp2_with fail
 go_loopw [3,5] (fun y x wr=>∃(i:Nat) (oa2:Option Addr) (oc2:Nat) (acc:List Mk),i<=all.length∧x=I i∧y= .slice oa2 acc.length oc2∧Hid (acc=(all.take i).filter (fun k=> !goneK ks 6 k.d))∧Hid (wr.ownsRow wB.heap.size 259 11 (.slice oa2 acc.length oc2) acc.length (flat Mk.cells acc))∧Hid (Below wB.heap.size wB wr)) (fun _ x _=>all.length - (intOf x).toNat)
 case atStart=>exact⟨0,none,0, [],by omega,rfl,rfl,rfl,⟨rfl, .inl ⟨rfl,rfl⟩⟩,Below.refl _ _⟩
 case round=>
  obtain⟨i,oa2,oc2,acc,hi2,rfl,rfl,HO,HR2,HB2⟩:=hrel
  by_cases hlt2:i<all.length
  ·have hii2:(i:Int)<all.length:=by omega
   obtain⟨p,q,rfl,hc⟩:=zbh (zaw HR1.out) (by omega)
   have HCL:Hid (∀w',Below wB.heap.size wB w'->∀j u,all[i].cells[j]?=some u->w'.cell? ⟨p,q+i*11+j,none⟩=some u):=fun w' hb j u hu=>zaa hb (hc i hlt2 j u hu)
   have HSU:Hid ((all.take (i+1)).filter (fun k=> !goneK ks 6 k.d)=acc++(if (!goneK ks 6 all[i].d)=true then [all[i]] else [])):=by show _=_;rw [zej _ _ _ hlt2,HO.out]
   have hacc:acc.length<=i:=by rw [HO.out];have:=List.length_filter_le (fun k=> !goneK ks 6 k.d) (all.take i);rw [List.length_take] at this;omega
   clear hc
   generalize all[i]=k at *
   have f7:wr.cell? ⟨p,q+i*11+7,none⟩=some (I k.d.o):=HCL.out _ HB2.out 7 _ rfl
   have f8:wr.cell? ⟨p,q+i*11+7+1,none⟩=some (I k.d.s):=HCL.out _ HB2.out 8 _ rfl
   have f9:wr.cell? ⟨p,q+i*11+7+2,none⟩=some (I k.d.i):=HCL.out _ HB2.out 9 _ rfl
   go_wp2_with fail
   refine(zj8 ks a c 6 k.d wr (HM.out.kept (HB1.out.trans (HB2.out.mono HB1.out.size))) hl HD.out).mono ?_
   rintro e w3 ⟨rfl,hb3⟩
   have HB3:Hid (Below wB.heap.size wB w3):=HB2.out.trans (hb3.mono HB2.out.size)
   have HR3:Hid (w3.ownsRow wB.heap.size 259 11 (.slice oa2 acc.length oc2) acc.length (flat Mk.cells acc)):=za6 HR2.out hb3
   clear f7 f8 f9 hb3 HR2 HB2
   cases hg:goneK ks 6 k.d with
   | true=>
    have HN2:Hid (acc=(all.take (i+1)).filter (fun k=> !goneK ks 6 k.d)):=by show _=_;rw [HSU.out,hg];simp
    clear HSU HO HCL
    go_wp2_with fail
    go_roundw
    case rel=>exact⟨i+1,oa2,oc2,acc,by omega,by go_num,rfl,HN2,HR3,HB3⟩
    case measure=>simp [intOf];omega
   | false=>
    have HN2:Hid (acc++ [k]=(all.take (i+1)).filter (fun k=> !goneK ks 6 k.d)):=by show _=_;rw [HSU.out,hg];simp
    have g0:w3.cell? ⟨p,q+i*11,none⟩=some (I k.m.e.op):=HCL.out _ HB3.out 0 _ rfl
    have g1:w3.cell? ⟨p,q+i*11+1,none⟩=some (I k.m.e.ob):=HCL.out _ HB3.out 1 _ rfl
    have g2:w3.cell? ⟨p,q+i*11+2,none⟩=some (I k.m.e.va):=HCL.out _ HB3.out 2 _ rfl
    have g3:w3.cell? ⟨p,q+i*11+3,none⟩=some (I k.m.e.ref.o):=HCL.out _ HB3.out 3 _ rfl
    have g4:w3.cell? ⟨p,q+i*11+4,none⟩=some (I k.m.e.ref.s):=HCL.out _ HB3.out 4 _ rfl
    have g5:w3.cell? ⟨p,q+i*11+5,none⟩=some (I k.m.e.ref.i):=HCL.out _ HB3.out 5 _ rfl
    have g6:w3.cell? ⟨p,q+i*11+6,none⟩=some (.slice k.m.da k.m.e.dots.length k.m.dc):=HCL.out _ HB3.out 6 _ rfl
    have g7:w3.cell? ⟨p,q+i*11+7,none⟩=some (I k.d.o):=HCL.out _ HB3.out 7 _ rfl
    have g8:w3.cell? ⟨p,q+i*11+8,none⟩=some (I k.d.s):=HCL.out _ HB3.out 8 _ rfl
    have g9:w3.cell? ⟨p,q+i*11+9,none⟩=some (I k.d.i):=HCL.out _ HB3.out 9 _ rfl
    have g10:w3.cell? ⟨p,q+i*11+10,none⟩=some (I k.t):=HCL.out _ HB3.out 10 _ rfl
    have n3:acc.length+1<=maxLen:=by unfold maxLen;omega
    have n4:(acc.length+1)*104<=140737488355328:=by omega
    have hz2:wB.heap.size<=w3.heap.size:=HB3.out.size
    have HONE:Hid (∀u∈k.cells,u.oneCell'=true):=fun u hu=>zc3 [k] u (by simpa [flat] using hu)
    clear HSU HO
    go_wp2_with (first | (at_builtin;refine wpList_append_own_at _ rfl _ _ _ rfl wB.heap.size 259 i1 mkZ 11 104 Tryz.underlying222 HI1.out.1 HI1.out.2.1 HI1.out.2.2.1 HI1.out.2.2.2 rfl (by decide) (.slice oa2 acc.length oc2) acc.length (flat Mk.cells acc) rfl (HR3.out.alloc _) ⟨w3.heap.size,0,none⟩ 1 1 k.cells rfl rfl (zas w3 k.cells _) HONE.out n3 n4 (by simp;omega) ?_;intro v6 w6 hown6 hgrow6 hnil6 hat6;have HO6:Hid (w6.ownsRow wB.heap.size 259 11 v6 (acc.length+1) (flat Mk.cells acc++k.cells)):=hown6;have HW6:Hid (Below wB.heap.size wB w6):=(HB3.out.alloc hz2 _).grown hgrow6 (by simp;omega) (fun b e=>(HR3.out.lt b e).1);have hz6:wB.heap.size<=w6.heap.size:=HW6.out.size;obtain⟨oa6,oc6,rfl⟩:=zar hown6;clear hown6 hgrow6 hnil6 hat6 g0 g1 g2 g3 g4 g5 g6 g7 g8 g9 g10))
    have hlen:(acc++ [k]).length=acc.length+1:=by simp
    have HF:Hid (w6.ownsRow wB.heap.size 259 11 (.slice oa6 (acc++ [k]).length oc6) (acc++ [k]).length (flat Mk.cells (acc++ [k]))):=by
     show World.ownsRow _ _ _ _ _ _ _
     rw [hlen,zbw]
     simpa [flat] using HO6.out
    exact⟨⟨i+1,oa6,oc6,acc++ [k],by omega,by go_num,by rw [hlen],HN2,HF,HW6⟩,by simp [intOf];omega⟩
  ·have hii2:¬(i:Int)<all.length:=by omega
   have HE2:Hid (acc=zau ks):=by have:=HO.out;rw [List.take_of_length_le (by omega)] at this;rw [HEK.out];exact this
   clear HO
   go_wp2
   go_ret
   have hzB:=HB1.out.size
   refine⟨_,rfl, ?_,HB1.out.trans (HB2.out.mono (by omega))⟩
   rw [←HE2.out]
   exact zbr HR2.out (by omega)
theorem zuo(ks:List Mk)(a:Option Addr)(c:Nat)(w:World)(h:At w a (flat Mk.cells ks))(hl:ks.length<=1048576):
  Calls Tryz.prog 170 #[.slice a ks.length c] w fun e w'=>∃v',e= .returned v'∧w'.ownsRow w.heap.size 146 3 v' (ks.map (·.d)).length (flat zab (ks.map (·.d)))∧Below w.heap.size w w':=by
 have HA:Hid (At w a (flat Mk.cells ks)):=h
 obtain⟨i1,HI1⟩:∃i,Hid (Tryz.prog.info? 146=some i∧i.zero=some (.agg #[.int .i64 0, .int .i64 0, .int .i64 0])∧i.size=3∧i.bytes=24):=by obtain⟨i,h⟩:=info_parts zxf;exact⟨i,h⟩
 clear h
 go_enter Tryz.func170,Tryz.ntmps170
 go_wp2_with fail
 go_loopw [3,4] (fun y x wr=>∃(i:Nat) (oa2:Option Addr) (oc2:Nat),i<=ks.length∧x=I i∧y= .slice oa2 i oc2∧Hid (wr.ownsRow w.heap.size 146 3 (.slice oa2 i oc2) i (flat zab ((ks.take i).map (·.d))))∧Hid (Below w.heap.size w wr)) (fun _ x _=>ks.length - (intOf x).toNat)
 case atStart=>exact⟨0,none,0,by omega,rfl,rfl,⟨rfl, .inl ⟨rfl,rfl⟩⟩,Below.refl _ _⟩
 case round=>
  obtain⟨i,oa2,oc2,hi2,rfl,rfl,HR2,HB2⟩:=hrel
  by_cases hlt2:i<ks.length
  ·have hii2:(i:Int)<ks.length:=by omega
   obtain⟨p,q,rfl,hc⟩:=zbh HA.out (by omega)
   have g0:wr.cell? ⟨p,q+i*11+7,none⟩=some (I ks[i].d.o):=zaa HB2.out (hc i hlt2 7 _ rfl)
   have g1:wr.cell? ⟨p,q+i*11+7+1,none⟩=some (I ks[i].d.s):=zaa HB2.out (hc i hlt2 8 _ rfl)
   have g2:wr.cell? ⟨p,q+i*11+7+2,none⟩=some (I ks[i].d.i):=zaa HB2.out (hc i hlt2 9 _ rfl)
   have HSU:Hid (flat zab ((ks.take (i+1)).map (·.d))=flat zab ((ks.take i).map (·.d))++zab ks[i].d):=by
    show _=_
    rw [List.take_succ_eq_append_getElem hlt2,List.map_append,za1]
    simp [flat]
   clear hc
   generalize ks[i].d=d at *
   have n3:i+1<=maxLen:=by unfold maxLen;omega
   have n4:(i+1)*24<=140737488355328:=by omega
   have hz2:w.heap.size<=wr.heap.size:=HB2.out.size
   have HONE:Hid (∀u∈zab d,u.oneCell'=true):=zr2 d
   go_wp2_with (first | (at_builtin;refine wpList_append_own_at _ rfl _ _ _ rfl w.heap.size 146 i1 (.agg #[.int .i64 0, .int .i64 0, .int .i64 0]) 3 24 Tryz.underlying147 HI1.out.1 HI1.out.2.1 HI1.out.2.2.1 HI1.out.2.2.2 rfl (by decide) (.slice oa2 i oc2) i (flat zab ((ks.take i).map (·.d))) rfl (HR2.out.alloc _) ⟨wr.heap.size,0,none⟩ 1 1 (zab d) rfl rfl (zas wr (zab d) _) HONE.out n3 n4 (by simp;omega) ?_;intro v6 w6 hown6 hgrow6 hnil6 hat6;have HO6:Hid (w6.ownsRow w.heap.size 146 3 v6 (i+1) (flat zab ((ks.take i).map (·.d))++(zab d))):=hown6;have HW6:Hid (Below w.heap.size w w6):=(HB2.out.alloc hz2 _).grown hgrow6 (by simp;omega) (fun b e=>(HR2.out.lt b e).1);have hz6:w.heap.size<=w6.heap.size:=HW6.out.size;obtain⟨oa6,oc6,rfl⟩:=zar hown6;clear hown6 hgrow6 hnil6 hat6 g0 g1 g2))
   have HF:Hid (w6.ownsRow w.heap.size 146 3 (.slice oa6 (i+1) oc6) (i+1) (flat zab ((ks.take (i+1)).map (·.d)))):=by
    show World.ownsRow _ _ _ _ _ _ _
    rw [HSU.out]
    exact HO6.out
   exact⟨⟨i+1,oa6,oc6,by omega,by go_num,rfl,HF,HW6⟩,by simp [intOf];omega⟩
  ·have hii2:¬(i:Int)<ks.length:=by omega
   obtain rfl:i=ks.length:=by omega
   have HRE:Hid (wr.ownsRow w.heap.size 146 3 (.slice oa2 ks.length oc2) ks.length (flat zab (ks.map (·.d)))):=by
    have:=HR2.out
    rw [List.take_length] at this
    exact this
   go_wp2
   go_ret
   exact⟨_,rfl,HRE.out,HB2.out⟩
def mkU(b:Bm)(ob:Int)(p:Em×Nat):Option Mk:=if p.1.e.ob=ob then some ⟨p.1,⟨b.b.o,b.b.s,p.2⟩,b.b.t⟩ else none
def zcw(b:Bm)(ob:Int)(j:Nat):List Mk:=((b.ms.take j).zipIdx).filterMap (mkU b ob)
def zcx(ob:Int)(b:Bm):List Mk:=(b.ms.zipIdx).filterMap (mkU b ob)
def za3(bs:List Bm)(ob:Int):List Mk:=bs.flatMap (zcx ob)
theorem ziu(b:Bm)(ob:Int)(j:Nat)(h:b.ms.length<=j):zcw b ob j=zcx ob b:=by unfold zcw zcx;rw [List.take_of_length_le h]
theorem znb(b:Bm)(ob:Int)(j:Nat)(hj:j<b.ms.length):zcw b ob (j+1)=zcw b ob j++(if b.ms[j].e.ob=ob then [⟨b.ms[j],⟨b.b.o,b.b.s,j⟩,b.b.t⟩] else []):=by
 unfold zcw
 rw [List.take_succ_eq_append_getElem hj,List.zipIdx_append,List.filterMap_append]
 congr 1
 rw [List.length_take,Nat.min_eq_left (by omega)]
 simp only [Nat.zero_add,List.zipIdx_cons,List.zipIdx_nil,List.filterMap_cons,List.filterMap_nil,mkU]
 by_cases h:b.ms[j].e.ob=ob<;>simp [h]
theorem zkt(b:Bm)(ob:Int)(j:Nat):(zcw b ob j).length<=j:=by
 unfold zcw
 have h1:=List.length_filterMap_le (mkU b ob) ((b.ms.take j).zipIdx)
 rw [List.length_zipIdx,List.length_take] at h1
 omega
theorem ztq(b:Bm)(ob:Int):(zcx ob b).length<=b.ms.length:=by
 rw [←ziu b ob b.ms.length (Nat.le_refl _)]
 exact zkt b ob _
theorem zpt{b:Bm}{ob:Int}{k:Mk}(h:k∈zcx ob b):k.m∈b.ms:=by
 obtain⟨p,hp,hk⟩:=List.mem_filterMap.1 h
 unfold mkU at hk
 split at hk
 ·cases hk
  exact(List.mem_zipIdx_iff_getElem?.1 hp) |>List.mem_of_getElem?
 ·cases hk
theorem ziv{bs:List Bm}{ob:Int}{k:Mk}(h:k∈za3 bs ob):∃b∈bs,k.m∈b.ms:=by
 obtain⟨b,hb,hk⟩:=List.mem_flatMap.1 h
 exact⟨b,hb,zpt hk⟩
structure BatsAt(w:World)(a:Option Addr)(bs:List Bm):Prop where
 row:At w a (flat Bm.cells bs)
 bats:∀b∈bs,BatAt w b.b b.ca b.ea b.ms
theorem zhh{w:World}{a:Option Addr}{bs:List Bm}(h:At w a (flat Bm.cells bs))(hl:0<bs.length):∃p q,a=some ⟨p,q,none⟩∧∀i (hi:i<bs.length) j u,bs[i].cells[j]?=some u->w.cell? ⟨p,q+i*5+j,none⟩=some u:=by
 have hg:=fun(k:Nat) (hk:k<bs.length) (j:Nat) (hj:j<5)=>zak Bm.cells 5 zbp bs k hk j hj
 obtain⟨p,q,e,_⟩:=h (0*5+0) (I bs[0].b.o) (by rw [hg 0 hl 0 (by omega)];rfl)
 refine⟨p,q,e,fun i hi j u hu=> ?_⟩
 have hj:j<5:=by have:=(List.getElem?_eq_some_iff.1 hu).1;rw [zbp] at this;exact this
 obtain⟨p2,q2,e2,hc⟩:=h (i*5+j) u (by rw [hg i hi j hj];exact hu)
 rw [e] at e2
 cases e2
 rw [Nat.add_assoc]
 exact hc
theorem zna{w:World}{a:Option Addr}{bs:List Bm}{ob:Int}(h:BatsAt w a bs):∀k∈za3 bs ob,At w k.m.da (flat zab k.m.e.dots):=fun k hk=>by
 obtain⟨b,hb,hm⟩:=ziv hk
 exact(h.bats b hb).dots _ hm
structure Rr where
 bs:List Bm
 op:Bool
 es:List Em
 log:List UInt8
 sy:Int
structure RrIn(w:World)(own:Clr)(c p:Nat)(x:Rr)(dv ev:Value):Prop where
 blk:Blk w p #[.bool true,dv, .slice none 0 0, .string ⟨x.log.toArray⟩,I x.sy, .bool x.op,ev, .slice none 0 0] 111
 own1:own p=c
 done:w.ownsRow 0 124 5 dv x.bs.length (flat Bm.cells x.bs)
 own2:∀g,dv.ownBlock=some g->own g=c
 bats:∀b∈x.bs,BatIn w own b
 effs:EffsAt w own c ev x.es
def RrAt(w:World)(own:Clr)(c p:Nat)(x:Rr):Prop:=∃dv ev,RrIn w own c p x dv ev
structure Lt where
 k:Int
 f:Int
 t:Int
 b:List UInt8
 x:Bool
def Lt.cells(l:Lt):List Value:= [I l.k,I l.f,I l.t, .string ⟨l.b.toArray⟩, .bool l.x]
theorem lt_one(ls:List Lt):∀u∈flat Lt.cells ls,u.oneCell'=true:=by
 induction ls with
 | nil=>intro u hu;simp [flat] at hu
 | cons m ls ih=>
  intro u hu
  simp only [flat,Lt.cells,List.mem_append,List.mem_cons,List.mem_nil_iff,or_false] at hu
  rcases hu with(rfl | rfl | rfl | rfl | rfl) | hu
  ·rfl
  ·rfl
  ·rfl
  ·rfl
  ·rfl
  ·exact ih u hu
structure Rs where
 reps:List Rr
 way:List Lt
structure RsIn(w:World)(own:Clr)(c q:Nat)(S:Rs)(rg cc:Nat)(wv:Value)(prs:List Nat):Prop where
 blk:Blk w q #[.slice (some ⟨rg,0,none⟩) S.reps.length cc,wv] 106
 own1:own q=c
 row:∀r (h:r<prs.length),w.cell? ⟨rg,r,none⟩=some (.pointer (some ⟨prs[r],0,none⟩))
 own2:own rg=0
 len:prs.length=S.reps.length
 most:S.reps.length<=4
 least:2<=S.reps.length
 reps:∀r (h1:r<prs.length) (h2:r<S.reps.length),RrAt w own (c+1+r) prs[r] S.reps[r]
 way:w.ownsRow 0 232 5 wv S.way.length (flat Lt.cells S.way)
 room:S.way.length<=40
 ownw:∀g,wv.ownBlock=some g->own g=c+6
def RsAt(w:World)(own:Clr)(c q:Nat)(S:Rs):Prop:=∃rg cc wv prs,RsIn w own c q S rg cc wv prs
def Kp(D:Nat->Prop)(own own':Clr)(w w':World):Prop:=∀b,b<w.heap.size->D (own b)->w'.heap[b]?=w.heap[b]?∧own' b=own b
theorem Kp.below(D:Nat->Prop){own own':Clr}{w w':World}(hb:Below w.heap.size w w')(he:Ext own own' w.heap.size):Kp D own own' w w':=fun b hl _=>⟨hb.block b hl,he b hl⟩
theorem At0.kp{D:Nat->Prop}{w w':World}{own own':Clr}{a:Option Addr}{cs:List Value}(h:At0 w own a cs)(hs:Kp D own own' w w')(h0:D 0):At0 w' own' a cs:=fun j u hj=>by
 obtain⟨b,o,e,hz,hc⟩:=h j u hj
 have hk:=hs b (zag hc) (by rw [hz];exact h0)
 exact⟨b,o,e,hk.2.trans hz,zan hc hk.1⟩
theorem BatIn.kp{D:Nat->Prop}{w w':World}{own own':Clr}{m:Bm}(h:BatIn w own m)(hs:Kp D own own' w w')(h0:D 0):BatIn w' own' m:=
 ⟨h.clock.kp hs h0,h.effs,h.cells.kp hs h0,fun x hx=>(h.dots x hx).kp hs h0⟩
theorem zcn{D:Nat->Prop}{w w':World}{own own':Clr}{c base s n:Nat}{t:TypeId}{v:Value}{xs:List Value}(h:w.ownsRow base t s v n xs)(ho:∀g,v.ownBlock=some g->own g=c)(hs:Kp D own own' w w')(hc:D c):w'.ownsRow base t s v n xs∧∀g,v.ownBlock=some g->own' g=c:=
 ⟨zah h (fun g e=>(hs g (h.lt g e).2 (by rw [ho g e];exact hc)).1),fun g e=>(hs g (h.lt g e).2 (by rw [ho g e];exact hc)).2.trans (ho g e)⟩
theorem EffsAt.kp{D:Nat->Prop}{w w':World}{own own':Clr}{c:Nat}{ev:Value}{es:List Em}(h:EffsAt w own c ev es)(hs:Kp D own own' w w')(h0:D 0)(hc:D c):EffsAt w' own' c ev es:=
 ⟨(zcn h.row h.own2 hs hc).1,(zcn h.row h.own2 hs hc).2,fun x hx=>(h.dots x hx).kp hs h0⟩
theorem Blk.kp{D:Nat->Prop}{w w':World}{own own':Clr}{g:Nat}{cs:Array Value}{t:TypeId}(h:Blk w g cs t)(hs:Kp D own own' w w')(hc:D (own g)):Blk w' g cs t:=(hs g h.lt hc).1.trans h
theorem RrIn.kp{D:Nat->Prop}{w w':World}{own own':Clr}{c p:Nat}{x:Rr}{dv ev:Value}(h:RrIn w own c p x dv ev)(hs:Kp D own own' w w')(h0:D 0)(hc:D c):RrIn w' own' c p x dv ev:=
 ⟨h.blk.kp hs (by rw [h.own1];exact hc),(hs p h.blk.lt (by rw [h.own1];exact hc)).2.trans h.own1,(zcn h.done h.own2 hs hc).1,(zcn h.done h.own2 hs hc).2,fun b hb=>(h.bats b hb).kp hs h0,h.effs.kp hs h0 hc⟩
theorem RrAt.kp{D:Nat->Prop}{w w':World}{own own':Clr}{c p:Nat}{x:Rr}(h:RrAt w own c p x)(hs:Kp D own own' w w')(h0:D 0)(hc:D c):RrAt w' own' c p x:=by
 obtain⟨dv,ev,h⟩:=h
 exact⟨dv,ev,h.kp hs h0 hc⟩
theorem RsIn.rlt{w:World}{own:Clr}{c q rg cc:Nat}{S:Rs}{wv:Value}{prs:List Nat}(h:RsIn w own c q S rg cc wv prs):rg<w.heap.size:=zag (h.row 0 (by have:=h.least;have:=h.len;omega))
theorem RsIn.kp{D:Nat->Prop}{w w':World}{own own':Clr}{c q rg cc:Nat}{S:Rs}{wv:Value}{prs:List Nat}(h:RsIn w own c q S rg cc wv prs)(hs:Kp D own own' w w')(h0:D 0)(hc:∀d,c<=d->d<=c+6->D d):RsIn w' own' c q S rg cc wv prs:=by
 have hr:=hs rg h.rlt (by rw [h.own2];exact h0)
 have hm:=h.most
 have hl:=h.len
 have hww:=zcn h.way h.ownw hs (hc _ (by omega) (by omega))
 exact⟨h.blk.kp hs (by rw [h.own1];exact hc _ (by omega) (by omega)),(hs q h.blk.lt (by rw [h.own1];exact hc _ (by omega) (by omega))).2.trans h.own1,fun r h1=>zan (h.row r h1) hr.1,hr.2.trans h.own2,h.len,h.most,h.least,fun r h1 h2=>(h.reps r h1 h2).kp hs h0 (hc _ (by omega) (by omega)),hww.1,h.room,hww.2⟩
theorem RsAt.kp{D:Nat->Prop}{w w':World}{own own':Clr}{c q:Nat}{S:Rs}(h:RsAt w own c q S)(hs:Kp D own own' w w')(h0:D 0)(hc:∀d,c<=d->d<=c+6->D d):RsAt w' own' c q S:=by
 obtain⟨rg,cc,wv,prs,h⟩:=h
 exact⟨rg,cc,wv,prs,h.kp hs h0 hc⟩
def RsOk(w:World)(own:Clr)(c q:Nat)(S:Rs)(w':World):Prop:=∃own',(∀b,b<w.heap.size->¬(c<=own b∧own b<=c+6)->own' b=own b)∧(∀b,w.heap.size<=b->own' b=0∨(c<=own' b∧own' b<=c+6))∧(∀b,b<w.heap.size->c<=own b->own b<=c+6->own' b=0∨(c<=own' b∧own' b<=c+6))∧RsAt w' own' c q S∧Tch (fun k=>c<=own k∧own k<=c+6) w w'
def RrOk(w:World)(own:Clr)(c p:Nat)(x:Rr)(w':World):Prop:=∃own',(∀b,b<w.heap.size->own b ≠ c->own' b=own b)∧(∀b,w.heap.size<=b->own' b=0∨own' b=c)∧(∀b,b<w.heap.size->own b=c->own' b=0∨own' b=c)∧RrAt w' own' c p x∧Tch (fun k=>own k=c) w w'
theorem RsOk.below{w w':World}{own:Clr}{c q:Nat}{S:Rs}(h:RsAt w own c q S)(hb:Below w.heap.size w w'):RsOk w own c q S w':=
 ⟨newTo own w.heap.size 0,fun b hl _=>zac _ _ _ _ hl,fun b hl=> .inl (zae _ _ _ _ hl),fun b hl h1 h2=> .inr (by rw [zac _ _ _ _ hl];exact⟨h1,h2⟩),h.kp (D:=fun _=>True) (Kp.below _ hb (zaf _ _ _)) trivial (fun _ _ _=>trivial),Tch.below hb⟩
theorem RsOk.rep{w w':World}{own:Clr}{c q rg cc:Nat}{S:Rs}{wv:Value}{prs:List Nat}(h:RsIn w own c q S rg cc wv prs)(hc:0<c)(r:Nat)(hr:r<prs.length){x:Rr}(ho:RrOk w own (c+1+r) prs[r] x w'):RsOk w own c q {S with reps:=S.reps.set r x} w':=by
 obtain⟨own',h1,h2,h3,h4,h5⟩:=ho
 have hm:=h.most
 have hl:=h.len
 have hK:Kp (fun d=>d ≠ c+1+r) own own' w w':=fun b hb hd=>⟨h5.block b hb hd,h1 b hb hd⟩
 refine⟨own',fun b hb hn=>h1 b hb (by omega),fun b hb=> ?_,fun b hb e1 e2=> ?_,⟨rg,cc,wv,prs, ?_⟩,h5.mono (fun k _ e=>by rw [e];omega)⟩
 ·rcases h2 b hb with e | e
  ·exact .inl e
  ·exact .inr (by rw [e];omega)
 ·by_cases e:own b=c+1+r
  ·rcases h3 b hb e with e | e
   ·exact .inl e
   ·exact .inr (by rw [e];omega)
  ·exact .inr (by rw [h1 b hb e];exact⟨e1,e2⟩)
 ·have hrg:=hK rg h.rlt (by show own rg ≠ _;rw [h.own2];omega)
  have hq:=hK q h.blk.lt (by show own q ≠ _;rw [h.own1];omega)
  have hww:=zcn h.way h.ownw hK (by show c+6 ≠ _;omega)
  refine⟨by show Blk w' q #[.slice (some ⟨rg,0,none⟩) (S.reps.set r x).length cc,wv] 106;rw [List.length_set];exact hq.1.trans h.blk,hq.2.trans h.own1,fun k hk=>zan (h.row k hk) hrg.1,hrg.2.trans h.own2,by show prs.length=(S.reps.set r x).length;rw [List.length_set];exact hl,by show(S.reps.set r x).length<=4;rw [List.length_set];exact hm,by show 2<=(S.reps.set r x).length;rw [List.length_set];exact h.least,fun k k1 k2=> ?_,hww.1,h.room,hww.2⟩
  show RrAt w' own' (c+1+k) prs[k] (S.reps.set r x)[k]
  by_cases hk:r=k
  ·subst hk
   rw [List.getElem_set_self]
   exact h4
  ·rw [List.getElem_set_ne hk]
   exact(h.reps k k1 (by have k2:k<(S.reps.set r x).length:=k2;rw [List.length_set] at k2;exact k2)).kp hK (by show 0 ≠ _;omega) (by show c+1+k ≠ _;omega)
theorem RsIn.prl{w:World}{own:Clr}{c q rg cc:Nat}{S:Rs}{wv:Value}{prs:List Nat}(h:RsIn w own c q S rg cc wv prs){r:Nat}{x:Rr}(hx:S.reps[r]?=some x):∃hr:r<prs.length,RrAt w own (c+1+r) prs[r] x:=by
 obtain⟨hrn,rfl⟩:=List.getElem?_eq_some_iff.1 hx
 have hl:=h.len
 exact⟨by omega,h.reps r (by omega) hrn⟩
theorem zc0(a:Int)(h1: -9223372036854775808<=a)(h2:a<=9223372036854775807):IntKind.i64.wrap a=a:=by
 simp only [IntKind.wrap,IntKind.bits,IntKind.signed]
 simp
 split<;>omega
def zc6(c:List Int)(b:Bm):List Int:=c.set b.b.o.toNat (c.getD b.b.o.toNat 0+1)
def cntK(bs:List Bm)(n:Nat):List Int:=bs.foldl zc6 (List.replicate n 0)
theorem zx4(bs:List Bm):∀c:List Int,(bs.foldl zc6 c).length=c.length:=by
 induction bs with
 | nil=>intro c;rfl
 | cons b bs ih=>intro c;rw [List.foldl_cons,ih];unfold zc6;rw [List.length_set]
theorem zfi(bs:List Bm)(n:Nat):(cntK bs n).length=n:=by unfold cntK;rw [zx4,List.length_replicate]
theorem zlb(bs:List Bm)(n i:Nat)(hi:i<bs.length):cntK (bs.take (i+1)) n=zc6 (cntK (bs.take i) n) bs[i]:=zck zc6 _ bs i hi
theorem zhe(bs:List Bm)(n:Nat):∀z∈cntK bs n,0<=z∧z<=bs.length:=by
 have h:∀(bs:List Bm) (c:List Int) (m:Nat),(∀z∈c,0<=z∧z<=m)->∀z∈bs.foldl zc6 c,0<=z∧z<=((m+bs.length:Nat):Int):=by
  intro bs
  induction bs with
  | nil=>intro c m h z hz;exact h z hz
  | cons b bs ih=>
   intro c m h z hz
   rw [List.foldl_cons] at hz
   have:=ih (zc6 c b) (m+1) (fun y hy=> ?_) z hz
   ·rw [List.length_cons];omega
   ·unfold zc6 at hy
    rcases List.mem_or_eq_of_mem_set hy with hy | rfl
    ·have:=h y hy;omega
    ·by_cases hq:b.b.o.toNat<c.length
     ·have e:c.getD b.b.o.toNat 0=c[b.b.o.toNat]:=by simp [hq]
      rw [e]
      have:=h _ (List.getElem_mem hq)
      omega
     ·have e:c.getD b.b.o.toNat 0=0:=by simp [List.getD_eq_getElem?_getD,List.getElem?_eq_none (Nat.le_of_not_lt hq)]
      rw [e];omega
 intro z hz
 have:=h bs (List.replicate n 0) 0 (fun y hy=>by rw [List.eq_of_mem_replicate hy];omega) z hz
 omega
theorem zzf(cs:List Int)(j:Nat)(z:Int):(cs.map I).toArray.setIfInBounds j (I z)=((cs.set j z).map I).toArray:=by
 rw [List.map_set]
 simp
theorem zio(bs:List Bm)(a:Option Addr)(c n:Nat)(w:World)(h:At w a (flat Bm.cells bs))(hl:bs.length<=1048576)(hn:n<=4)(ho:∀b∈bs,0<=b.b.o∧b.b.o<n):
  Calls Tryz.prog 128 #[.slice a bs.length c,I n] w fun e w'=>∃g,e= .returned (.slice (some ⟨g,0,none⟩) n n)∧w.heap.size<=g∧Blk w' g ((cntK bs n).map I).toArray 3∧Below w.heap.size w w':=by
 have HA:Hid (At w a (flat Bm.cells bs)):=h
 have HO:Hid (∀b∈bs,0<=b.b.o∧b.b.o<n):=ho
 have hms:=fun W=>mkslI n hn W
 clear h ho
 go_enter Tryz.func128,Tryz.ntmps128
 go_wp2_with fail
 clear hms
 go_loopw [6] (fun x wr=>∃(i:Nat),i<=bs.length∧x=I i∧Hid (Blk wr w.heap.size ((cntK (bs.take i) n).map I).toArray 3)∧Hid (Below w.heap.size w wr)) (fun x _=>bs.length - (intOf x).toNat)
 case atStart=>
  refine⟨0,by omega,rfl, ?_,(Below.refl _ _).alloc (Nat.le_refl _) _⟩
  have e:((cntK (bs.take 0) n).map I).toArray=(List.replicate n (I 0)).toArray:=by simp [cntK]
  show Blk _ _ _ _
  rw [e]
  exact heap_alloc_new w _
 case round=>
  obtain⟨i,hi,rfl,HK,HB⟩:=hrel
  by_cases hlt:i<bs.length
  ·have hii:(i:Int)<bs.length:=by omega
   obtain⟨p,q,rfl,hc⟩:=zhh HA.out (by omega)
   obtain⟨ho1,ho2⟩:=HO.out _ (List.getElem_mem hlt)
   have g0:wr.cell? ⟨p,q+i*5,none⟩=some (I bs[i].b.o):=zaa HB.out (hc i hlt 0 _ rfl)
   have HSU:=zlb bs n i hlt
   unfold zc6 at HSU
   have hbd:=zhe (bs.take i) n
   have hlen:=zfi (bs.take i) n
   obtain⟨r,hr⟩:∃r:Nat,bs[i].b.o=r:=⟨bs[i].b.o.toNat,by omega⟩
   rw [hr,Int.toNat_natCast] at HSU
   rw [hr] at g0 ho2
   have HS:Hid (cntK (bs.take (i+1)) n=(cntK (bs.take i) n).set r ((cntK (bs.take i) n).getD r 0+1)):=HSU
   clear HSU hc hr ho1
   have hrn:r<n:=by omega
   have hri:(r:Int)<(n:Int):=by omega
   generalize cntK (bs.take i) n=cs at *
   have hrc:r<cs.length:=by omega
   have e1:cs.getD r 0=cs[r]:=by simp [hrc]
   have hz:=hbd _ (List.getElem_mem hrc)
   have hz2:cs[r]<=1048576:=by rw [List.length_take] at hz;omega
   have k0:wr.cell? ⟨w.heap.size,r,none⟩=some (I cs[r]):=by rw [HK.out.cell];simp [hrc]
   have z0:wr.frozen? ⟨w.heap.size,r,none⟩=false:=HK.out.frozen r
   have hwrap:IntKind.i64.wrap (cs[r]+1)=cs[r]+1:=zc0 _ (by omega) (by omega)
   have LK:Hid (Blk (wr.setCell ⟨w.heap.size,r,none⟩ (I (cs[r]+1))) w.heap.size ((cntK (bs.take (i+1)) n).map I).toArray 3):=by
    show Blk _ _ _ _
    rw [HS.out,e1,←zzf]
    exact HK.out.set r _
   have LB:Hid (Below w.heap.size w (wr.setCell ⟨w.heap.size,r,none⟩ (I (cs[r]+1)))):=HB.out.setCell (by show w.heap.size<=w.heap.size;omega) _
   clear HS HK hbd hlen
   generalize cs[r]=z at *
   go_wp2_with fail
   go_roundw
   case rel=>exact⟨i+1,by omega,by go_num,LK,LB⟩
   case measure=>simp [intOf];omega
  ·have hii:¬(i:Int)<bs.length:=by omega
   have HF:Hid (Blk wr w.heap.size ((cntK bs n).map I).toArray 3):=by have:=HK.out;rw [List.take_of_length_le (by omega)] at this;exact this
   clear HK
   go_wp2
   go_ret
   exact⟨w.heap.size,rfl,Nat.le_refl _,HF.out,HB.out⟩
section
variable {w w1 w' : World} {own : Clr} {c p q : Nat} {x : Rr} {dv ev : Value}
theorem RrOk.after(hb:Below w.heap.size w w1)(ho:RrOk w1 (newTo own w.heap.size 0) c p x w'):RrOk w own c p x w':=by
 obtain⟨own',h1,h2,h3,h4,h5⟩:=ho
 have hs:=hb.size
 refine⟨own',fun b hl hn=> ?_,fun b hl=> ?_,fun b hl he=> ?_,h4,(Tch.below hb).trans h5 (fun _ _ h=>h) (fun k hk h=>by rw [zac _ _ _ _ hk] at h;exact h)⟩
 ·rw [h1 b (by omega) (by rw [zac _ _ _ _ hl];exact hn),zac _ _ _ _ hl]
 ·by_cases hq:b<w1.heap.size
  ·by_cases hc:newTo own w.heap.size 0 b=c
   ·exact h3 b hq hc
   ·rw [h1 b hq hc,zae _ _ _ _ hl];exact .inl rfl
  ·exact h2 b (by omega)
 ·exact h3 b (by omega) (by rw [zac _ _ _ _ hl];exact he)
theorem RrIn.below(h:RrIn w own c p x dv ev)(hb:Below w.heap.size w w'):RrIn w' (newTo own w.heap.size 0) c p x dv ev:=h.kp (D:=fun _=>True) (Kp.below _ hb (zaf _ _ _)) trivial trivial
theorem RsIn.below{S:Rs}{rg cc:Nat}{wv:Value}{prs:List Nat}(h:RsIn w own c q S rg cc wv prs)(hb:Below w.heap.size w w'):RsIn w' (newTo own w.heap.size 0) c q S rg cc wv prs:=h.kp (D:=fun _=>True) (Kp.below _ hb (zaf _ _ _)) trivial (fun _ _ _=>trivial)
theorem RrIn.nep(h:RrIn w own c p x dv ev):(∀g,dv.ownBlock=some g->g ≠ p)∧(∀g,ev.ownBlock=some g->g ≠ p)∧(∀g k,dv.ownBlock=some g->ev.ownBlock=some k->g ≠ k):=by
 have hty:∀{t:TypeId} {s n:Nat} {v:Value} {xs:List Value} {g:Nat},w.ownsRow 0 t s v n xs->v.ownBlock=some g->∃cs,w.heap[g]?=some (.cells cs t):=by
  intro t s n v xs g hr hg
  rcases hr.2 with⟨rfl,_⟩ | ⟨g',cap,cur,rfl,_,r1,_⟩
  ·cases hg
  ·cases hg;exact⟨_,r1⟩
 have hp:w.heap[p]?=some (.cells _ 111):=h.blk
 refine⟨fun g hg e=> ?_,fun g hg e=> ?_,fun g k hg hk e=> ?_⟩
 ·obtain⟨cs,h1⟩:=hty h.done hg
  rw [e,hp] at h1
  cases h1
 ·obtain⟨cs,h1⟩:=hty h.effs.row hg
  rw [e,hp] at h1
  cases h1
 ·obtain⟨cs,h1⟩:=hty h.done hg
  obtain⟨cs',h2⟩:=hty h.effs.row hk
  rw [e,h2] at h1
  cases h1
theorem EffsAt.none(w:World)(own:Clr)(c:Nat):EffsAt w own c (.slice none 0 0) []:=⟨⟨rfl, .inl ⟨rfl,rfl⟩⟩,fun g e=>(by cases e),fun x hx=>(by cases hx)⟩
theorem zp0(hT:Tch (fun k=>own k=c) w w'):Kp (fun d=>d ≠ c) own (newTo own w.heap.size 0) w w':=fun b hb hd=>⟨hT.block b hb hd,zac _ _ _ _ hb⟩
theorem RrOk.mk(hR:RrAt w' (newTo own w.heap.size 0) c p x)(hT:Tch (fun k=>own k=c) w w'):RrOk w own c p x w':=
 ⟨newTo own w.heap.size 0,fun b hl _=>zac _ _ _ _ hl,fun b hl=> .inl (zae _ _ _ _ hl),fun b hl e=> .inr (by rw [zac _ _ _ _ hl];exact e),hR,hT⟩
theorem RrIn.shut(h:RrIn w own c p x dv ev)(hc:0<c)(b:Bool):RrOk w own c p {x with op:=b,es:= []} ((w.setCell ⟨p,5,none⟩ (.bool b)).setCell ⟨p,6,none⟩ (.slice none 0 0)):=by
 have hT:Tch (fun k=>k=p) w ((w.setCell ⟨p,5,none⟩ (.bool b)).setCell ⟨p,6,none⟩ (.slice none 0 0)):=Tch.setCell (F:=fun k=>k=p) (Tch.setCell (F:=fun k=>k=p) (Tch.refl _ w) ⟨p,5,none⟩ _ (.inl rfl)) ⟨p,6,none⟩ _ (.inl rfl)
 have hT2:Tch (fun k=>own k=c) w ((w.setCell ⟨p,5,none⟩ (.bool b)).setCell ⟨p,6,none⟩ (.slice none 0 0)):=hT.mono (fun k _ e=>by rw [e];exact h.own1)
 obtain⟨n1,n2,n3⟩:=h.nep
 refine RrOk.mk ⟨dv, .slice none 0 0, ?_,(zac _ _ _ _ h.blk.lt).trans h.own1,zah h.done (fun g e=>hT.block g (h.done.lt g e).2 (n1 g e)),fun g e=>(zac _ _ _ _ (h.done.lt g e).2).trans (h.own2 g e),fun m hm=>(h.bats m hm).kp (zp0 hT2) (by show 0 ≠ c;omega),EffsAt.none _ _ _⟩ hT2
 exact(h.blk.set 5 (.bool b)).set 6 (.slice none 0 0)
end
section
variable {w : World} {own : Clr} {c q rg cc : Nat} {S : Rs} {wv : Value} {prs : List Nat}
theorem zgg(r:Int)(up:Bool)(w:World):
  Calls Tryz.prog 127 #[.pointer none,I r, .bool up] w fun e w'=>e= .returned (I 1)∧w'=w:=by
 go_enter Tryz.func127,Tryz.ntmps127
 go_wp2
 go_ret
 exact⟨rfl,rfl⟩
theorem zgf(r:Int)(up:Bool)(h:RsIn w own c q S rg cc wv prs)(hr:¬(0<=r∧r<S.reps.length)):
  Calls Tryz.prog 127 #[.pointer (some ⟨q,0,none⟩),I r, .bool up] w fun e w'=>e= .returned (I 3)∧w'=w:=by
 have c0:w.cell? ⟨q,0,none⟩=some (.slice (some ⟨rg,0,none⟩) S.reps.length cc):=h.blk.cell 0
 clear h
 generalize S.reps.length=n at *
 by_cases h0:r<0
 ·clear hr
  go_enter Tryz.func127,Tryz.ntmps127
  go_wp2
  go_ret
  exact⟨rfl,rfl⟩
 ·have h1:(n:Int)<=r:=by omega
  clear hr
  go_enter Tryz.func127,Tryz.ntmps127
  go_wp2
  go_ret
  exact⟨rfl,rfl⟩
theorem zco(r:Nat)(x:Rr)(up:Bool)(h:RsIn w own c q S rg cc wv prs)(hx:S.reps[r]?=some x):
  Calls Tryz.prog 127 #[.pointer (some ⟨q,0,none⟩),I r, .bool up] w fun e w'=>e= .returned (I 0)∧w'=w:=by
 obtain⟨hr,dv,ev,hrr⟩:=h.prl hx
 have hrn:r<S.reps.length:=by have:=h.len;omega
 have hri:(r:Int)<(S.reps.length:Int):=by omega
 have hri2:¬(S.reps.length:Int)<=(r:Int):=by omega
 have c0:w.cell? ⟨q,0,none⟩=some (.slice (some ⟨rg,0,none⟩) S.reps.length cc):=h.blk.cell 0
 have c1:w.cell? ⟨rg,r,none⟩=some (.pointer (some ⟨prs[r],0,none⟩)):=h.row r hr
 have c2:w.cell? ⟨prs[r],0,none⟩=some (.bool true):=hrr.blk.cell 0
 clear h hrr hx
 generalize prs[r]=p at *
 generalize S.reps.length=n at *
 cases up with
 | true=>
  go_enter Tryz.func127,Tryz.ntmps127
  go_wp2
  go_ret
  exact⟨rfl,rfl⟩
 | false=>
  go_enter Tryz.func127,Tryz.ntmps127
  go_wp2
  go_ret
  exact⟨rfl,rfl⟩
theorem zs8(r:Int)(w:World):
  Calls Tryz.prog 129 #[.pointer none,I r] w fun e w'=>e= .returned (I 1)∧w'=w:=by
 go_enter Tryz.func129,Tryz.ntmps129
 go_wp2_with fail
 refine(zgg r true w).mono ?_
 rintro e w1 ⟨rfl,hw1⟩
 subst hw1
 go_wp2
 go_ret
 exact⟨rfl,rfl⟩
theorem zs7(r:Int)(h:RsIn w own c q S rg cc wv prs)(hr:¬(0<=r∧r<S.reps.length)):
  Calls Tryz.prog 129 #[.pointer (some ⟨q,0,none⟩),I r] w fun e w'=>e= .returned (I 3)∧w'=w:=by
 have HC:=zgf r true h hr
 clear h hr
 go_enter Tryz.func129,Tryz.ntmps129
 go_wp2_with fail
 refine HC.mono ?_
 rintro e w1 ⟨rfl,hw1⟩
 subst hw1
 go_wp2
 go_ret
 exact⟨rfl,rfl⟩
theorem zeb(r:Nat)(x:Rr)(h:RsIn w own c q S rg cc wv prs)(hx:S.reps[r]?=some x):
  Calls Tryz.prog 129 #[.pointer (some ⟨q,0,none⟩),I r] w fun e w'=>e= .returned (I (if x.op then 0 else 7))∧w'=w:=by
 have HC:=zco r x true h hx
 obtain⟨hr,dv,ev,hrr⟩:=h.prl hx
 have hrn:r<S.reps.length:=by have:=h.len;omega
 have hri:(r:Int)<(S.reps.length:Int):=by omega
 have c0:w.cell? ⟨q,0,none⟩=some (.slice (some ⟨rg,0,none⟩) S.reps.length cc):=h.blk.cell 0
 have c1:w.cell? ⟨rg,r,none⟩=some (.pointer (some ⟨prs[r],0,none⟩)):=h.row r hr
 have c2:w.cell? ⟨prs[r],5,none⟩=some (.bool x.op):=hrr.blk.cell 5
 clear h hrr hx
 generalize prs[r]=p at *
 generalize S.reps.length=n at *
 generalize x.op=b at *
 cases b with
 | true=>
  go_enter Tryz.func129,Tryz.ntmps129
  go_wp2_with fail
  refine HC.mono ?_
  rintro e w1 ⟨rfl,hw1⟩
  subst hw1
  clear HC
  go_wp2
  go_ret
  exact⟨rfl,rfl⟩
 | false=>
  go_enter Tryz.func129,Tryz.ntmps129
  go_wp2_with fail
  refine HC.mono ?_
  rintro e w1 ⟨rfl,hw1⟩
  subst hw1
  clear HC
  go_wp2
  go_ret
  exact⟨rfl,rfl⟩
end
def zfj(w:World)(sv:Value)(r e:Int):Prop:=e ≠ 0∧∀up:Bool,Calls Tryz.prog 127 #[sv,I r, .bool up] w fun x w'=>x= .returned (I e)∧w'=w
def zfl(w:World)(sv:Value)(r e:Int):Prop:=e ≠ 0∧Calls Tryz.prog 129 #[sv,I r] w fun x w'=>x= .returned (I e)∧w'=w
theorem zpb(w:World)(r:Int):zfj w (.pointer none) r 1:=⟨by omega,fun up=>zgg r up w⟩
theorem zpo(w:World)(r:Int):zfl w (.pointer none) r 1:=⟨by omega,zs8 r w⟩
section
variable {w : World} {own : Clr} {c q rg cc : Nat} {S : Rs} {wv : Value} {prs : List Nat}
theorem zpa(r:Int)(h:RsIn w own c q S rg cc wv prs)(hr:¬(0<=r∧r<S.reps.length)):zfj w (.pointer (some ⟨q,0,none⟩)) r 3:=⟨by omega,fun up=>zgf r up h hr⟩
theorem zpn(r:Int)(h:RsIn w own c q S rg cc wv prs)(hr:¬(0<=r∧r<S.reps.length)):zfl w (.pointer (some ⟨q,0,none⟩)) r 3:=⟨by omega,zs7 r h hr⟩
theorem zfe(r:Nat)(x:Rr)(h:RsIn w own c q S rg cc wv prs)(hx:S.reps[r]?=some x)(hop:x.op=false):zfl w (.pointer (some ⟨q,0,none⟩)) r 7:=⟨by omega,by have:=zeb r x h hx;rw [hop] at this;exact this⟩
end
section
variable {w : World} {sv : Value} {r e : Int}
theorem zpf(h:zfj w sv r e):Calls Tryz.prog 83 #[sv,I r] w fun x w'=>x= .returned (I e)∧w'=w:=by
 have he:=h.1
 have HC:=h.2 true
 clear h
 go_enter Tryz.func83,Tryz.ntmps83
 go_wp2_with fail
 refine HC.mono ?_
 rintro e w1 ⟨rfl,hw1⟩
 subst hw1
 clear HC
 go_wp2
 go_ret
 exact⟨rfl,rfl⟩
theorem zip(h:zfl w sv r e):Calls Tryz.prog 85 #[sv,I r] w fun x w'=>x= .returned (I e)∧w'=w:=by
 have he:=h.1
 have HC:=h.2
 clear h
 go_enter Tryz.func85,Tryz.ntmps85
 go_wp2_with fail
 refine HC.mono ?_
 rintro e w1 ⟨rfl,hw1⟩
 subst hw1
 clear HC
 go_wp2
 go_ret
 exact⟨rfl,rfl⟩
theorem zrp(op k x y:Int)(h:zfl w sv r e):Calls Tryz.prog 84 #[sv,I r,I op,I k,I x,I y] w fun x w'=>x= .returned (I e)∧w'=w:=by
 have he:=h.1
 have HC:=h.2
 clear h
 go_enter Tryz.func84,Tryz.ntmps84
 go_wp2_with fail
 refine HC.mono ?_
 rintro e w1 ⟨rfl,hw1⟩
 subst hw1
 clear HC
 go_wp2
 go_ret
 exact⟨rfl,rfl⟩
theorem zs3(k:Int)(h:zfj w sv r e):Calls Tryz.prog 87 #[sv,I r,I k] w fun x w'=>x= .returned (.tuple #[.slice none 0 0,I e])∧w'=w:=by
 have he:=h.1
 have HC:=h.2 true
 clear h
 go_enter Tryz.func87,Tryz.ntmps87
 go_wp2_with fail
 refine HC.mono ?_
 rintro e w1 ⟨rfl,hw1⟩
 subst hw1
 clear HC
 go_wp2
 go_ret2
 exact⟨rfl,rfl⟩
theorem zhj(h:zfl w sv r e):Calls Tryz.prog 86 #[sv,I r] w fun x w'=>x= .returned (.tuple #[I 0,I e])∧w'=w:=by
 have he:=h.1
 have HC:=h.2
 clear h
 go_enter Tryz.func86,Tryz.ntmps86
 go_wp2_with fail
 refine HC.mono ?_
 rintro e w1 ⟨rfl,hw1⟩
 subst hw1
 clear HC
 go_wp2
 go_ret2
 exact⟨rfl,rfl⟩
theorem zpe(h:zfj w sv r e):Calls Tryz.prog 90 #[sv,I r] w fun x w'=>x= .returned (.tuple #[.slice none 0 0,I e])∧w'=w:=by
 have he:=h.1
 have HC:=h.2 false
 clear h
 go_enter Tryz.func90,Tryz.ntmps90
 go_wp2_with fail
 refine HC.mono ?_
 rintro e w1 ⟨rfl,hw1⟩
 subst hw1
 clear HC
 go_wp2
 go_ret2
 exact⟨rfl,rfl⟩
theorem zv3(h:zfj w sv r e):Calls Tryz.prog 92 #[sv,I r] w fun x w'=>x= .returned (.tuple #[.string ⟨#[]⟩,I e])∧w'=w:=by
 have he:=h.1
 have HC:=h.2 false
 clear h
 go_enter Tryz.func92,Tryz.ntmps92
 go_wp2_with fail
 refine HC.mono ?_
 rintro e w1 ⟨rfl,hw1⟩
 subst hw1
 clear HC
 go_wp2
 go_ret2
 exact⟨rfl,rfl⟩
end
section
variable {w : World} {own : Clr} {c q rg cc : Nat} {S : Rs} {wv : Value} {prs : List Nat}
theorem zyp(r:Nat)(x:Rr)(h:RsIn w own c q S rg cc wv prs)(hx:S.reps[r]?=some x):
  Calls Tryz.prog 92 #[.pointer (some ⟨q,0,none⟩),I r] w fun e w'=>e= .returned (.tuple #[.string ⟨x.log.toArray⟩,I 0])∧w'=w:=by
 have HC:=zco r x false h hx
 obtain⟨hr,dv,ev,hrr⟩:=h.prl hx
 have hrn:r<S.reps.length:=by have:=h.len;omega
 have hri:(r:Int)<(S.reps.length:Int):=by omega
 have c0:w.cell? ⟨q,0,none⟩=some (.slice (some ⟨rg,0,none⟩) S.reps.length cc):=h.blk.cell 0
 have c1:w.cell? ⟨rg,r,none⟩=some (.pointer (some ⟨prs[r],0,none⟩)):=h.row r hr
 have c2:w.cell? ⟨prs[r],3,none⟩=some (.string ⟨x.log.toArray⟩):=hrr.blk.cell 3
 clear h hrr hx
 generalize prs[r]=p at *
 generalize S.reps.length=n at *
 generalize x.log.toArray=lg at *
 go_enter Tryz.func92,Tryz.ntmps92
 go_wp2_with fail
 refine HC.mono ?_
 rintro e w1 ⟨rfl,hw1⟩
 subst hw1
 clear HC
 go_wp2
 go_ret2
 exact⟨rfl,rfl⟩
theorem ztf(r:Nat)(x:Rr)(h:RsIn w own c q S rg cc wv prs)(hc:0<c)(hx:S.reps[r]?=some x)(hop:x.op=true):
  Calls Tryz.prog 85 #[.pointer (some ⟨q,0,none⟩),I r] w fun e w'=>e= .returned (I 0)∧RsOk w own c q {S with reps:=S.reps.set r {x with op:=false,es:= []}} w':=by
 have HC:=zeb r x h hx
 rw [hop] at HC
 obtain⟨hr,dv,ev,hrr⟩:=h.prl hx
 have hrn:r<S.reps.length:=by have:=h.len;omega
 have hri:(r:Int)<(S.reps.length:Int):=by omega
 have c0:w.cell? ⟨q,0,none⟩=some (.slice (some ⟨rg,0,none⟩) S.reps.length cc):=h.blk.cell 0
 have c1:w.cell? ⟨rg,r,none⟩=some (.pointer (some ⟨prs[r],0,none⟩)):=h.row r hr
 have d5:w.cell? ⟨prs[r],5,none⟩=some (.bool x.op):=hrr.blk.cell 5
 have z5:w.frozen? ⟨prs[r],5,none⟩=false:=hrr.blk.frozen 5
 have HE:Hid (RsOk w own c q {S with reps:=S.reps.set r {x with op:=false,es:= []}} ((w.setCell ⟨prs[r],5,none⟩ (.bool false)).setCell ⟨prs[r],6,none⟩ (.slice none 0 0))):=RsOk.rep h hc r hr (hrr.shut (by omega) false)
 have hqp:q ≠ prs[r]:=by
  intro e
  have h1:=h.blk
  have h2:=hrr.blk
  rw [e] at h1
  have h3:=Option.some.inj (h1.symm.trans h2)
  cases h3
 have hrp:rg ≠ prs[r]:=by
  intro e
  have h1:=h.own2
  have h2:=hrr.own1
  rw [e] at h1
  omega
 have f0:(w.setCell ⟨prs[r],5,none⟩ (.bool false)).cell? ⟨q,0,none⟩=some (.slice (some ⟨rg,0,none⟩) S.reps.length cc):=zan c0 (heap_setCell_other _ _ _ _ hqp)
 have f1:(w.setCell ⟨prs[r],5,none⟩ (.bool false)).cell? ⟨rg,r,none⟩=some (.pointer (some ⟨prs[r],0,none⟩)):=zan c1 (heap_setCell_other _ _ _ _ hrp)
 have f6:(w.setCell ⟨prs[r],5,none⟩ (.bool false)).cell? ⟨prs[r],6,none⟩=some ev:=(hrr.blk.set 5 (.bool false)).cell 6
 have y6:(w.setCell ⟨prs[r],5,none⟩ (.bool false)).frozen? ⟨prs[r],6,none⟩=false:=(hrr.blk.set 5 (.bool false)).frozen 6
 clear h hrr hx hop
 generalize prs[r]=p at *
 generalize S.reps.length=n at *
 generalize x.op=b at *
 go_enter Tryz.func85,Tryz.ntmps85
 go_wp2_with fail
 refine HC.mono ?_
 rintro e w1 ⟨rfl,hw1⟩
 subst hw1
 clear HC
 go_wp2
 go_ret
 exact⟨rfl,HE.out⟩
end
theorem zv1(n:Int)(hn:¬(2<=n∧n<=4))(w:World):
  Calls Tryz.prog 33 #[I n] w fun e w'=>e= .returned (.tuple #[.pointer none,I 2])∧w'=w:=by
 by_cases h1:n<2
 ·clear hn
  go_enter Tryz.func33,Tryz.ntmps33
  go_wp2
  go_ret2
  exact⟨rfl,rfl⟩
 ·have h2:4<n:=by omega
  clear hn
  go_enter Tryz.func33,Tryz.ntmps33
  go_wp2
  go_ret2
  exact⟨rfl,rfl⟩
end Go.Proofs.YtfmcngncaffloaaGreatDoor
