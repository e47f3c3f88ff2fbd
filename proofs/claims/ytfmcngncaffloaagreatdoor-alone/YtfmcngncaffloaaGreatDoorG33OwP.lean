import Derived.Test.YtfmcngncaffloaaGreatDoorG32RfE
set_option maxHeartbeats 6400000
namespace Go.Proofs.YtfmcngncaffloaaGreatDoor
open Go.RowKit
set_option maxRecDepth 100000
def zbi(x:Rr)(n r g:Nat)(ea:Option Addr)(ec:Nat):Bm:=⟨zao x n r,some ⟨g,0,none⟩,ea,n,ec,x.es⟩
theorem zl6(x:Rr)(n r g:Nat)(ea:Option Addr)(ec:Nat):(zbi x n r g ea ec).cells= [I r,I (zao x n r).s,I (zao x n r).t, .slice (some ⟨g,0,none⟩) n n, .slice ea x.es.length ec]:=by
 unfold zbi Bm.cells
 have h1:(zao x n r).clock.length=n:=zfi _ _
 have h2:(zao x n r).effs.length=x.es.length:=List.length_map ..
 show [I r,I (zao x n r).s,I (zao x n r).t, .slice (some ⟨g,0,none⟩) (zao x n r).clock.length n, .slice ea (zao x n r).effs.length ec]=_
 rw [h1,h2]
theorem zu5{w w':World}{own:Clr}{c p:Nat}{x:Rr}{dv:Value}{ea:Option Addr}{ec n r g:Nat}(h:RrIn w own c p x dv (.slice ea x.es.length ec))(hb:Below w.heap.size w w')(hk:Blk w' g ((cntK x.bs n).map I).toArray 3):BatAt w' (zao x n r) (some ⟨g,0,none⟩) ea x.es:=
 ⟨fun j u hj=>⟨g,0,rfl,by rw [Nat.zero_add,hk.cell];have hj:((cntK x.bs n).map I)[j]?=some u:=hj;simpa using hj⟩,rfl,(zaw h.effs.row).kept hb,fun m hm=>(h.effs.dots m hm).at.kept hb⟩
theorem zzi(bs:List Bm):(flat Bm.cells bs).length=bs.length*5:=zaq _ 5 zbp bs
def zd7(w:World)(x:Rr)(n r:Nat)(ea:Option Addr)(ec:Nat)(w':World)(L:List Bm):Prop:=
 (L=x.bs∧¬(x.op=true∧x.es ≠ []))∨∃g,L=x.bs++ [zbi x n r g ea ec]∧(x.op=true∧x.es ≠ [])∧w.heap.size<=g∧Blk w' g ((cntK x.bs n).map I).toArray 3
section
variable {w : World} {own : Clr} {c q rg cc : Nat} {S : Rs} {wv : Value} {prs : List Nat}
theorem zmw(r:Nat)(x:Rr)(h:RsIn w own c q S rg cc wv prs)(hb:BsOk x.bs S.reps.length)(dv:Value)(ea:Option Addr)(ec:Nat)(hr:r<prs.length)(hrr:RrIn w own (c+1+r) prs[r] x dv (.slice ea x.es.length ec)):
  Calls Tryz.prog 132 #[.pointer (some ⟨q,0,none⟩),I r] w fun e w'=>∃L a m,e= .returned (.slice a L.length m)∧zd7 w x S.reps.length r ea ec w' L∧w'.ownsRow w.heap.size 124 5 (.slice a L.length m) L.length (flat Bm.cells L)∧Below w.heap.size w w':=by
 have hm:=h.most
 have hrn:r<S.reps.length:=by have:=h.len;omega
 have hri:(r:Int)<(S.reps.length:Int):=by omega
 obtain⟨da,dc,rfl⟩:=zar hrr.done
 have hbl:=hb.len
 obtain⟨i1,HI1⟩:∃i,Hid (Tryz.prog.info? 124=some i∧i.zero=some (.agg #[.int .i64 0, .int .i64 0, .int .i64 0, .slice none 0 0, .slice none 0 0])∧i.size=5∧i.bytes=72):=by obtain⟨i,h⟩:=info_parts zlx;exact⟨i,h⟩
 have HD:Hid (∀w1,Below w.heap.size w w1->Calls Tryz.prog 134 #[.pointer (some ⟨q,0,none⟩),I r] w1 fun e w'=>∃g,e= .returned (.agg #[I r,I (zao x S.reps.length r).s,I (zao x S.reps.length r).t, .slice (some ⟨g,0,none⟩) S.reps.length S.reps.length, .slice ea x.es.length ec])∧w1.heap.size<=g∧Blk w' g ((cntK x.bs S.reps.length).map I).toArray 3∧Below w1.heap.size w1 w'):=fun w1 hb1=>zkl r x (h.below hb1) hb _ ea ec hr (hrr.below hb1)
 have c0:w.cell? ⟨q,0,none⟩=some (.slice (some ⟨rg,0,none⟩) S.reps.length cc):=h.blk.cell 0
 have c1:w.cell? ⟨rg,r,none⟩=some (.pointer (some ⟨prs[r],0,none⟩)):=h.row r hr
 have c3:w.cell? ⟨prs[r],1,none⟩=some (.slice da x.bs.length dc):=hrr.blk.cell 1
 have c5:w.cell? ⟨prs[r],5,none⟩=some (.bool x.op):=hrr.blk.cell 5
 have c6:w.cell? ⟨prs[r],6,none⟩=some (.slice ea x.es.length ec):=hrr.blk.cell 6
 have HA:Hid (At w da (flat Bm.cells x.bs)):=zaw hrr.done
 have HZ1:Hid (da=none->x.bs.length=0):=(zdy hrr.done).2
 have HL1:Hid ((flat Bm.cells x.bs).length=x.bs.length*5):=zzi x.bs
 have n1:0+x.bs.length<=maxLen:=by unfold maxLen;omega
 have n2:(0+x.bs.length)*72<=140737488355328:=by omega
 have n3:x.bs.length+1<=maxLen:=by unfold maxLen;omega
 have n4:(x.bs.length+1)*72<=140737488355328:=by omega
 have HNO:Hid (¬(x.op=true∧x.es ≠ [])->∀w',zd7 w x S.reps.length r ea ec w' x.bs):=fun hn w'=> .inl ⟨rfl,hn⟩
 have HYES:Hid ((x.op=true∧x.es ≠ [])->∀g w',w.heap.size<=g->Blk w' g ((cntK x.bs S.reps.length).map I).toArray 3->zd7 w x S.reps.length r ea ec w' (x.bs++ [zbi x S.reps.length r g ea ec])):=fun hn g w' h1 h2=> .inr ⟨g,rfl,hn,h1,h2⟩
 have HMC:Hid (∀g,(zbi x S.reps.length r g ea ec).cells= [I r,I (zao x S.reps.length r).s,I (zao x S.reps.length r).t, .slice (some ⟨g,0,none⟩) S.reps.length S.reps.length, .slice ea x.es.length ec]):=fun g=>zl6 x S.reps.length r g ea ec
 clear h hrr hb
 generalize prs[r]=p at *
 generalize S.reps.length=n at *
 generalize (zao x n r).s=bs at *
 generalize (zao x n r).t=bt at *
 go_enter Tryz.func132,Tryz.ntmps132
 go_upto_region 3 with(first | (at_builtin;refine za5 rfl _ _ _ rfl w.heap.size 124 i1 (.agg #[.int .i64 0, .int .i64 0, .int .i64 0, .slice none 0 0, .slice none 0 0]) 5 72 Tryz.underlying108 HI1.out.1 HI1.out.2.1 HI1.out.2.2.1 HI1.out.2.2.2 rfl (by decide) (.slice none 0 0) 0 [] rfl ⟨rfl, .inl ⟨rfl,rfl⟩⟩ da x.bs.length dc (flat Bm.cells x.bs) rfl HL1.out HZ1.out HA.out.addw (zjl _) n1 n2 (Nat.le_refl _) ?_;intro v5 w5 hown5 hgrow5;have HB5:Hid (Below w.heap.size w w5):=(Below.refl _ _).grown hgrow5 (Nat.le_refl _) (fun b e=>by cases e);rw [Nat.zero_add,List.nil_append] at hown5;obtain⟨oa,oc,rfl⟩:=zar hown5;have HO5:Hid (w5.ownsRow w.heap.size 124 5 (.slice oa x.bs.length oc) x.bs.length (flat Bm.cells x.bs)):=hown5;have d0:w5.cell? ⟨q,0,none⟩=some (.slice (some ⟨rg,0,none⟩) n cc):=zaa HB5.out c0;have d1:w5.cell? ⟨rg,r,none⟩=some (.pointer (some ⟨p,0,none⟩)):=zaa HB5.out c1;have d5:w5.cell? ⟨p,5,none⟩=some (.bool x.op):=zaa HB5.out c5;have d6:w5.cell? ⟨p,6,none⟩=some (.slice ea x.es.length ec):=zaa HB5.out c6;clear hown5 hgrow5 c0 c1 c3 c5 c6))
 by_cases hy:x.op=true∧x.es ≠ []
 ·have hpos:(0:Int)<(x.es.length:Int):=by have:=List.length_pos_iff.2 hy.2;omega
  have hpos2:0<x.es.length:=by omega
  have HY2:Hid (∀g w',w.heap.size<=g->Blk w' g ((cntK x.bs n).map I).toArray 3->zd7 w x n r ea ec w' (x.bs++ [zbi x n r g ea ec])):=HYES.out hy
  rw [hy.1] at d5
  clear hy HNO HYES
  go_wp2_with fail
  refine(HD.out w5 HB5.out).mono ?_
  rintro e w6 ⟨g,rfl,hg6,hk6,hb6⟩
  have hsz:w.heap.size<=w5.heap.size:=HB5.out.size
  have hsz6:w5.heap.size<=w6.heap.size:=hb6.size
  have HB6:Hid (Below w.heap.size w w6):=HB5.out.trans (hb6.mono hsz)
  have HO6:Hid (w6.ownsRow w.heap.size 124 5 (.slice oa x.bs.length oc) x.bs.length (flat Bm.cells x.bs)):=za6 HO5.out hb6
  have HK6:Hid (Blk w6 g ((cntK x.bs n).map I).toArray 3):=hk6
  have HG6:Hid (w5.heap.size<=g∧∀b,(Value.slice oa x.bs.length oc).ownBlock=some b->b<w5.heap.size):=⟨hg6,fun b e=>(HO5.out.lt b e).2⟩
  clear hg6 hk6 hb6 HO5 HB5 d0 d1 d5 d6
  go_upto_region 5 with fail
  obtain⟨w7,hw7⟩:∃w7,w7=w6.alloc (.cells #[I r,I bs,I bt, .slice (some ⟨g,0,none⟩) n n, .slice ea x.es.length ec] 124):=⟨_,rfl⟩
  have HX7:Hid (Blk w7 w6.heap.size #[I r,I bs,I bt, .slice (some ⟨g,0,none⟩) n n, .slice ea x.es.length ec] 124):=by rw [hw7];exact heap_alloc_new w6 _
  have HB7:Hid (Below w.heap.size w w7):=by rw [hw7];exact HB6.out.alloc HB6.out.size _
  have HO7:Hid (w7.ownsRow w.heap.size 124 5 (.slice oa x.bs.length oc) x.bs.length (flat Bm.cells x.bs)):=by rw [hw7];exact HO6.out.alloc _
  have HK7:Hid (Blk w7 g ((cntK x.bs n).map I).toArray 3):=by rw [hw7];exact HK6.out.alloc _
  change Code.wp _ _ _ _ (w6.alloc (.cells #[I r,I bs,I bt, .slice (some ⟨g,0,none⟩) n n, .slice ea x.es.length ec] 124))
  rw [←hw7]
  clear hw7 HO6 HK6 HB6
  have e0:w7.cell? ⟨w6.heap.size,0,none⟩=some (I r):=HX7.out.cell 0
  have e1:w7.cell? ⟨w6.heap.size,1,none⟩=some (I bs):=HX7.out.cell 1
  have e2:w7.cell? ⟨w6.heap.size,2,none⟩=some (I bt):=HX7.out.cell 2
  have e3:w7.cell? ⟨w6.heap.size,3,none⟩=some (.slice (some ⟨g,0,none⟩) n n):=HX7.out.cell 3
  have e4:w7.cell? ⟨w6.heap.size,4,none⟩=some (.slice ea x.es.length ec):=HX7.out.cell 4
  have hz7:w.heap.size<=w7.heap.size:=HB7.out.size
  have HONE:Hid (∀u∈ [I r,I bs,I bt, .slice (some ⟨g,0,none⟩) n n, .slice ea x.es.length ec],u.oneCell'=true):=by
   intro u hu
   have:=zjl [zbi x n r g ea ec] u (by simp only [flat,List.append_nil];rw [HMC.out g];exact hu)
   exact this
  go_wp2_with (first | (at_builtin;refine wpList_append_own_at _ rfl _ _ _ rfl w.heap.size 124 i1 (.agg #[.int .i64 0, .int .i64 0, .int .i64 0, .slice none 0 0, .slice none 0 0]) 5 72 Tryz.underlying108 HI1.out.1 HI1.out.2.1 HI1.out.2.2.1 HI1.out.2.2.2 rfl (by decide) (.slice oa x.bs.length oc) x.bs.length (flat Bm.cells x.bs) rfl (HO7.out.alloc _) ⟨w7.heap.size,0,none⟩ 1 1 [I r,I bs,I bt, .slice (some ⟨g,0,none⟩) n n, .slice ea x.es.length ec] rfl rfl (zas w7 [I r,I bs,I bt, .slice (some ⟨g,0,none⟩) n n, .slice ea x.es.length ec] _) HONE.out n3 n4 (by simp;omega) ?_;intro v8 w8 hown8 hgrow8 hnil8 hat8;have HO8:Hid (w8.ownsRow w.heap.size 124 5 v8 (x.bs.length+1) (flat Bm.cells x.bs++ [I r,I bs,I bt, .slice (some ⟨g,0,none⟩) n n, .slice ea x.es.length ec])):=hown8;have HB8:Hid (Below w.heap.size w w8):=(HB7.out.alloc hz7 _).grown hgrow8 (by simp;omega) (fun b e=>(HO7.out.lt b e).1);have HK8:Hid (Blk w8 g ((cntK x.bs n).map I).toArray 3):=(HK7.out.alloc _).grown hgrow8 (fun e=>by have h1:=HG6.out.1;have h2:=HG6.out.2 g e.symm;omega);obtain⟨oa8,oc8,rfl⟩:=zar hown8;clear hown8 hgrow8 hnil8 hat8 e0 e1 e2 e3 e4))
  go_ret
  have hlen:(x.bs++ [zbi x n r g ea ec]).length=x.bs.length+1:=by simp
  have hflat:flat Bm.cells (x.bs++ [zbi x n r g ea ec])=flat Bm.cells x.bs++ [I r,I bs,I bt, .slice (some ⟨g,0,none⟩) n n, .slice ea x.es.length ec]:=by rw [zez,HMC.out g]
  refine⟨x.bs++ [zbi x n r g ea ec],oa8,oc8,by rw [hlen];rfl,HY2.out g w8 (by have:=HG6.out.1;omega) HK8.out, ?_,HB8.out⟩
  rw [hlen,hflat]
  exact HO8.out
 ·have HN2:Hid (∀w',zd7 w x n r ea ec w' x.bs):=HNO.out hy
  by_cases ho:x.op=true
  ·have hz:x.es.length=0:=by
    have:¬x.es ≠ []:=fun q=>hy ⟨ho,q⟩
    have:x.es= []:=Classical.byContradiction this
    rw [this];rfl
   rw [ho] at d5
   rw [hz] at d6
   clear hy HNO HYES hz ho
   go_wp2
   go_ret
   exact⟨x.bs,oa,oc,rfl,HN2.out _,HO5.out,HB5.out⟩
  ·have ho:x.op=false:=by simpa using ho
   rw [ho] at d5
   clear hy HNO HYES
   go_wp2
   go_ret
   exact⟨x.bs,oa,oc,rfl,HN2.out _,HO5.out,HB5.out⟩
end
structure Ow where
 a:Option Addr
 n:Nat
 c:Nat
 k:Int
def Ow.cells(o:Ow):List Value:= [.slice o.a o.n o.c, .slice none 0 0,I o.k]
theorem zhl(o:Ow):o.cells.length=3:=rfl
theorem zzy(ls:List Ow):∀u∈flat Ow.cells ls,u.oneCell'=true:=by
 induction ls with
 | nil=>intro u hu;simp [flat] at hu
 | cons m ls ih=>
  intro u hu
  simp only [flat,Ow.cells,List.mem_append,List.mem_cons,List.mem_nil_iff,or_false] at hu
  rcases hu with(rfl | rfl | rfl) | hu
  ·rfl
  ·rfl
  ·rfl
  ·exact ih u hu
def Ow.full(o:Ow):List Value:=List.replicate o.n (I (-100000 - o.k))
theorem zwk{w:World}{a:Option Addr}{ls:List Ow}(h:At w a (flat Ow.cells ls))(hl:0<ls.length):∃p q,a=some ⟨p,q,none⟩∧∀i (hi:i<ls.length) j u,ls[i].cells[j]?=some u->w.cell? ⟨p,q+i*3+j,none⟩=some u:=by
 have hg:=fun(k:Nat) (hk:k<ls.length) (j:Nat) (hj:j<3)=>zak Ow.cells 3 zhl ls k hk j hj
 obtain⟨p,q,e,_⟩:=h (0*3+0) (.slice ls[0].a ls[0].n ls[0].c) (by rw [hg 0 hl 0 (by omega)];rfl)
 refine⟨p,q,e,fun i hi j u hu=> ?_⟩
 have hj:j<3:=by have:=(List.getElem?_eq_some_iff.1 hu).1;rw [zhl] at this;exact this
 obtain⟨p2,q2,e2,hc⟩:=h (i*3+j) u (by rw [hg i hi j hj];exact hu)
 rw [e] at e2
 cases e2
 rw [Nat.add_assoc]
 exact hc
theorem zxa(G:Nat)(v0 v2:Value)(la:Option Addr)(lc:Nat)(os:List Ow)(w:World)(hG:Blk w G #[v0, .slice la os.length lc,v2] 68)(hA:At w la (flat Ow.cells os))(ho:∀o∈os,At w o.a o.full∧0<=o.k∧o.k<=4611686018427387904∧o.n<=4611686018427387904)(hl:os.length<=4611686018427387904):
  Calls Tryz.prog 36 #[.pointer (some ⟨G,0,none⟩)] w fun e w'=>e= .returned (.bool true)∧Below w.heap.size w w':=by
 have HG:Hid (Blk w G #[v0, .slice la os.length lc,v2] 68):=hG
 have HA:Hid (At w la (flat Ow.cells os)):=hA
 have HO:Hid (∀o∈os,At w o.a o.full∧0<=o.k∧o.k<=4611686018427387904∧o.n<=4611686018427387904):=ho
 clear hG hA ho
 go_enter Tryz.func36,Tryz.ntmps36
 go_wp2_with fail
 go_loopw [3] (fun x wr=>∃i:Nat,i<=os.length∧x=I i∧Hid (Below w.heap.size w wr)) (fun x _=>os.length - (intOf x).toNat)
 case atStart=>exact⟨0,Nat.zero_le _,rfl,Below.refl _ _⟩
 case round=>
  obtain⟨i,hi,rfl,HB⟩:=hrel
  have g1:wr.cell? ⟨G,1,none⟩=some (.slice la os.length lc):=zaa HB.out (HG.out.cell 1)
  by_cases hlt:i<os.length
  ·have hii:(i:Int)<os.length:=by omega
   obtain⟨p,q,rfl,hc⟩:=zwk HA.out (by omega)
   have c0:wr.cell? ⟨p,q+i*3,none⟩=some (.slice os[i].a os[i].n os[i].c):=zaa HB.out (hc i hlt 0 _ rfl)
   have c1:wr.cell? ⟨p,q+i*3+1,none⟩=some (.slice none 0 0):=zaa HB.out (hc i hlt 1 _ rfl)
   have c2:wr.cell? ⟨p,q+i*3+2,none⟩=some (I os[i].k):=zaa HB.out (hc i hlt 2 _ rfl)
   obtain⟨ho1,ho2,ho3,ho4⟩:=HO.out _ (List.getElem_mem hlt)
   have HF:Hid (At w os[i].a os[i].full):=ho1
   clear hc ho1
   generalize os[i]=o at *
   have HBX:Hid (Below w.heap.size w (wr.alloc (.cells #[.slice o.a o.n o.c, .slice none 0 0,I o.k] 115))):=HB.out.alloc HB.out.size _
   have HX:Hid (Blk (wr.alloc (.cells #[.slice o.a o.n o.c, .slice none 0 0,I o.k] 115)) wr.heap.size #[.slice o.a o.n o.c, .slice none 0 0,I o.k] 115):=heap_alloc_new wr _
   obtain⟨wX,hwX⟩:∃wX,wX=wr.alloc (.cells #[.slice o.a o.n o.c, .slice none 0 0,I o.k] 115):=⟨_,rfl⟩
   rw [←hwX] at HBX HX
   go_wp2_with fail
   change Code.wp _ _ _ _ (wr.alloc (.cells #[.slice o.a o.n o.c, .slice none 0 0,I o.k] 115))
   rw [←hwX]
   clear hwX g1 c0 c1 c2
   generalize wr.heap.size=B at *
   go_wp2_with fail
   go_loopw [5] (fun y wy=>∃k:Nat,k<=o.n∧y=I k∧Hid (Below w.heap.size w wy∧Blk wy B #[.slice o.a o.n o.c, .slice none 0 0,I o.k] 115)) (fun y _=>o.n - (intOf y).toNat)
   case atStart=>exact⟨0,Nat.zero_le _,rfl,HBX.out,HX.out⟩
   case round=>
    obtain⟨k,hk,rfl,HY⟩:=hrel
    have y0:wr.cell? ⟨B,0,none⟩=some (.slice o.a o.n o.c):=HY.out.2.cell 0
    have y1:wr.cell? ⟨B,1,none⟩=some (.slice none 0 0):=HY.out.2.cell 1
    have y2:wr.cell? ⟨B,2,none⟩=some (I o.k):=HY.out.2.cell 2
    have hwk:IntKind.i64.wrap (-100000 - o.k)= -100000 - o.k:=zc0 _ (by omega) (by omega)
    by_cases hlk:k<o.n
    ·have hki:(k:Int)<(o.n:Int):=by omega
     obtain⟨p2,q2,hoa,hcc⟩:=HF.out k (I (-100000 - o.k)) (by unfold Ow.full;simp [hlk])
     have y3:wr.cell? ⟨p2,q2+k,none⟩=some (I (-100000 - o.k)):=zaa HY.out.1 hcc
     rw [hoa] at y0
     clear hcc
     go_wp2_with fail
     go_quiet (fail)
     go_wp2_with fail
     go_roundw
     case rel=>exact⟨k+1,by omega,by go_num,zal HY.out.1 nq,HY.out.2⟩
     case measure=>simp [intOf];omega
    ·have hki:¬(k:Int)<(o.n:Int):=by omega
     go_wp2_with fail
     go_rounds 1
     go_roundw
     case rel=>exact⟨i+1,by omega,by go_num,HY.out.1⟩
     case measure=>simp [intOf];omega
  ·have hii:¬(i:Int)<os.length:=by omega
   go_wp2
   go_ret
   exact⟨rfl,HB.out⟩
theorem infoOw:(Tryz.prog.info? 115).map (fun i=>(i.zero,i.size,i.bytes))=some (some (.agg #[.slice none 0 0, .slice none 0 0, .int .i64 0]),3,56):=by kernel_rfl
theorem zwj(l:List Ow)(x:Ow):flat Ow.cells (l++ [x])=flat Ow.cells l++x.cells:=by
 rw [za1]
 simp [flat]
def FilAt(w wr:World)(lb:Option Nat)(G:Nat)(rb:Option Nat)(o:Ow):Prop:=∀j u,o.full[j]?=some u->∃b,o.a=some ⟨b,0,none⟩∧(lb=some b∨w.heap.size<=b)∧b ≠ G∧rb ≠ some b∧wr.cell? ⟨b,j,none⟩=some u
structure NbAt(w wr:World)(G:Nat)(v0:Value)(z:Int)(os l4:List Ow)(oa:Option Addr)(oc:Nat)(la:Option Addr)(lc n k:Nat)(lb ob:Option Nat):Prop where
 bG:Blk wr G #[v0, .slice oa (os++l4).length oc,I z] 68
 row:wr.ownsRow 0 115 3 (.slice oa (os++l4).length oc) (os++l4).length (flat Ow.cells (os++l4))
 rb:∀g,(Value.slice oa (os++l4).length oc).ownBlock=some g->ob=some g∨w.heap.size<=g
 cur:wr.ownsRow 0 3 1 (.slice la (n+k) lc) (n+k) (List.replicate (n+k) (I (-100000 - z)))
 cb:∀g,(Value.slice la (n+k) lc).ownBlock=some g->lb=some g∨w.heap.size<=g
 old:∀o∈l4,o.k=z∧o.n<=n+k∧FilAt w wr lb G (Value.slice oa (os++l4).length oc).ownBlock o
 lG:G<w.heap.size
 T:Tch (fun j=>j=G∨ob=some j∨lb=some j) w wr
theorem zcq{w:World}{t:TypeId}{s n:Nat}{v:Value}{xs:List Value}(h:w.ownsRow 0 t s v n xs){g:Nat}(e:v.ownBlock=some g):∃cs,w.heap[g]?=some (.cells cs t):=by
 rcases h.2 with⟨rfl,_⟩ | ⟨g',cap,cur,rfl,_,hg,_⟩
 ·cases e
 ·cases e;exact⟨_,hg⟩
section
variable {w wr : World} {G : Nat} {v0 : Value} {z : Int} {os l4 : List Ow} {oa : Option Addr} {oc : Nat} {la : Option Addr} {lc n k : Nat} {lb ob : Option Nat}
theorem NbAt.ne(h:NbAt w wr G v0 z os l4 oa oc la lc n k lb ob):((Value.slice oa (os++l4).length oc).ownBlock ≠ some G)∧((Value.slice la (n+k) lc).ownBlock ≠ some G)∧(∀g,(Value.slice la (n+k) lc).ownBlock=some g->(Value.slice oa (os++l4).length oc).ownBlock ≠ some g):=by
 have hG:wr.heap[G]?=some (.cells #[v0, .slice oa (os++l4).length oc,I z] 68):=h.bG
 refine⟨fun e=> ?_,fun e=> ?_,fun g e e2=> ?_⟩
 ·obtain⟨cs,h1⟩:=zcq h.row e
  rw [hG] at h1;cases h1
 ·obtain⟨cs,h1⟩:=zcq h.cur e
  rw [hG] at h1;cases h1
 ·obtain⟨cs,h1⟩:=zcq h.cur e
  obtain⟨cs',h2⟩:=zcq h.row e2
  rw [h2] at h1;cases h1
theorem NbAt.down{wE w7:World}{g7 cap7:Nat}(h:NbAt w wr G v0 z os l4 oa oc la lc n k lb ob)(hb:Below wr.heap.size wr wE)(hT7:Tch (fun j=>(Value.slice oa (os++l4).length oc).ownBlock=some j) wE w7)
  (hO7:w7.ownsRow 0 115 3 (.slice (some ⟨g7,0,none⟩) ((os++l4).length+1) cap7) ((os++l4).length+1) (flat Ow.cells (os++l4)++ [.slice la (n+k) lc, .slice none 0 0,I z])) (hA7:(Value.slice oa (os++l4).length oc).ownBlock=some g7∨wE.heap.size<=g7):
  NbAt w (w7.setCell ⟨G,1,none⟩ (.slice (some ⟨g7,0,none⟩) ((os++l4).length+1) cap7)) G v0 z os (l4++ [⟨la,n+k,lc,z⟩]) (some ⟨g7,0,none⟩) cap7 la lc n k lb ob:=by
 obtain⟨n1,n2,n3⟩:=h.ne
 have hGl:=h.bG.lt
 have hlen:(os++(l4++ [(⟨la,n+k,lc,z⟩:Ow)])).length=(os++l4).length+1:=by simp [Nat.add_assoc]
 have hes:os++(l4++ [(⟨la,n+k,lc,z⟩:Ow)])=(os++l4)++ [⟨la,n+k,lc,z⟩]:=by simp
 have hsz:=hb.size
 obtain⟨W,hW⟩:∃W,W=w7.setCell ⟨G,1,none⟩ (.slice (some ⟨g7,0,none⟩) ((os++l4).length+1) cap7):=⟨_,rfl⟩
 have hT8:Tch (fun j=>j=G∨(Value.slice oa (os++l4).length oc).ownBlock=some j) wr W:=by
  rw [hW]
  exact Tch.setCell (F:=fun j=>j=G∨(Value.slice oa (os++l4).length oc).ownBlock=some j) (((Tch.below hb).trans hT7 (fun _ _ h=>h) (fun _ _ h=> .inr h))) ⟨G,1,none⟩ _ (.inl (.inl rfl))
 have hws:w.heap.size<=wr.heap.size:=h.T.size
 have hgG:g7 ≠ G:=by
  rcases hA7 with e | e
  ·rintro rfl;exact n1 e
  ·omega
 have hcur:W.ownsRow 0 3 1 (.slice la (n+k) lc) (n+k) (List.replicate (n+k) (I (-100000 - z))):=zah h.cur (fun g e=>hT8.block g (h.cur.lt g e).2 (fun q=>by
  rcases q with rfl | q
  ·exact n2 e
  ·exact n3 g e q))
 rw [←hW]
 refine⟨?_, ?_, ?_,hcur,h.cb,fun o ho=> ?_,h.lG, ?_⟩
 ·rw [hlen,hW]
  exact(hT7.blk (h.bG.kept hb hGl) n1).set 1 _
 ·rw [hlen,hes,zwj,hW]
  exact zah hO7 (fun b e=>heap_setCell_other _ ⟨G,1,none⟩ b _ (by cases e;exact hgG))
 ·intro g e
  cases e
  rcases hA7 with e | e
  ·exact h.rb g7 e
  ·exact .inr (show w.heap.size<=g7 by omega)
 ·rcases List.mem_append.1 ho with ho | ho
  ·obtain⟨q1,q2,q3⟩:=h.old o ho
   refine⟨q1,q2,fun j u hj=> ?_⟩
   obtain⟨b,e,hlb,m1,m2,hc⟩:=q3 j u hj
   have hbl:=zag hc
   have hsame:=hT8.block b hbl (fun q=>by
    rcases q with q | q
    ·exact m1 q
    ·exact m2 q)
   refine⟨b,e,hlb,m1,fun q=> ?_,zan hc hsame⟩
   cases q
   rcases hA7 with ha | ha
   ·exact m2 ha
   ·have ha:wE.heap.size<=g7:=ha
    have hbl:g7<wr.heap.size:=hbl
    omega
  ·rw [List.mem_singleton.1 ho]
   refine⟨rfl,Nat.le_refl _,fun j u hj=> ?_⟩
   have hj':(List.replicate (n+k) (I (-100000 - z)))[j]?=some u:=hj
   rcases hcur.2 with⟨e1,e0⟩ | ⟨g,cap,cu,e1,_,hg,_⟩
   ·rw [e0] at hj'
    simp at hj'
   ·have hla:la=some ⟨g,0,none⟩:=by cases e1;rfl
    subst hla
    have hc:=hcur.cells (g:=g) rfl j u (by simpa using hj')
    rw [Addr.add_lit,Nat.zero_add] at hc
    refine⟨g,rfl,h.cb g rfl,fun q=>n2 (by rw [←q];rfl),fun q=> ?_,hc⟩
    have q:g7=g:=by simpa [Value.ownBlock] using q
    have hgl:=(h.cur.lt g rfl).2
    rcases hA7 with ha | ha
    ·rw [q] at ha;exact n3 g rfl ha
    ·omega
 ·refine h.T.trans hT8 (fun _ _ h=>h) (fun j hj e=> ?_)
  rcases e with e | e
  ·exact .inl e
  ·rcases h.rb j e with e | e
   ·exact .inr (.inl e)
   ·omega
theorem NbAt.more{wE w7:World}{g7 cap7:Nat}(h:NbAt w wr G v0 z os l4 oa oc la lc n k lb ob)(hb:Below wr.heap.size wr wE)(hT7:Tch (fun j=>(Value.slice la (n+k) lc).ownBlock=some j) wE w7)(hkp:∀b j,(Value.slice la (n+k) lc).ownBlock=some b->j<n+k->w7.cell? ⟨b,j,none⟩=wE.cell? ⟨b,j,none⟩)
  (hO7:w7.ownsRow 0 3 1 (.slice (some ⟨g7,0,none⟩) (n+k+1) cap7) (n+k+1) (List.replicate (n+k) (I (-100000 - z))++ [I (-100000 - z)])) (hA7:(Value.slice la (n+k) lc).ownBlock=some g7∨wE.heap.size<=g7):
  NbAt w w7 G v0 z os l4 oa oc (some ⟨g7,0,none⟩) cap7 n (k+1) lb ob:=by
 obtain⟨n1,n2,n3⟩:=h.ne
 have hsz:=hb.size
 have hws:w.heap.size<=wr.heap.size:=h.T.size
 have hTw:Tch (fun j=>(Value.slice la (n+k) lc).ownBlock=some j) wr w7:=(Tch.below hb).trans hT7 (fun _ _ h=>h) (fun _ _ h=>h)
 refine⟨hTw.blk h.bG n2,zah h.row (fun g e=>hTw.block g (h.row.lt g e).2 (fun q=>n3 g q e)),h.rb, ?_,fun g e=> ?_,fun o ho=> ?_,h.lG, ?_⟩
 ·rw [←Nat.add_assoc,List.replicate_succ']
  exact hO7
 ·cases e
  rcases hA7 with e | e
  ·exact h.cb g7 e
  ·exact .inr (show w.heap.size<=g7 by omega)
 ·obtain⟨q1,q2,q3⟩:=h.old o ho
  refine⟨q1,by omega,fun j u hj=> ?_⟩
  obtain⟨b,e,hlb,m1,m2,hc⟩:=q3 j u hj
  by_cases hq:(Value.slice la (n+k) lc).ownBlock=some b
  ·have hjn:j<o.n:=by have:=(List.getElem?_eq_some_iff.1 hj).1;unfold Ow.full at this;simpa using this
   have hcE:wE.cell? ⟨b,j,none⟩=some u:=zaa hb hc
   exact⟨b,e,hlb,m1,m2,(hkp b j hq (by omega)).trans hcE⟩
  ·exact⟨b,e,hlb,m1,m2,zan hc (hTw.block b (zag hc) hq)⟩
 ·refine h.T.trans hTw (fun _ _ h=>h) (fun j hj e=> ?_)
  rcases h.cb j e with e | e
  ·exact .inr (.inr e)
  ·omega
end
def UpBad(w:World)(sv:Value)(r e:Int):Prop:=e ≠ 0∧Calls Tryz.prog 39 #[sv,I r] w fun x w'=>x= .returned (.tuple #[.pointer none,I e])∧w'=w
def RpBad(w:World)(sv:Value)(r e:Int):Prop:=e ≠ 0∧Calls Tryz.prog 48 #[sv,I r] w fun x w'=>x= .returned (.tuple #[.pointer none,I e])∧w'=w
theorem zs6(w:World)(r:Int):RpBad w (.pointer none) r 1:=by
 refine⟨by omega, ?_⟩
 go_enter Tryz.func48,Tryz.ntmps48
 go_wp2
 go_ret2
 exact⟨rfl,rfl⟩
theorem zs5(own:Clr)(s rg cc pp ch:Nat)(pv:Value)(prs:List Nat)(S:Sto)(r:Int)(w:World)(h:StIn w own s rg cc pp ch pv prs S)(hr:¬(0<=r∧r<S.reps.length)):RpBad w (.pointer (some ⟨s,0,none⟩)) r 3:=by
 refine⟨by omega, ?_⟩
 have HC:Hid (Calls Tryz.prog 75 #[.pointer (some ⟨s,0,none⟩),I r] w fun e w'=>e= .returned (.bool (decide (0<=r∧r<S.reps.length)))∧w'=w):=zmr own s rg cc pp ch pv prs S r w h
 have hd:decide (0<=r∧r<(S.reps.length:Int))=false:=decide_eq_false hr
 rw [hd] at HC
 clear h hd hr
 go_enter Tryz.func48,Tryz.ntmps48
 go_wp2_with fail
 refine HC.out.mono ?_
 rintro e w1 ⟨rfl,hw1⟩
 subst hw1
 go_wp2
 go_ret2
 exact⟨rfl,rfl⟩
theorem RpBad.up{w:World}{sv:Value}{r e:Int}(h:RpBad w sv r e):UpBad w sv r e:=by
 refine⟨h.1, ?_⟩
 have he:=h.1
 have HC:=h.2
 clear h
 go_enter Tryz.func39,Tryz.ntmps39
 go_wp2_with fail
 refine HC.mono ?_
 rintro e w1 ⟨rfl,hw1⟩
 subst hw1
 clear HC
 go_wp2
 go_ret2
 exact⟨rfl,rfl⟩
section
variable {w : World} {sv : Value} {r e : Int}
theorem zov(h:UpBad w sv r e):Calls Tryz.prog 16 #[sv,I r] w fun x w'=>x= .returned (I e)∧w'=w:=by
 have he:=h.1
 have HC:=h.2
 clear h
 go_enter Tryz.func16,Tryz.ntmps16
 go_wp2_with fail
 refine HC.mono ?_
 rintro e w1 ⟨rfl,hw1⟩
 subst hw1
 clear HC
 go_wp2
 go_ret
 exact⟨rfl,rfl⟩
theorem zox(h:UpBad w sv r e):Calls Tryz.prog 20 #[sv,I r] w fun x w'=>x= .returned (I e)∧w'=w:=by
 have he:=h.1
 have HC:=h.2
 clear h
 go_enter Tryz.func20,Tryz.ntmps20
 go_wp2_with fail
 refine HC.mono ?_
 rintro e w1 ⟨rfl,hw1⟩
 subst hw1
 clear HC
 go_wp2
 go_ret
 exact⟨rfl,rfl⟩
theorem zyi(op k x y:Int)(h:UpBad w sv r e):Calls Tryz.prog 18 #[sv,I r,I op,I k,I x,I y] w fun x w'=>x= .returned (I e)∧w'=w:=by
 have he:=h.1
 have HC:=h.2
 clear h
 go_enter Tryz.func18,Tryz.ntmps18
 go_wp2_with fail
 refine HC.mono ?_
 rintro e w1 ⟨rfl,hw1⟩
 subst hw1
 clear HC
 go_wp2
 go_ret
 exact⟨rfl,rfl⟩
theorem zse(k:Int)(h:UpBad w sv r e):Calls Tryz.prog 31 #[sv,I r,I k] w fun x w'=>x= .returned (.tuple #[.slice none 0 0,I e])∧w'=w:=by
 have he:=h.1
 have HC:=h.2
 clear h
 go_enter Tryz.func31,Tryz.ntmps31
 go_wp2_with fail
 refine HC.mono ?_
 rintro e w1 ⟨rfl,hw1⟩
 subst hw1
 clear HC
 go_wp2
 go_ret2
 exact⟨rfl,rfl⟩
theorem zmg(h:UpBad w sv r e):Calls Tryz.prog 21 #[sv,I r] w fun x w'=>x= .returned (.tuple #[I 0,I e])∧w'=w:=by
 have he:=h.1
 have HC:=h.2
 clear h
 go_enter Tryz.func21,Tryz.ntmps21
 go_wp2_with fail
 refine HC.mono ?_
 rintro e w1 ⟨rfl,hw1⟩
 subst hw1
 clear HC
 go_wp2
 go_ret2
 exact⟨rfl,rfl⟩
theorem zot(h:RpBad w sv r e):Calls Tryz.prog 22 #[sv,I r] w fun x w'=>x= .returned (.tuple #[.slice none 0 0,I e])∧w'=w:=by
 have he:=h.1
 have HC:=h.2
 clear h
 go_enter Tryz.func22,Tryz.ntmps22
 go_wp2_with fail
 refine HC.mono ?_
 rintro e w1 ⟨rfl,hw1⟩
 subst hw1
 clear HC
 go_wp2
 go_ret2
 exact⟨rfl,rfl⟩
theorem zve(h:RpBad w sv r e):Calls Tryz.prog 91 #[sv,I r] w fun x w'=>x= .returned (.tuple #[.string ⟨#[]⟩,I e])∧w'=w:=by
 have he:=h.1
 have HC:=h.2
 clear h
 go_enter Tryz.func91,Tryz.ntmps91
 go_wp2_with fail
 refine HC.mono ?_
 rintro e w1 ⟨rfl,hw1⟩
 subst hw1
 clear HC
 go_wp2
 go_ret2
 exact⟨rfl,rfl⟩
end
section
variable {w : World} {own : Clr} {s rg cc pp ch : Nat} {pv : Value} {prs : List Nat} {S : Sto} {r : Nat} {R : Rp}
theorem zgb(h:StIn w own s rg cc pp ch pv prs S)(hr:r<prs.length)(hR:S.reps[r]?=some R)(hst:R.st ≠ 2)(op k x y z:Int)(P:World->Prop)(HC:Calls Tryz.prog 43 #[.pointer (some ⟨prs[r],0,none⟩),I op,I k,I x,I y] w fun e w'=>e= .returned (I z)∧P w'):
  Calls Tryz.prog 18 #[.pointer (some ⟨s,0,none⟩),I r,I op,I k,I x,I y] w fun e w'=>e= .returned (I z)∧P w':=by
 have HU:Hid (Calls Tryz.prog 39 #[.pointer (some ⟨s,0,none⟩),I r] w fun e w'=>e= .returned (.tuple #[.pointer (some ⟨prs[r],0,none⟩),I 0])∧w'=w):=zc2 own s rg cc pp ch pv prs S r hr R hR hst w h
 have HC:Hid (Calls Tryz.prog 43 #[.pointer (some ⟨prs[r],0,none⟩),I op,I k,I x,I y] w fun e w'=>e= .returned (I z)∧P w'):=HC
 clear h hR hst
 generalize prs[r]=p at *
 go_enter Tryz.func18,Tryz.ntmps18
 go_wp2_with fail
 refine HU.out.mono ?_
 rintro e w1 ⟨rfl,hw1⟩
 subst hw1
 go_wp2_with fail
 refine HC.out.mono ?_
 rintro e w2 ⟨rfl,h2⟩
 have HE:Hid (P w2):=h2
 clear h2
 go_wp2
 go_ret
 exact⟨rfl,HE.out⟩
theorem zvb(h:StIn w own s rg cc pp ch pv prs S)(hR:S.reps[r]?=some R)(hup:Rup R)(k:Int)(hk:¬(0<=k∧k<8)):
  Calls Tryz.prog 31 #[.pointer (some ⟨s,0,none⟩),I r,I k] w fun e w'=>e= .returned (.tuple #[.slice none 0 0,I 8])∧Below w.heap.size w w':=by
 obtain⟨hr,cg,cc',hp,mv,hv,ev,hs,es,hrp⟩:=h.prl hR
 have HU:Hid (Calls Tryz.prog 39 #[.pointer (some ⟨s,0,none⟩),I r] w fun e w'=>e= .returned (.tuple #[.pointer (some ⟨prs[r],0,none⟩),I 0])∧w'=w):=zc2 own s rg cc pp ch pv prs S r hr R hR hup.up w h
 have HC:=zyr own (1+11*r) prs[r] R cg cc' hp mv hv ev hs es k w hrp hup.ok.obs8 hk
 clear h hrp hR hup
 generalize prs[r]=p at *
 go_enter Tryz.func31,Tryz.ntmps31
 go_wp2_with fail
 refine HU.out.mono ?_
 rintro e w1 ⟨rfl,hw1⟩
 subst hw1
 go_wp2_with fail
 refine HC.mono ?_
 rintro e w2 ⟨rfl,h2⟩
 have HE:Hid (Below w1.heap.size w1 w2):=h2
 clear h2
 go_wp2
 go_ret2
 exact⟨rfl,HE.out⟩
theorem zli(h:StIn w own s rg cc pp ch pv prs S)(hR:S.reps[r]?=some R)(hup:Rup R)(h1:R.st ≠ 1):
  Calls Tryz.prog 21 #[.pointer (some ⟨s,0,none⟩),I r] w fun e w'=>e= .returned (.tuple #[I 0,I 7])∧Below w.heap.size w w':=by
 obtain⟨hr,cg,cc',hp,mv,hv,ev,hs,es,hrp⟩:=h.prl hR
 have HU:Hid (Calls Tryz.prog 39 #[.pointer (some ⟨s,0,none⟩),I r] w fun e w'=>e= .returned (.tuple #[.pointer (some ⟨prs[r],0,none⟩),I 0])∧w'=w):=zc2 own s rg cc pp ch pv prs S r hr R hR hup.up w h
 have HC:=zof own (1+11*r) prs[r] R cg cc' hp mv hv ev hs es w hrp h1
 clear h hrp hR hup h1
 generalize prs[r]=p at *
 go_enter Tryz.func21,Tryz.ntmps21
 go_wp2_with fail
 refine HU.out.mono ?_
 rintro e w1 ⟨rfl,hw1⟩
 subst hw1
 go_wp2_with fail
 refine HC.mono ?_
 rintro e w2 ⟨rfl,h2⟩
 have HE:Hid (Below w1.heap.size w1 w2):=(by first | exact h2 | (rw [h2];exact Below.refl _ _))
 clear h2
 go_wp2
 go_ret2
 exact⟨rfl,HE.out⟩
theorem zvf(h:StIn w own s rg cc pp ch pv prs S)(hR:S.reps[r]?=some R):
  Calls Tryz.prog 91 #[.pointer (some ⟨s,0,none⟩),I r] w fun e w'=>e= .returned (.tuple #[.string ⟨R.log.toArray⟩,I 0])∧w'=w:=by
 obtain⟨hr,cg,cc',hp,mv,hv,ev,hs,es,hrp⟩:=h.prl hR
 have HU:Hid (Calls Tryz.prog 48 #[.pointer (some ⟨s,0,none⟩),I r] w fun e w'=>e= .returned (.tuple #[.pointer (some ⟨prs[r],0,none⟩),I 0])∧w'=w):=zem own s rg cc pp ch pv prs S r hr w h
 have HC:=zv4 own (1+11*r) prs[r] R cg cc' hp mv hv ev hs es w hrp
 clear h hrp hR
 generalize prs[r]=p at *
 go_enter Tryz.func91,Tryz.ntmps91
 go_wp2_with fail
 refine HU.out.mono ?_
 rintro e w1 ⟨rfl,hw1⟩
 subst hw1
 go_wp2_with fail
 refine HC.mono ?_
 rintro e w2 ⟨rfl,h2⟩
 subst h2
 clear HC HU
 go_wp2
 go_ret2
 exact⟨rfl,rfl⟩
end
theorem zvc(n:Int)(hn:¬(2<=n∧n<=4))(w:World):
  Calls Tryz.prog 14 #[I n] w fun e w'=>e= .returned (.tuple #[.pointer none,I 2])∧w'=w:=by
 by_cases h1:n<2
 ·go_enter Tryz.func14,Tryz.ntmps14
  clear hn
  go_wp2
  go_ret2
  exact⟨rfl,rfl⟩
 ·have h2:4<n:=by omega
  clear hn
  go_enter Tryz.func14,Tryz.ntmps14
  go_wp2
  go_ret2
  exact⟨rfl,rfl⟩
theorem zxq(l:List Em)(x:Em):flat Em.cells (l++ [x])=flat Em.cells l++x.cells:=by
 rw [za1]
 simp [flat]
theorem RrOk.add{w wE w7:World}{own:Clr}{c p g7 cap7:Nat}{x:Rr}{dv ev:Value}(h:RrIn w own c p x dv ev)(hc:0<c)(m:Em)(hb:Below w.heap.size w wE)(hT7:Tch (fun k=>ev.ownBlock=some k) wE w7)
  (hO7:w7.ownsRow 0 149 7 (.slice (some ⟨g7,0,none⟩) (x.es.length+1) cap7) (x.es.length+1) (flat Em.cells x.es++m.cells)) (hA7:ev.ownBlock=some g7∨wE.heap.size<=g7) (hd:wE.ownsRow w.heap.size 146 3 (.slice m.da m.e.dots.length m.dc) m.e.dots.length (flat zab m.e.dots)):
  RrOk w own c p {x with es:=x.es++ [m]} (w7.setCell ⟨p,6,none⟩ (.slice (some ⟨g7,0,none⟩) (x.es.length+1) cap7)):=by
 obtain⟨n1,n2,n3⟩:=h.nep
 have hsz:=hb.size
 have hpl:=h.blk.lt
 have hel:∀g,ev.ownBlock=some g->g<w.heap.size:=fun g e=>(h.effs.row.lt g e).2
 have hlen:(x.es++ [m]).length=x.es.length+1:=by simp
 obtain⟨W,hW⟩:∃W,W=w7.setCell ⟨p,6,none⟩ (.slice (some ⟨g7,0,none⟩) (x.es.length+1) cap7):=⟨_,rfl⟩
 have hT8:Tch (fun k=>ev.ownBlock=some k∨k=p) wE W:=by
  rw [hW]
  exact Tch.setCell (F:=fun k=>ev.ownBlock=some k∨k=p) (hT7.mono (fun _ _ e=> .inl e)) ⟨p,6,none⟩ _ (.inl (.inr rfl))
 have hTw:Tch (fun k=>ev.ownBlock=some k∨k=p) w W:=(Tch.below hb).trans hT8 (fun _ _ h=>h) (fun _ _ h=>h)
 have hTc:Tch (fun k=>own k=c) w W:=hTw.mono (fun k _ e=>by
  rcases e with e | e
  ·exact h.effs.own2 k e
  ·rw [e];exact h.own1)
 have hgp:g7 ≠ p:=by
  rcases hA7 with e | e
  ·exact n2 g7 e
  ·omega
 have hK:Kp (fun d=>d=0) own (fun b=>if b<w.heap.size then own b else if b=g7 then c else 0) w W:=fun b hl hz=>⟨hTc.block b hl (by rw [hz];omega),by show(if b<w.heap.size then own b else _)=_;rw [if_pos hl]⟩
 rw [←hW]
 refine⟨fun b=>if b<w.heap.size then own b else if b=g7 then c else 0,fun b hl _=> ?_,fun b hl=> ?_,fun b hl e=> ?_,⟨dv, .slice (some ⟨g7,0,none⟩) (x.es.length+1) cap7, ?_, ?_, ?_, ?_, ?_, ?_⟩,hTc⟩
 ·show(if b<w.heap.size then own b else _)=_
  rw [if_pos hl]
 ·show(if b<w.heap.size then own b else if b=g7 then c else 0)=0∨(if b<w.heap.size then own b else if b=g7 then c else 0)=c
  rw [if_neg (by omega)]
  by_cases e:b=g7
  ·rw [if_pos e];exact .inr rfl
  ·rw [if_neg e];exact .inl rfl
 ·show(if b<w.heap.size then own b else if b=g7 then c else 0)=0∨(if b<w.heap.size then own b else if b=g7 then c else 0)=c
  rw [if_pos hl];exact .inr e
 ·rw [hW]
  exact((hT7.blk (h.blk.kept hb hpl) (fun e=>n2 p e rfl))).set 6 (.slice (some ⟨g7,0,none⟩) (x.es.length+1) cap7)
 ·show(if p<w.heap.size then own p else _)=_
  rw [if_pos hpl];exact h.own1
 ·refine zah h.done (fun g e=>hTw.block g (h.done.lt g e).2 (fun q=> ?_))
  rcases q with q | q
  ·exact n3 g g e q rfl
  ·exact n1 g e q
 ·intro g e
  show(if g<w.heap.size then own g else _)=_
  rw [if_pos (h.done.lt g e).2];exact h.own2 g e
 ·exact fun b hq=>(h.bats b hq).kp hK rfl
 ·refine⟨?_,fun g e=> ?_,fun y hy=> ?_⟩
  ·show W.ownsRow 0 149 7 _ (x.es++ [m]).length (flat Em.cells (x.es++ [m]))
   rw [hlen,zxq,hW]
   exact zah hO7 (fun b e=>heap_setCell_other _ ⟨p,6,none⟩ b _ (by cases e;exact hgp))
  ·cases e
   show(if g7<w.heap.size then own g7 else if g7=g7 then c else 0)=c
   by_cases hq:g7<w.heap.size
   ·rw [if_pos hq]
    rcases hA7 with e | e
    ·exact h.effs.own2 g7 e
    ·omega
   ·rw [if_neg hq,if_pos rfl]
  ·rcases List.mem_append.1 hy with hy | hy
   ·exact(h.effs.dots y hy).kp hK rfl
   ·rw [List.mem_singleton.1 hy]
    intro j u hj
    obtain⟨b,o,e,hcl⟩:=zaw hd j u hj
    have hbl:w.heap.size<=b∧b<wE.heap.size:=hd.lt b (by rw [e];rfl)
    have hbg:b ≠ g7:=by
     rintro rfl
     rcases hA7 with e | e
     ·have:=hel _ e;omega
     ·omega
    refine⟨b,o,e, ?_,zan hcl (hT8.block b hbl.2 (fun q=> ?_))⟩
    ·show(if b<w.heap.size then own b else if b=g7 then c else 0)=0
     rw [if_neg (by omega),if_neg hbg]
    ·rcases q with q | q
     ·have:=hel _ q;omega
     ·omega
theorem zqu(ks:List Mk)(la:Option Addr)(c:Nat)(ob a b:Int)(w:World)(h:MksAt w la ks)(hl:ks.length<=1048576)(hd:∀k∈ks,k.m.e.dots.length<=1048576)(ht:(treeK ks (ks.length+1) ⟨0,0,0⟩).length<=1048576)(hb:¬badV b)(k:Nat)(x:Mk)(hx:(zau ks)[k]?=some x)(ha:a=(k:Int)+1):
  Calls Tryz.prog 133 #[.slice la ks.length c,I 5,I ob,I a,I b] w fun e w'=>EffOk w {ef0 5 ob with va:=b,ref:=x.d} true 0 e w':=by
 have h1:¬b<0:=fun h=>hb (.inl h)
 have h2:¬255<b:=fun h=>hb (.inr h)
 clear hb
 obtain⟨wA,hwA⟩:∃wA,wA=(w.alloc (.cells #[I 0,I 0,I 0,I 0,I 0,I 0, .slice none 0 0] 149)).alloc (.cells #[I 5,I ob,I 0,I 0,I 0,I 0, .slice none 0 0] 149):=⟨_,rfl⟩
 have HZ:Hid (Blk wA w.heap.size #[I 0,I 0,I 0,I 0,I 0,I 0, .slice none 0 0] 149):=by rw [hwA];exact Blk.alloc (heap_alloc_new w _) _
 have HX:Hid (Blk wA (w.heap.size+1) #[I 5,I ob,I 0,I 0,I 0,I 0, .slice none 0 0] 149):=by rw [hwA];exact ze2 w _ _ _ _
 have HB0:Hid (Below w.heap.size w wA):=by rw [hwA];exact((Below.refl _ _).alloc (Nat.le_refl _) _).alloc (by simp) _
 have hzA:wA.heap.size=w.heap.size+1+1:=by rw [hwA];simp
 have HC:=zce ks la c wA (h.kept HB0.out) hl hd ht
 have hLL:(zau ks).length<=1048576:=Nat.le_trans (List.length_filter_le _ _) ht
 generalize zau ks=L at *
 clear h hd ht
 go_enter Tryz.func133,Tryz.ntmps133
 go_wp2_with fail
 change Calls _ _ _ ((w.alloc (.cells #[I 0,I 0,I 0,I 0,I 0,I 0, .slice none 0 0] 149)).alloc (.cells #[I 5,I ob,I 0,I 0,I 0,I 0, .slice none 0 0] 149)) _
 rw [←hwA]
 clear hwA
 refine HC.mono ?_
 rintro e w2 ⟨v1,rfl,hown1,hb1⟩
 obtain⟨oa,oc,rfl⟩:=zar hown1
 have HR1:Hid (w2.ownsRow wA.heap.size 259 11 (.slice oa L.length oc) L.length (flat Mk.cells L)):=hown1
 have HB2:Hid (Below wA.heap.size wA w2):=hb1
 clear hown1 hb1 HC
 have HBw:Hid (Below w.heap.size w w2):=HB0.out.trans (HB2.out.mono (by omega))
 have HZ2:Hid (Blk w2 w.heap.size #[I 0,I 0,I 0,I 0,I 0,I 0, .slice none 0 0] 149):=HZ.out.kept HB2.out (by omega)
 have HX2:Hid (Blk w2 (w.heap.size+1) #[I 5,I ob,I 0,I 0,I 0,I 0, .slice none 0 0] 149):=HX.out.kept HB2.out (by omega)
 have HALL:Hid (∀(x0 x1 x2 x3 x4 x5:Int), #[I x0,I x1,I x2,I x3,I x4,I x5, .slice none 0 0].all (·.oneCell')=true):=fun _ _ _ _ _ _=>by simp [Value.oneCell',I]
 have HN0:Hid (∀wx:World,wx.ownsRow (w.heap.size+2) 146 3 (.slice none 0 0) 0 (flat zab [])):=fun _=>⟨rfl, .inl ⟨rfl,rfl⟩⟩
 clear HZ HX HB0
 obtain⟨hk,hkx⟩:=List.getElem?_eq_some_iff.1 hx
 have hki:(k:Int)<L.length:=by omega
 have hkn:¬(k:Int)<0:=by omega
 have hk1:¬a<0:=by omega
 have hk2:¬(L.length:Int)<a:=by omega
 have hk3:(0:Int)<a:=by omega
 have hk5:IntKind.i64.wrap (a - 1)=(k:Int):=by
  rw [show a - 1=(k:Int) by omega]
  simp only [IntKind.wrap,IntKind.bits,IntKind.signed]
  simp
  split<;>omega
 clear ha
 obtain⟨p,q,rfl,hc⟩:=zbh (zaw HR1.out) (by omega)
 have hpA:wA.heap.size<=p:=(HR1.out.lt p rfl).1
 have x2:w2.cell? ⟨w.heap.size+1,2,none⟩=some (I 0):=HX2.out.cell 2
 have y2:w2.frozen? ⟨w.heap.size+1,2,none⟩=false:=HX2.out.frozen 2
 obtain⟨wB,hwB⟩:∃wB,wB=w2.setCell ⟨w.heap.size+1,2,none⟩ (I b):=⟨_,rfl⟩
 have hTB:Tch (fun j=>j=w.heap.size+1) w2 wB:=by rw [hwB];exact Tch.setCell (F:=fun j=>j=w.heap.size+1) (Tch.refl _ w2) ⟨w.heap.size+1,2,none⟩ _ (.inl rfl)
 have g0:wB.cell? ⟨p,q+k*11+7,none⟩=some (I x.d.o):=by rw [←hkx];exact zan (hc k hk 7 _ rfl) (hTB.block p (HR1.out.lt p rfl).2 (by omega))
 have g1:wB.cell? ⟨p,q+k*11+7+1,none⟩=some (I x.d.s):=by rw [←hkx];exact zan (hc k hk 8 _ rfl) (hTB.block p (HR1.out.lt p rfl).2 (by omega))
 have g2:wB.cell? ⟨p,q+k*11+7+2,none⟩=some (I x.d.i):=by rw [←hkx];exact zan (hc k hk 9 _ rfl) (hTB.block p (HR1.out.lt p rfl).2 (by omega))
 have HXB:Hid (Blk wB (w.heap.size+1) #[I 5,I ob,I b,I 0,I 0,I 0, .slice none 0 0] 149):=by rw [hwB];exact HX2.out.set 2 _
 have HZB:Hid (Blk wB w.heap.size #[I 0,I 0,I 0,I 0,I 0,I 0, .slice none 0 0] 149):=hTB.blk HZ2.out (by omega)
 have HTB:Hid (Tch (fun j=>j=w.heap.size+1) w2 wB):=hTB
 clear hc hkx hx hTB
 go_upto_region 35 with fail
 change Code.wp _ _ _ _ (w2.setCell ⟨w.heap.size+1,2,none⟩ (I b))
 rw [←hwB]
 clear hwB x2 y2
 have x3:wB.cell? ⟨w.heap.size+1,3,none⟩=some (I 0):=HXB.out.cell 3
 have y3:wB.frozen? ⟨w.heap.size+1,3,none⟩=false:=HXB.out.frozen 3
 have x4:wB.cell? ⟨w.heap.size+1,4,none⟩=some (I 0):=HXB.out.cell 4
 have y4:wB.frozen? ⟨w.heap.size+1,4,none⟩=false:=HXB.out.frozen 4
 have x5:wB.cell? ⟨w.heap.size+1,5,none⟩=some (I 0):=HXB.out.cell 5
 have y5:wB.frozen? ⟨w.heap.size+1,5,none⟩=false:=HXB.out.frozen 5
 have HX3:Hid (Blk (((wB.setCell ⟨w.heap.size+1,3,none⟩ (I x.d.o)).setCell ⟨w.heap.size+1,4,none⟩ (I x.d.s)).setCell ⟨w.heap.size+1,5,none⟩ (I x.d.i)) (w.heap.size+1) #[I 5,I ob,I b,I x.d.o,I x.d.s,I x.d.i, .slice none 0 0] 149):=(((HXB.out.set 3 _).set 4 _).set 5 _)
 have HZ3:Hid (Blk (((wB.setCell ⟨w.heap.size+1,3,none⟩ (I x.d.o)).setCell ⟨w.heap.size+1,4,none⟩ (I x.d.s)).setCell ⟨w.heap.size+1,5,none⟩ (I x.d.i)) w.heap.size #[I 0,I 0,I 0,I 0,I 0,I 0, .slice none 0 0] 149):=(((HZB.out.other (by show w.heap.size ≠ w.heap.size+1;omega) _).other (by show w.heap.size ≠ w.heap.size+1;omega) _).other (by show w.heap.size ≠ w.heap.size+1;omega) _)
 go_wp2_with (first | (refine wpList_load_row rfl 149 _ rfl (w.heap.size+1) rfl 149 _ (0,0) _ HX3.out Tryz.underlying149 rfl rfl ?_) | (refine wpList_store_row rfl 149 _ _ rfl w.heap.size #[I 5,I ob,I b,I x.d.o,I x.d.s,I x.d.i, .slice none 0 0] rfl rfl 149 _ HZ3.out rfl rfl (HALL.out _ _ _ _ _ _) ?_))
 refine za8 (B:=w.heap.size) (zb8 HZ3.out).1 rfl rfl rfl rfl ?_
 exact zd1 (E:={ef0 5 ob with va:=b,ref:=x.d}) HBw.out (((((HTB.out.mono (fun _ _ h=> .inr h)).setCell ⟨w.heap.size+1,3,none⟩ _ (.inl (.inr rfl))).setCell ⟨w.heap.size+1,4,none⟩ _ (.inl (.inr rfl))).setCell ⟨w.heap.size+1,5,none⟩ _ (.inl (.inr rfl))).then ((zdw _ _ _).mono (fun _ _ h=> .inl h))) (Nat.le_refl _) (HN0.out _)
section
variable {w : World} {own : Clr} {c q rg cc : Nat} {S : Rs} {wv : Value} {prs : List Nat}
theorem ztd(r:Nat)(x:Rr)(h:RsIn w own c q S rg cc wv prs)(hx:S.reps[r]?=some x)(hb:BsOk x.bs S.reps.length):
  Calls Tryz.prog 90 #[.pointer (some ⟨q,0,none⟩),I r] w fun e w'=>∃g,e= .returned (.tuple #[.slice (some ⟨g,0,none⟩) S.reps.length S.reps.length,I 0])∧w.heap.size<=g∧Blk w' g ((cntK x.bs S.reps.length).map I).toArray 3∧Below w.heap.size w w':=by
 have HC:=zco r x false h hx
 obtain⟨hr,dv,ev,hrr⟩:=h.prl hx
 have hm:=h.most
 have hrn:r<S.reps.length:=by have:=h.len;omega
 have hri:(r:Int)<(S.reps.length:Int):=by omega
 obtain⟨da,dc,rfl⟩:=zar hrr.done
 have c0:w.cell? ⟨q,0,none⟩=some (.slice (some ⟨rg,0,none⟩) S.reps.length cc):=h.blk.cell 0
 have c1:w.cell? ⟨rg,r,none⟩=some (.pointer (some ⟨prs[r],0,none⟩)):=h.row r hr
 have c2:w.cell? ⟨prs[r],0,none⟩=some (.bool true):=hrr.blk.cell 0
 have c3:w.cell? ⟨prs[r],1,none⟩=some (.slice da x.bs.length dc):=hrr.blk.cell 1
 have HA:Hid (At w da (flat Bm.cells x.bs)):=zaw hrr.done
 have hbl:=hb.len
 have HBO:Hid (∀b∈x.bs,0<=b.b.o∧b.b.o<S.reps.length):=hb.org
 clear h hrr hx hb
 generalize prs[r]=p at *
 generalize S.reps.length=n at *
 go_enter Tryz.func90,Tryz.ntmps90
 go_wp2_with fail
 refine HC.mono ?_
 rintro e w1 ⟨rfl,hw1⟩
 subst hw1
 clear HC
 go_wp2_with fail
 go_region_law ((go_simp;go_at_call 128;refine(zio x.bs da dc n _ (by first | exact HA.out | exact HA.out.kept (Below.refl _ _).drew) (by omega) hm HBO.out).mono ?_;rintro e w3 ⟨g3,rfl,hg3,hk3,hb3⟩;have HB3':Below w1.heap.size w1 w3:=(by first | exact hb3 | exact(Below.refl _ _).drew.trans hb3);have HX3:Hid (w1.heap.size<=g3∧Blk w3 g3 ((cntK x.bs n).map I).toArray 3∧Below w1.heap.size w1 w3):=⟨hg3,hk3,HB3'⟩;clear hg3 hk3 hb3 HB3'))
 all_goals
  (go_wp2
   go_ret2
   exact⟨g3,rfl,by first | exact HX3.out | exact⟨HX3.out.1,HX3.out.2.1.drew,HX3.out.2.2.drew⟩⟩)
end
def addM(ms:List Ms)(m:Ms):List Ms:=if ms.length<40 then ms++ [m] else ms
theorem ztn(own:Clr)(c pp ch:Nat)(pv:Value)(ms:List Ms)(m:Ms)(w:World)(h:PoIn w own c pp ch pv ms)(hl:¬ms.length<40):
  Calls Tryz.prog 81 #[.pointer (some ⟨pp,0,none⟩),msV m] w fun e w'=>e= .returned (.tuple #[])∧PoOk w own c pp ch ms w':=by
 obtain⟨wA,hwA⟩:∃wA,wA=w.alloc (.cells (msC m) 162):=⟨_,rfl⟩
 have HBA:Hid (Below w.heap.size w wA):=by rw [hwA];exact(Below.refl _ _).alloc (Nat.le_refl _) _
 have HP:Hid (PoIn wA own c pp ch pv ms):=h.keep (fun b hb _=>HBA.out.block b hb) (Ext.refl _ _)
 have HPW:Hid (PoIn w own c pp ch pv ms):=h
 have c0:wA.cell? ⟨pp,0,none⟩=some (.chan (some ch)):=HP.out.blk.cell 0
 clear h
 refine zgp Tryz.func81 rfl ?_
 simp only [Tryz.ntmps81,List.size_toArray,List.length_cons,List.length_nil,Nat.reduceAdd,Nat.reduceSub,Array.replicate_succ,Array.replicate_zero,List.push_toArray,List.append_toArray,List.nil_append,List.cons_append]
 refine zfn (zgt ?_)
 go_wp2_with fail
 change wpN _ _ _ _ (w.alloc (.cells (msC m) 162))
 rw [←hwA]
 clear hwA
 refine zfn (zgt ?_)
 go_wp2_with fail
 obtain⟨buf,sn,rn,hch,hbuf⟩:=HP.out.chn
 refine zfn (zib ?_)
 change wpR _ _ _ [0,1,2] _ _
 refine zme (i:=0) (cases:= #[Go.Conc.scase ch (.agg #[]) (.agg #[])]) (blocking:=false) (shape:= .select) (w1:=wA) rfl rfl (by simp [go_sem,execOp,Go.Conc.scase,Act.eval]) (fun fr cs es hs=>Go.Conc.step_lone_select_send_full hs hch (by omega)) ?_
 simp only [Act.put,List.getElem_toArray,List.getElem_cons_zero,List.setIfInBounds_toArray,List.set_cons_succ,List.set_cons_zero]
 refine zfm (i:=1) rfl rfl (v:= .int .i64 (-1)) (w':=wA) (by simp [go_sem,execOp,Act.eval]) ?_
 simp only [Act.put,List.getElem_toArray,List.getElem_cons_zero,List.getElem_cons_succ,List.setIfInBounds_toArray,List.set_cons_succ,List.set_cons_zero]
 refine zfm (i:=2) rfl rfl (v:= .bool false) (w':=wA) (by simp [go_sem,execOp,Act.eval]) ?_
 simp only [Act.put,List.getElem_toArray,List.getElem_cons_zero,List.getElem_cons_succ,List.setIfInBounds_toArray,List.set_cons_succ,List.set_cons_zero]
 refine zri (zgt ?_)
 have HE:Hid (PoOk w own c pp ch ms wA):=⟨newTo own w.heap.size 0,pv,zaf _ _ _,HPW.out.below HBA.out,Tch.below HBA.out⟩
 clear HP HPW hch hbuf c0
 go_wp2
 go_end0
 exact⟨rfl,HE.out⟩
theorem zwi(own:Clr)(c pp ch:Nat)(pv:Value)(ms:List Ms)(m:Ms)(w:World)(h:PoIn w own c pp ch pv ms):
  Calls Tryz.prog 81 #[.pointer (some ⟨pp,0,none⟩),msV m] w fun e w'=>e= .returned (.tuple #[])∧PoOk w own c pp ch (addM ms m) w':=by
 unfold addM
 by_cases hl:ms.length<40
 ·rw [if_pos hl];exact ztm own c pp ch pv ms m w h hl
 ·rw [if_neg hl];exact ztn own c pp ch pv ms m w h hl
theorem ztj(own:Clr)(c pp ch:Nat)(pv:Value)(ms:List Ms)(k f t:Int)(bs:List UInt8)(w:World)(h:PoIn w own c pp ch pv ms):
  Calls Tryz.prog 74 #[.pointer (some ⟨pp,0,none⟩),I k,I f,I t, .string ⟨bs.toArray⟩] w fun e w'=>e= .returned (.tuple #[])∧PoOk w own c pp ch (addM ms ⟨k,f,t,bs,false⟩) w':=by
 have HP:Hid (PoIn w own c pp ch pv ms):=h
 clear h
 go_enter Tryz.func74,Tryz.ntmps74
 go_wp2_with fail
 refine(zwi own c pp ch pv ms ⟨k,f,t,bs,false⟩ w HP.out).mono ?_
 rintro e w1 ⟨rfl,h1⟩
 have HE:Hid (PoOk w own c pp ch (addM ms ⟨k,f,t,bs,false⟩) w1):=h1
 clear h1
 go_wp2
 go_end0
 exact⟨rfl,HE.out⟩
def sprA(ms:List Ms)(f:Nat)(fr:List UInt8):Nat->List Ms
 | 0=>ms
 | k+1=>if k=f then sprA ms f fr k else addM (sprA ms f fr k) ⟨1,f,k,fr,false⟩
theorem zmc(own:Clr)(s rg cc pp ch:Nat)(pv:Value)(prs:List Nat)(S:Sto)(f:Nat)(fr:List UInt8)(w w0:World)(eb ef:Addr)(hen:Env w0 w own eb ef)(h:StIn w own s rg cc pp ch pv prs S):
  Calls Tryz.prog 47 #[.pointer (some ⟨s,0,none⟩),I f, .string ⟨fr.toArray⟩] w fun e w'=>e= .returned (.tuple #[])∧StOk w0 w own s {S with msgs:=sprA S.msgs f fr S.reps.length} eb ef w':=by
 have HS:Hid (StOk w0 w own s {S with msgs:=sprA S.msgs f fr 0} eb ef w):=⟨own,rg,cc,pp,ch,pv,prs,Ext.refl _ _,h,hen,Tch.refl _ _⟩
 have c0:w.cell? ⟨s,0,none⟩=some (.slice (some ⟨rg,0,none⟩) S.reps.length cc):=h.blk.cell 0
 have HM:Hid (S.reps.length<=4):=h.most
 clear h hen
 go_enter Tryz.func47,Tryz.ntmps47
 go_wp2_with fail
 go_loopw [12] (fun x wX=>∃k:Nat,k<=S.reps.length∧x=I k∧Hid (StOk w0 w own s {S with msgs:=sprA S.msgs f fr k} eb ef wX)) (fun x _=>S.reps.length - (intOf x).toNat)
 case atStart=>exact⟨0,Nat.zero_le _,rfl,HS⟩
 case round=>
  obtain⟨k,hk,rfl,HK⟩:=hrel
  clear HS c0
  have hk4:k<=4:=by have:=HM.out;omega
  by_cases hlt:k<S.reps.length
  ·obtain⟨own',rg',cc',pp',ch',pv',prs',hE,hS,hen',hT⟩:=HK.out
   have HS':Hid (StIn wr own' s rg' cc' pp' ch' pv' prs' {S with msgs:=sprA S.msgs f fr k}):=hS
   have HEN':Hid (Env w0 wr own' eb ef):=hen'
   have HE':Hid (Ext own own' w.heap.size):=hE
   have HT':Hid (Tch (fun k=>1<=own k∧own k<=100) w wr):=hT
   have c1:wr.cell? ⟨s,1,none⟩=some (.pointer (some ⟨pp',0,none⟩)):=hS.blk.cell 1
   have hki:(k:Int)<S.reps.length:=by omega
   clear hE hS hen' hT
   by_cases hkf:k=f
   ·have HN:Hid (StOk w0 w own s {S with msgs:=sprA S.msgs f fr (k+1)} eb ef wr):=by
     have e:sprA S.msgs f fr (k+1)=sprA S.msgs f fr k:=by rw [sprA,if_pos hkf]
     show StOk _ _ _ _ _ _ _ _
     rw [e]
     exact HK.out
    have hb:((k:Int) !=(f:Int))=false:=by rw [hkf];simp
    have hb2:((k:Int)==(f:Int))=true:=by rw [hkf];simp
    clear hkf HK
    go_wp2_with fail
    go_roundw
    case rel=>exact⟨k+1,hlt,by go_num,HN⟩
    case measure=>simp [intOf];omega
   ·have hb:((k:Int) !=(f:Int))=true:=by simp;omega
    have hb2:((k:Int)==(f:Int))=false:=by simp;omega
    have hkfi:¬(k:Int)=(f:Int):=by omega
    have HSE:Hid (sprA S.msgs f fr (k+1)=addM (sprA S.msgs f fr k) ⟨1,f,k,fr,false⟩):=by show _=_;rw [sprA,if_neg hkf]
    clear HK
    go_wp2_with fail
    refine(ztj own' 100 pp' ch' pv' (sprA S.msgs f fr k) 1 f k fr wr HS'.out.post).mono ?_
    rintro e w2 ⟨rfl,h2⟩
    have HN:Hid (StOk w0 w own s {S with msgs:=sprA S.msgs f fr (k+1)} eb ef w2):=by
     show StOk _ _ _ _ _ _ _ _
     rw [HSE.out]
     exact StOk.from HE'.out HT'.out (StOk.po HS'.out HEN'.out h2)
    clear h2
    go_wp2_with fail
    go_roundw
    case rel=>exact⟨k+1,hlt,by go_num,HN⟩
    case measure=>simp [intOf];omega
  ·have hki:¬(k:Int)<S.reps.length:=by omega
   have HN:Hid (StOk w0 w own s {S with msgs:=sprA S.msgs f fr S.reps.length} eb ef wr):=by
    have:k=S.reps.length:=by omega
    rw [this] at HK
    exact HK
   clear HK
   go_wp2
   go_end0
   exact⟨rfl,HN.out⟩
end Go.Proofs.YtfmcngncaffloaaGreatDoor
