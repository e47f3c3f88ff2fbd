import Derived.Test.YtfmcngncaffloaaGreatDoorG46OwQ
set_option maxHeartbeats 12800000
namespace Go.Proofs.YtfmcngncaffloaaGreatDoor
open Go.RowKit
set_option maxRecDepth 100000
structure Sees(w:World)(x:Rr)(n r k:Nat)(ea:Option Addr)(ec:Nat)(K:List Mk):Prop where
 mks:∀L w',zd7 w x n r ea ec w' L->za3 L k=K
 len:K.length<=1048576
 dots:∀m∈K,m.m.e.dots.length<=1048576
theorem zkh{w w':World}{own:Clr}{c p:Nat}{x:Rr}{dv:Value}{n r:Nat}{ea:Option Addr}{ec:Nat}{L:List Bm}{a:Option Addr}{m:Nat}(h:RrIn w own c p x dv (.slice ea x.es.length ec))(hb:Below w.heap.size w w')(hs:zd7 w x n r ea ec w' L)(hr:w'.ownsRow w.heap.size 124 5 (.slice a L.length m) L.length (flat Bm.cells L)):BatsAt w' a L:=by
 refine⟨zaw hr,fun b hq=> ?_⟩
 rcases hs with⟨rfl,_⟩ | ⟨g,rfl,_,_,hk⟩
 ·exact(h.bats b hq).at.kept hb
 ·rcases List.mem_append.1 hq with hq | hq
  ·exact(h.bats b hq).at.kept hb
  ·rw [List.mem_singleton.1 hq]
   exact zu5 h hb hk
theorem zge{w w':World}{x:Rr}{n r:Nat}{ea:Option Addr}{ec:Nat}{L:List Bm}(hs:zd7 w x n r ea ec w' L)(hb:BsOk x.bs n)(he:x.es.length<=5):L.length<=1048576∧∀b∈L,b.ms.length<=1048576:=by
 have h1:=hb.len
 rcases hs with⟨rfl,_⟩ | ⟨g,rfl,_⟩
 ·exact⟨by omega,fun b hq=>by have:=hb.eff b hq;omega⟩
 ·refine⟨by rw [List.length_append];show x.bs.length+1<=_;omega,fun b hq=> ?_⟩
  rcases List.mem_append.1 hq with hq | hq
  ·have:=hb.eff b hq;omega
  ·rw [List.mem_singleton.1 hq];show x.es.length<=_;omega
def DoRel(x x':Rr)(op k:Int)(A:Sya)(z:Int):Prop:=
 (A.err ≠ 0∧z=A.err∧x'=x)∨(A.err=0∧(A.ds.length:Int)<Wv.rLeastD op∧z=0∧x'=x)∨(A.err=0∧¬(A.ds.length:Int)<Wv.rLeastD op∧(5<=x.es.length∨150<A.ds.length)∧z=12∧x'=x)∨
 (A.err=0∧¬(A.ds.length:Int)<Wv.rLeastD op∧¬(5<=x.es.length∨150<A.ds.length)∧z=0∧∃m:Em,m.e=syE op k A∧x'={x with es:=x.es++ [m]})
def DoOk(w:World)(own:Clr)(c q:Nat)(S:Rs)(r:Nat)(x:Rr)(op k:Int)(A:Sya)(e:Ending)(w':World):Prop:=∃z x',e= .returned (I z)∧RsOk w own c q {S with reps:=S.reps.set r x'} w'∧DoRel x x' op k A z
section
variable {w : World} {own : Clr} {c q rg cc : Nat} {S : Rs} {wv : Value} {prs : List Nat}
theorem zzw(r k:Nat)(x:Rr)(op a b:Int)(o:Ob)(K:List Mk)(h:RsIn w own c q S rg cc wv prs)(hc:0<c)(hx:S.reps[r]?=some x)(hb:BsOk x.bs S.reps.length)(hes:x.es.length<=5)(hop:x.op=true)(dv:Value)(ea:Option Addr)(ec:Nat)(hr:r<prs.length)(hrr:RrIn w own (c+1+r) prs[r] x dv (.slice ea x.es.length ec))
  (hsee:Sees w x S.reps.length r k ea ec K) (hk8:k<8) (h1:1<=op) (h6:op<=6) (hkd:(k:Int) % 4=Wv.rKind op) (hov:OV K o) (hK:Mks K) (hok:(o.kind:Int)=Wv.rKind op) (hbd:o.bound 1000000):
  Calls Tryz.prog 84 #[.pointer (some ⟨q,0,none⟩),I r,I op,I k,I a,I b] w fun e w'=>DoOk w own c q S r x op k (o.answer op a b) e w':=by
 have HOP:=zeb r x h hx
 rw [hop] at HOP
 have HSN:=zmw r x h hb dv ea ec hr hrr
 have HSB:Hid (∀w' L a' m,zd7 w x S.reps.length r ea ec w' L->w'.ownsRow w.heap.size 124 5 (.slice a' L.length m) L.length (flat Bm.cells L)->Below w.heap.size w w'->BatsAt w' a' L∧L.length<=1048576∧(∀b∈L,b.ms.length<=1048576)∧za3 L k=K):=fun w' L a' m h1 h2 h3=>⟨zkh hrr h3 h1 h2,(zge h1 hb hes).1,(zge h1 hb hes).2,hsee.mks L w' h1⟩
 have HKL:Hid (K.length<=1048576∧∀m∈K,m.m.e.dots.length<=1048576):=⟨hsee.len,hsee.dots⟩
 have HEF:Hid (∀w' la cK,MksAt w' la K->Calls Tryz.prog 133 #[.slice la K.length cK,I op,I k,I a,I b] w' fun e w''=>zsc w' op k (o.answer op a b) e w''):=fun w' la cK hm=>zqx K la cK op k a b w' hm hsee.len hsee.dots o hov hK hok h1 h6 hbd
 have HSL:Hid ({S with reps:=S.reps.set r x}=S):=Rs.set_self hx
 have HRS:Hid (∀w',Below w.heap.size w w'->RsOk w own c q S w'):=fun w' hb'=>RsOk.below ⟨rg,cc,wv,prs,h⟩ hb'
 have HRP:Hid (∀y w',RrOk w own (c+1+r) prs[r] y w'->RsOk w own c q {S with reps:=S.reps.set r y} w'):=fun y w' ho=>RsOk.rep h hc r hr ho
 have HR:Hid (RrIn w own (c+1+r) prs[r] x dv (.slice ea x.es.length ec)):=hrr
 have hkn:¬(k:Int)<0:=by omega
 have hkn8:¬(8:Int)<=(k:Int):=by omega
 have hisop:Wv.isOp op=true:=by unfold Wv.isOp;simp [h1,h6]
 have HKD:=fun w'=>zcr op w'
 rw [hisop] at HKD
 have hrem:((k:Int).tmod 4)=Wv.rKind op:=by rw [←hkd];exact Int.tmod_eq_emod_of_nonneg (by omega)
 have hrn:r<S.reps.length:=by have:=h.len;omega
 have hri:(r:Int)<(S.reps.length:Int):=by omega
 have c0:w.cell? ⟨q,0,none⟩=some (.slice (some ⟨rg,0,none⟩) S.reps.length cc):=h.blk.cell 0
 have c1:w.cell? ⟨rg,r,none⟩=some (.pointer (some ⟨prs[r],0,none⟩)):=h.row r hr
 have c6:w.cell? ⟨prs[r],6,none⟩=some (.slice ea x.es.length ec):=hrr.blk.cell 6
 have HQP:Hid (q ≠ prs[r]∧rg ≠ prs[r]∧(Value.slice ea x.es.length ec).ownBlock ≠ some q∧(Value.slice ea x.es.length ec).ownBlock ≠ some rg∧(Value.slice ea x.es.length ec).ownBlock ≠ some prs[r]):=by
  refine⟨fun e=> ?_,fun e=> ?_,fun e=> ?_,fun e=> ?_,fun e=> ?_⟩
  ·have h1:=h.own1
   have h2:=hrr.own1
   rw [e] at h1
   omega
  ·have h1:=h.own2
   have h2:=hrr.own1
   rw [e] at h1
   omega
  ·have h1:=h.own1
   have h2:=hrr.effs.own2 q e
   omega
  ·have h1:=h.own2
   have h2:=hrr.effs.own2 rg e
   omega
  ·exact hrr.nep.2.1 _ e rfl
 obtain⟨A,HA⟩:∃A,Hid (o.answer op a b=A):=⟨_,rfl⟩
 rw [HA.out]
 rw [HA.out] at HEF
 clear h hx hb hop hrr hsee hov hK hok hbd hisop HA
 generalize prs[r]=p at *
 generalize hnn:S.reps.length=n at *
 go_enter Tryz.func84,Tryz.ntmps84
 go_wp2_with fail
 refine HOP.mono ?_
 rintro e w1 ⟨rfl,hw1⟩
 subst hw1
 clear HOP
 go_wp2_with fail
 refine(HKD w1).mono ?_
 rintro e w2 ⟨rfl,hw2⟩
 subst hw2
 clear HKD
 go_wp2_with fail
 refine HSN.mono ?_
 rintro e w3 ⟨L,la,lm,rfl,hs3,ho3,hb3⟩
 obtain⟨q1,q2,q3,q4⟩:=HSB.out w3 L la lm hs3 ho3 hb3
 have HB3:Hid (Below w2.heap.size w2 w3):=hb3
 have HBA:Hid (BatsAt w3 la L):=q1
 have HQ2:Hid (L.length<=1048576):=q2
 have HQ3:Hid (∀b∈L,b.ms.length<=1048576):=q3
 have HQ4:Hid (za3 L k=K):=q4
 clear hs3 ho3 hb3 q1 q2 q3 q4 HSN HSB
 go_wp2_with fail
 refine(zks L la lm k w3 HBA.out HQ2.out HQ3.out (by rw [HQ4.out];exact HKL.out.1)).mono ?_
 rw [HQ4.out]
 rintro e w4 ⟨v4,rfl,ho4,hb4⟩
 obtain⟨ka,kc,rfl⟩:=zar ho4
 have HM4:Hid (MksAt w4 ka K):=⟨zaw ho4,fun m hm=>(zna HBA.out m (by rw [HQ4.out];exact hm)).kept hb4⟩
 have HB4:Hid (Below w2.heap.size w2 w4):=HB3.out.trans (hb4.mono HB3.out.size)
 clear ho4 hb4 HBA HQ2 HQ3 HQ4 HB3
 go_wp2_with fail
 refine(HEF.out w4 ka kc HM4.out).mono ?_
 rintro e w5 ⟨E,sm,⟨da,dc,rfl,hd5,hb5⟩,hE⟩
 have HD5:Hid (w5.ownsRow w4.heap.size 146 3 (.slice da E.dots.length dc) E.dots.length (flat zab E.dots)):=hd5
 have HB5:Hid (Below w2.heap.size w2 w5):=HB4.out.trans (hb5.mono HB4.out.size)
 have hz45:w2.heap.size<=w4.heap.size:=HB4.out.size
 have HE:Hid (A.err=0->E=syE op k A∧(sm=true↔¬((A.ds.length:Int)<Wv.rLeastD op))):=hE
 clear hd5 hb5 hE HEF HM4 HKL HB4
 go_upto_region 10 with fail
 obtain⟨wX,hwX⟩:∃wX,wX=w5.alloc (.cells #[I E.op,I E.ob,I E.va,I E.ref.o,I E.ref.s,I E.ref.i, .slice da E.dots.length dc] 149):=⟨_,rfl⟩
 have HX:Hid (Blk wX w5.heap.size #[I E.op,I E.ob,I E.va,I E.ref.o,I E.ref.s,I E.ref.i, .slice da E.dots.length dc] 149):=by rw [hwX];exact heap_alloc_new w5 _
 have HBX:Hid (Below w2.heap.size w2 wX):=by rw [hwX];exact HB5.out.alloc HB5.out.size _
 have HDX:Hid (wX.ownsRow w2.heap.size 146 3 (.slice da E.dots.length dc) E.dots.length (flat zab E.dots)):=by rw [hwX];exact zbr (HD5.out.alloc _) hz45
 change Code.wp _ _ _ _ (w5.alloc (.cells #[I E.op,I E.ob,I E.va,I E.ref.o,I E.ref.s,I E.ref.i, .slice da E.dots.length dc] 149))
 rw [←hwX]
 have HB5s:w2.heap.size<=w5.heap.size:=HB5.out.size
 clear hwX HD5 HB5
 by_cases herr:A.err=0
 ·obtain⟨hEe,hsm⟩:=HE.out herr
  rw [herr]
  have HEE:Hid (E=syE op k A):=hEe
  have HDL:Hid (E.dots.length=A.ds.length):=by show _=_;rw [hEe];rfl
  have HERR:Hid (A.err=0):=herr
  clear HE hEe herr
  cases sm with
  | false=>
   have HSM:Hid ((A.ds.length:Int)<Wv.rLeastD op):=by
    show _<_
    by_cases hq:(A.ds.length:Int)<Wv.rLeastD op
    ·exact hq
    ·have:=hsm.2 (by omega);cases this
   clear hsm
   have HEND:Hid (RsOk w2 own c q {S with reps:=S.reps.set r x} wX):=by show RsOk _ _ _ _ _ _;rw [HSL.out];exact HRS.out _ HBX.out
   clear HSL HRS HRP HR HX HDX HBX HQP c0 c1 c6 HDL
   go_wp2
   go_ret
   exact⟨0,x,rfl,HEND.out, .inr (.inl ⟨HERR.out,HSM.out,rfl,rfl⟩)⟩
  | true=>
   have HSM:Hid (¬(A.ds.length:Int)<Wv.rLeastD op):=by have hq:=hsm.1 rfl;show¬_<_;omega
   clear hsm
   have d0:wX.cell? ⟨q,0,none⟩=some (.slice (some ⟨rg,0,none⟩) n cc):=zaa HBX.out c0
   have d1:wX.cell? ⟨rg,r,none⟩=some (.pointer (some ⟨p,0,none⟩)):=zaa HBX.out c1
   have d6:wX.cell? ⟨p,6,none⟩=some (.slice ea x.es.length ec):=zaa HBX.out c6
   have x0:wX.cell? ⟨w5.heap.size,0,none⟩=some (I E.op):=HX.out.cell 0
   have x1:wX.cell? ⟨w5.heap.size,1,none⟩=some (I E.ob):=HX.out.cell 1
   have x2:wX.cell? ⟨w5.heap.size,2,none⟩=some (I E.va):=HX.out.cell 2
   have x3:wX.cell? ⟨w5.heap.size,3,none⟩=some (I E.ref.o):=HX.out.cell 3
   have x4:wX.cell? ⟨w5.heap.size,4,none⟩=some (I E.ref.s):=HX.out.cell 4
   have x5:wX.cell? ⟨w5.heap.size,5,none⟩=some (I E.ref.i):=HX.out.cell 5
   have x6:wX.cell? ⟨w5.heap.size,6,none⟩=some (.slice da E.dots.length dc):=HX.out.cell 6
   have HEND:Hid (RsOk w2 own c q {S with reps:=S.reps.set r x} wX):=by show RsOk _ _ _ _ _ _;rw [HSL.out];exact HRS.out _ HBX.out
   by_cases h5:5<=x.es.length
   ·have h5i:(5:Int)<=(x.es.length:Int):=by omega
    have H5:Hid (5<=x.es.length∨150<A.ds.length):= .inl h5
    clear HSL HRS HRP HR HX HDX HBX HQP c0 c1 c6 HDL hes h5
    go_wp2
    go_ret
    exact⟨12,x,rfl,HEND.out, .inr (.inr (.inl ⟨HERR.out,(by have hq:=HSM.out;omega),H5.out,rfl,rfl⟩))⟩
   ·have h5i:¬(5:Int)<=(x.es.length:Int):=by omega
    by_cases h150:150<E.dots.length
    ·have h150i:(150:Int)<(E.dots.length:Int):=by omega
     have H5:Hid (5<=x.es.length∨150<A.ds.length):= .inr (by rw [←HDL.out];exact h150)
     clear HSL HRS HRP HR HX HDX HBX HQP c0 c1 c6 HDL hes h5 h150
     go_wp2
     go_ret
     exact⟨12,x,rfl,HEND.out, .inr (.inr (.inl ⟨HERR.out,(by have hq:=HSM.out;omega),H5.out,rfl,rfl⟩))⟩
    ·have h150i:¬(150:Int)<(E.dots.length:Int):=by omega
     have H5:Hid (¬(5<=x.es.length∨150<A.ds.length)):=by
      intro q
      rcases q with q | q
      ·exact h5 q
      ·exact h150 (by rw [HDL.out];exact q)
     clear HEND HSL HRS
     obtain⟨i2,HI2⟩:∃i,Hid (Tryz.prog.info? 149=some i∧i.zero=some (.agg #[.int .i64 0, .int .i64 0, .int .i64 0, .int .i64 0, .int .i64 0, .int .i64 0, .slice none 0 0])∧i.size=7∧i.bytes=72):=by obtain⟨i,h⟩:=info_parts infoEf;exact⟨i,h⟩
     have HRX:Hid (wX.ownsRow 0 149 7 (.slice ea x.es.length ec) x.es.length (flat Em.cells x.es)):=za6 HR.out.effs.row HBX.out
     have hone:=em_one ⟨E,da,dc⟩
     have e0:(wX.alloc (.cells #[I E.op,I E.ob,I E.va,I E.ref.o,I E.ref.s,I E.ref.i, .slice da E.dots.length dc] 149)).cell? ⟨q,0,none⟩=some (.slice (some ⟨rg,0,none⟩) n cc):=zaa (Below.refl _ _ |>.alloc (Nat.le_refl _) _) d0
     have e1:(wX.alloc (.cells #[I E.op,I E.ob,I E.va,I E.ref.o,I E.ref.s,I E.ref.i, .slice da E.dots.length dc] 149)).cell? ⟨rg,r,none⟩=some (.pointer (some ⟨p,0,none⟩)):=zaa (Below.refl _ _ |>.alloc (Nat.le_refl _) _) d1
     have e6:(wX.alloc (.cells #[I E.op,I E.ob,I E.va,I E.ref.o,I E.ref.s,I E.ref.i, .slice da E.dots.length dc] 149)).cell? ⟨p,6,none⟩=some (.slice ea x.es.length ec):=zaa (Below.refl _ _ |>.alloc (Nat.le_refl _) _) d6
     have hplt:p<wX.heap.size:=zag d6
     clear c0 c1 c6
     have HNX:Hid ((Value.slice ea x.es.length ec).ownBlock ≠ some w5.heap.size):=fun e=>by have:=(HR.out.effs.row.lt _ e).2;have:=HB5s;omega
     have HXP:Hid (w5.heap.size ≠ p):=by have h1:=HR.out.blk.lt;have h2:=HB5s;show w5.heap.size ≠ p;omega
     have HSX:Hid (wX.cell? ⟨q,0,none⟩=some (.slice (some ⟨rg,0,none⟩) n cc)∧wX.cell? ⟨rg,r,none⟩=some (.pointer (some ⟨p,0,none⟩))∧wX.cell? ⟨w5.heap.size,0,none⟩=some (I E.op)∧wX.cell? ⟨w5.heap.size,1,none⟩=some (I E.ob)∧wX.cell? ⟨w5.heap.size,2,none⟩=some (I E.va)∧wX.cell? ⟨w5.heap.size,3,none⟩=some (I E.ref.o)∧wX.cell? ⟨w5.heap.size,4,none⟩=some (I E.ref.s)∧wX.cell? ⟨w5.heap.size,5,none⟩=some (I E.ref.i)∧wX.cell? ⟨w5.heap.size,6,none⟩=some (.slice da E.dots.length dc)):=⟨d0,d1,x0,x1,x2,x3,x4,x5,x6⟩
     have HSA:Hid ((wX.alloc (.cells #[I E.op,I E.ob,I E.va,I E.ref.o,I E.ref.s,I E.ref.i, .slice da E.dots.length dc] 149)).cell? ⟨q,0,none⟩=some (.slice (some ⟨rg,0,none⟩) n cc)∧(wX.alloc (.cells #[I E.op,I E.ob,I E.va,I E.ref.o,I E.ref.s,I E.ref.i, .slice da E.dots.length dc] 149)).cell? ⟨rg,r,none⟩=some (.pointer (some ⟨p,0,none⟩))∧(wX.alloc (.cells #[I E.op,I E.ob,I E.va,I E.ref.o,I E.ref.s,I E.ref.i, .slice da E.dots.length dc] 149)).cell? ⟨w5.heap.size,0,none⟩=some (I E.op)∧(wX.alloc (.cells #[I E.op,I E.ob,I E.va,I E.ref.o,I E.ref.s,I E.ref.i, .slice da E.dots.length dc] 149)).cell? ⟨w5.heap.size,1,none⟩=some (I E.ob)∧(wX.alloc (.cells #[I E.op,I E.ob,I E.va,I E.ref.o,I E.ref.s,I E.ref.i, .slice da E.dots.length dc] 149)).cell? ⟨w5.heap.size,2,none⟩=some (I E.va)∧(wX.alloc (.cells #[I E.op,I E.ob,I E.va,I E.ref.o,I E.ref.s,I E.ref.i, .slice da E.dots.length dc] 149)).cell? ⟨w5.heap.size,3,none⟩=some (I E.ref.o)∧(wX.alloc (.cells #[I E.op,I E.ob,I E.va,I E.ref.o,I E.ref.s,I E.ref.i, .slice da E.dots.length dc] 149)).cell? ⟨w5.heap.size,4,none⟩=some (I E.ref.s)∧(wX.alloc (.cells #[I E.op,I E.ob,I E.va,I E.ref.o,I E.ref.s,I E.ref.i, .slice da E.dots.length dc] 149)).cell? ⟨w5.heap.size,5,none⟩=some (I E.ref.i)∧(wX.alloc (.cells #[I E.op,I E.ob,I E.va,I E.ref.o,I E.ref.s,I E.ref.i, .slice da E.dots.length dc] 149)).cell? ⟨w5.heap.size,6,none⟩=some (.slice da E.dots.length dc)):=⟨e0,e1,(HX.out.alloc _).cell 0,(HX.out.alloc _).cell 1,(HX.out.alloc _).cell 2,(HX.out.alloc _).cell 3,(HX.out.alloc _).cell 4,(HX.out.alloc _).cell 5,(HX.out.alloc _).cell 6⟩
     go_wp2_with fail
     refine wp_region_held_drew (S:=(fun w'=>w'.cell? ⟨q,0,none⟩=some (.slice (some ⟨rg,0,none⟩) n cc)∧w'.cell? ⟨rg,r,none⟩=some (.pointer (some ⟨p,0,none⟩))∧w'.cell? ⟨w5.heap.size,0,none⟩=some (I E.op)∧w'.cell? ⟨w5.heap.size,1,none⟩=some (I E.ob)∧w'.cell? ⟨w5.heap.size,2,none⟩=some (I E.va)∧w'.cell? ⟨w5.heap.size,3,none⟩=some (I E.ref.o)∧w'.cell? ⟨w5.heap.size,4,none⟩=some (I E.ref.s)∧w'.cell? ⟨w5.heap.size,5,none⟩=some (I E.ref.i)∧w'.cell? ⟨w5.heap.size,6,none⟩=some (.slice da E.dots.length dc))) (by kernel_rfl) HSX.out (fun hHeld=> ?_)
     refine wpAnyH_take (i:=0) (v:= ?v0) rfl (by kernel_rfl) (by kernel_rfl) (by kernel_rfl) (fun _ _ _ h=>h) (Or.inl ⟨by rfl, ?hy0⟩) (by assumption) ?rest0
     case hy0=>(intro w hSw;(try dsimp only at hSw);go_simp;try with_reducible rfl)
     change wpAnyH _ _ _ _ _ _ _ (Act.put _ (some 77) _) _
     simp only [Act.put,List.setIfInBounds_toArray,List.set_cons_zero,List.set_cons_succ]
     refine wpAnyH_take (i:=1) (v:= ?v1) rfl (by kernel_rfl) (by kernel_rfl) (by kernel_rfl) (fun _ _ _ h=>h) (Or.inl ⟨by rfl, ?hy1⟩) (by assumption) ?rest1
     case hy1=>(intro w hSw;(try dsimp only at hSw);go_simp;try with_reducible rfl)
     change wpAnyH _ _ _ _ _ _ _ (Act.put _ (some 78) _) _
     simp only [Act.put,List.setIfInBounds_toArray,List.set_cons_zero,List.set_cons_succ]
     refine wpAnyH_take (i:=2) (v:= ?v2) rfl (by kernel_rfl) (by kernel_rfl) (by kernel_rfl) (fun _ _ _ h=>h) (Or.inl ⟨by rfl, ?hy2⟩) (by assumption) ?rest2
     case hy2=>(intro w hSw;(try dsimp only at hSw);go_simp;try with_reducible rfl)
     change wpAnyH _ _ _ _ _ _ _ (Act.put _ (some 79) _) _
     simp only [Act.put,List.setIfInBounds_toArray,List.set_cons_zero,List.set_cons_succ]
     refine wpAnyH_take (i:=3) (v:= ?v3) rfl (by kernel_rfl) (by kernel_rfl) (by kernel_rfl) (fun _ _ _ h=>h) (Or.inl ⟨by rfl, ?hy3⟩) (by assumption) ?rest3
     case hy3=>(intro w hSw;(try dsimp only at hSw);go_simp;try with_reducible rfl)
     change wpAnyH _ _ _ _ _ _ _ (Act.put _ (some 80) _) _
     simp only [Act.put,List.setIfInBounds_toArray,List.set_cons_zero,List.set_cons_succ]
     refine wpAnyH_take (i:=4) (v:= ?v4) rfl (by kernel_rfl) (by kernel_rfl) (by kernel_rfl) (fun _ _ _ h=>h) (Or.inl ⟨by rfl, ?hy4⟩) (by assumption) ?rest4
     case hy4=>(intro w hSw;(try dsimp only at hSw);go_simp;try with_reducible rfl)
     change wpAnyH _ _ _ _ _ _ _ (Act.put _ (some 81) _) _
     simp only [Act.put,List.setIfInBounds_toArray,List.set_cons_zero,List.set_cons_succ]
     refine wpAnyH_take (i:=5) (v:= ?v5) rfl (by kernel_rfl) (by kernel_rfl) (by kernel_rfl) (fun _ _ _ h=>h) (Or.inl ⟨by rfl, ?hy5⟩) (by assumption) ?rest5
     case hy5=>(intro w hSw;(try dsimp only at hSw);go_simp;try with_reducible rfl)
     change wpAnyH _ _ _ _ _ _ _ (Act.put _ (some 82) _) _
     simp only [Act.put,List.setIfInBounds_toArray,List.set_cons_zero,List.set_cons_succ]
     refine wpAnyH_take (i:=6) (v:= ?v6) rfl (by kernel_rfl) (by kernel_rfl) (by kernel_rfl) (fun _ _ _ h=>h) (Or.inl ⟨by rfl, ?hy6⟩) (by assumption) ?rest6
     case hy6=>(intro w hSw;(try dsimp only at hSw);go_simp;try with_reducible rfl)
     change wpAnyH _ _ _ _ _ _ _ (Act.put _ (some 83) _) _
     simp only [Act.put,List.setIfInBounds_toArray,List.set_cons_zero,List.set_cons_succ]
     refine wpAnyH_take (i:=7) (v:= ?v7) rfl (by kernel_rfl) (by kernel_rfl) (by kernel_rfl) (fun _ _ _ h=>h) (Or.inl ⟨by rfl, ?hy7⟩) (by assumption) ?rest7
     case hy7=>(intro w hSw;(try dsimp only at hSw);go_simp;try with_reducible rfl)
     change wpAnyH _ _ _ _ _ _ _ (Act.put _ (some 84) _) _
     simp only [Act.put,List.setIfInBounds_toArray,List.set_cons_zero,List.set_cons_succ]
     refine wpAnyH_take (i:=8) (v:= ?v8) rfl (by kernel_rfl) (by kernel_rfl) (by kernel_rfl) (fun _ _ _ h=>h) (Or.inl ⟨by rfl, ?hy8⟩) (by assumption) ?rest8
     case hy8=>(intro w hSw;(try dsimp only at hSw);go_simp;try with_reducible rfl)
     change wpAnyH _ _ _ _ _ _ _ (Act.put _ (some 85) _) _
     simp only [Act.put,List.setIfInBounds_toArray,List.set_cons_zero,List.set_cons_succ]
     refine wpAnyH_take (i:=9) (v:= ?v9) rfl (by kernel_rfl) (by kernel_rfl) (by kernel_rfl) (fun _ _ _ h=>h) (Or.inl ⟨by rfl, ?hy9⟩) (by assumption) ?rest9
     case hy9=>(intro w hSw;(try dsimp only at hSw);go_simp;try with_reducible rfl)
     change wpAnyH _ _ _ _ _ _ _ (Act.put _ (some 86) _) _
     simp only [Act.put,List.setIfInBounds_toArray,List.set_cons_zero,List.set_cons_succ]
     refine wpAnyH_take (i:=10) (v:= ?v10) rfl (by kernel_rfl) (by kernel_rfl) (by kernel_rfl) (fun _ _ _ h=>h) (Or.inl ⟨by rfl, ?hy10⟩) (by assumption) ?rest10
     case hy10=>(intro w hSw;(try dsimp only at hSw);go_simp;try with_reducible rfl)
     change wpAnyH _ _ _ _ _ _ _ (Act.put _ (some 87) _) _
     simp only [Act.put,List.setIfInBounds_toArray,List.set_cons_zero,List.set_cons_succ]
     refine wpAnyH_take (i:=11) (v:= ?v11) rfl (by kernel_rfl) (by kernel_rfl) (by kernel_rfl) (fun _ _ _ h=>h) (Or.inl ⟨by rfl, ?hy11⟩) (by assumption) ?rest11
     case hy11=>(intro w hSw;(try dsimp only at hSw);go_simp;try with_reducible rfl)
     change wpAnyH _ _ _ _ _ _ _ (Act.put _ (some 88) _) _
     simp only [Act.put,List.setIfInBounds_toArray,List.set_cons_zero,List.set_cons_succ]
     refine wpAnyH_take (i:=12) (v:= ?v12) rfl (by kernel_rfl) (by kernel_rfl) (by kernel_rfl) (fun _ _ _ h=>h) (Or.inl ⟨by rfl, ?hy12⟩) (by assumption) ?rest12
     case hy12=>(intro w hSw;(try dsimp only at hSw);go_simp;try with_reducible rfl)
     change wpAnyH _ _ _ _ _ _ _ (Act.put _ (some 89) _) _
     simp only [Act.put,List.setIfInBounds_toArray,List.set_cons_zero,List.set_cons_succ]
     refine wpAnyH_take (i:=13) (v:= ?v13) rfl (by kernel_rfl) (by kernel_rfl) (by kernel_rfl) (fun _ _ _ h=>h) (Or.inl ⟨by rfl, ?hy13⟩) (by assumption) ?rest13
     case hy13=>(intro w hSw;(try dsimp only at hSw);go_simp;try with_reducible rfl)
     change wpAnyH _ _ _ _ _ _ _ (Act.put _ (some 90) _) _
     simp only [Act.put,List.setIfInBounds_toArray,List.set_cons_zero,List.set_cons_succ]
     refine wpAnyH_take (i:=14) (v:= ?v14) rfl (by kernel_rfl) (by kernel_rfl) (by kernel_rfl) (fun _ _ _ h=>h) (Or.inl ⟨by rfl, ?hy14⟩) (by assumption) ?rest14
     case hy14=>(intro w hSw;(try dsimp only at hSw);go_simp;try with_reducible rfl)
     change wpAnyH _ _ _ _ _ _ _ (Act.put _ (some 91) _) _
     simp only [Act.put,List.setIfInBounds_toArray,List.set_cons_zero,List.set_cons_succ]
     refine wpAnyH_take (i:=15) (v:= ?v15) rfl (by kernel_rfl) (by kernel_rfl) (by kernel_rfl) (fun _ _ _ h=>h) (Or.inl ⟨by rfl, ?hy15⟩) (by assumption) ?rest15
     case hy15=>(intro w hSw;(try dsimp only at hSw);go_simp;try with_reducible rfl)
     change wpAnyH _ _ _ _ _ _ _ (Act.put _ (some 92) _) _
     simp only [Act.put,List.setIfInBounds_toArray,List.set_cons_zero,List.set_cons_succ]
     refine wpAnyH_take (i:=17) (v:= ?v17) rfl (by kernel_rfl) (by kernel_rfl) (by kernel_rfl) (fun _ _ _ h=>h) (Or.inl ⟨by rfl, ?hy17⟩) (by assumption) ?rest17
     case hy17=>(intro w hSw;(try dsimp only at hSw);go_simp;try with_reducible rfl)
     change wpAnyH _ _ _ _ _ _ _ (Act.put _ (some 94) _) _
     simp only [Act.put,List.setIfInBounds_toArray,List.set_cons_zero,List.set_cons_succ]
     refine wpAnyH_ready (rs:= [16,18]) (by kernel_rfl) (by simp) ?_
     refine AllReadyH.cons rfl (fun K hK=> ?_) (AllReadyH.cons rfl (fun K hK=> ?_) AllReadyH.nil)
     ·go_simp
      refine hK.out _ _ HSX.out (fun hHeld=> ?_)
      clear hK K
      refine wpAnyH_ready (rs:= [18]) (by kernel_rfl) (by simp) ?_
      refine AllReadyH.cons rfl (fun K hK=> ?_) AllReadyH.nil
      go_simp
      refine hK.out _ _ HSA.out (fun hHeld=> ?_)
      clear hK K
      refine wpAnyH_ready (rs:= [19]) (by kernel_rfl) (by simp) ?_
      refine AllReadyH.cons rfl (fun K hK=> ?_) AllReadyH.nil
      refine step_append_lies _ (by rfl) _ _ _ (by rfl) 0 149 i2 (.agg #[.int .i64 0, .int .i64 0, .int .i64 0, .int .i64 0, .int .i64 0, .int .i64 0, .slice none 0 0]) 7 72 Tryz.underlying109 HI2.out.1 HI2.out.2.1 HI2.out.2.2.1 HI2.out.2.2.2 (by rfl) (by omega) (.slice ea x.es.length ec) x.es.length (flat Em.cells x.es) (by rfl) (by first | exact HRX.out.alloc _ | exact(HRX.out.alloc _).drew | exact(HRX.out.drew).alloc _) ⟨wX.heap.size,0,none⟩ 1 1 [I E.op,I E.ob,I E.va,I E.ref.o,I E.ref.s,I E.ref.i, .slice da E.dots.length dc] (by rfl) (by rfl) (by first | exact zas wX _ _ | exact zb2 wX _ _) hone (by omega) (by unfold maxLen;omega) (by omega) (by omega) (wX.heap.size+1) (by simp) ?_;intro g7 cap7 w7 hown7 hgrow7 hat7 hlt7;have HT7:Hid (Tch (fun k=>(Value.slice ea x.es.length ec).ownBlock=some k) wX w7):=(by first | exact((Tch.refl _ wX).drew.alloc _).then (Tch.grown hgrow7) | exact((Tch.refl _ wX).alloc _).then (Tch.grown hgrow7) | exact((Tch.refl _ wX).alloc _).drew.then (Tch.grown hgrow7));have HO7:Hid (w7.ownsRow 0 149 7 (.slice (some ⟨g7,0,none⟩) (x.es.length+1) cap7) (x.es.length+1) (flat Em.cells x.es++ [I E.op,I E.ob,I E.va,I E.ref.o,I E.ref.s,I E.ref.i, .slice da E.dots.length dc])):=hown7;have HA7:Hid ((Value.slice ea x.es.length ec).ownBlock=some g7∨g7=wX.heap.size+1):=hat7;have f0:w7.cell? ⟨q,0,none⟩=some (.slice (some ⟨rg,0,none⟩) n cc):=zb0 HT7.out d0 HQP.out.2.2.1;have f1:w7.cell? ⟨rg,r,none⟩=some (.pointer (some ⟨p,0,none⟩)):=zb0 HT7.out d1 HQP.out.2.2.2.1;have f6:w7.cell? ⟨p,6,none⟩=some (.slice ea x.es.length ec):=zb0 HT7.out d6 HQP.out.2.2.2.2;have z6:w7.frozen? ⟨p,6,none⟩=false:=(HT7.out.blk (HR.out.blk.kept HBX.out HR.out.blk.lt) HQP.out.2.2.2.2).frozen 6;have HX7:Hid (Blk w7 w5.heap.size #[I E.op,I E.ob,I E.va,I E.ref.o,I E.ref.s,I E.ref.i, .slice da E.dots.length dc] 149):=HT7.out.blk HX.out HNX.out;have HS7:Hid (w7.cell? ⟨q,0,none⟩=some (.slice (some ⟨rg,0,none⟩) n cc)∧w7.cell? ⟨rg,r,none⟩=some (.pointer (some ⟨p,0,none⟩))∧w7.cell? ⟨w5.heap.size,0,none⟩=some (I E.op)∧w7.cell? ⟨w5.heap.size,1,none⟩=some (I E.ob)∧w7.cell? ⟨w5.heap.size,2,none⟩=some (I E.va)∧w7.cell? ⟨w5.heap.size,3,none⟩=some (I E.ref.o)∧w7.cell? ⟨w5.heap.size,4,none⟩=some (I E.ref.s)∧w7.cell? ⟨w5.heap.size,5,none⟩=some (I E.ref.i)∧w7.cell? ⟨w5.heap.size,6,none⟩=some (.slice da E.dots.length dc)):=⟨f0,f1,HX7.out.cell 0,HX7.out.cell 1,HX7.out.cell 2,HX7.out.cell 3,HX7.out.cell 4,HX7.out.cell 5,HX7.out.cell 6⟩;have HS8:Hid ((w7.setCell ⟨p,6,none⟩ (.slice (some ⟨g7,0,none⟩) (x.es.length+1) cap7)).cell? ⟨q,0,none⟩=some (.slice (some ⟨rg,0,none⟩) n cc)∧(w7.setCell ⟨p,6,none⟩ (.slice (some ⟨g7,0,none⟩) (x.es.length+1) cap7)).cell? ⟨rg,r,none⟩=some (.pointer (some ⟨p,0,none⟩))∧(w7.setCell ⟨p,6,none⟩ (.slice (some ⟨g7,0,none⟩) (x.es.length+1) cap7)).cell? ⟨w5.heap.size,0,none⟩=some (I E.op)∧(w7.setCell ⟨p,6,none⟩ (.slice (some ⟨g7,0,none⟩) (x.es.length+1) cap7)).cell? ⟨w5.heap.size,1,none⟩=some (I E.ob)∧(w7.setCell ⟨p,6,none⟩ (.slice (some ⟨g7,0,none⟩) (x.es.length+1) cap7)).cell? ⟨w5.heap.size,2,none⟩=some (I E.va)∧(w7.setCell ⟨p,6,none⟩ (.slice (some ⟨g7,0,none⟩) (x.es.length+1) cap7)).cell? ⟨w5.heap.size,3,none⟩=some (I E.ref.o)∧(w7.setCell ⟨p,6,none⟩ (.slice (some ⟨g7,0,none⟩) (x.es.length+1) cap7)).cell? ⟨w5.heap.size,4,none⟩=some (I E.ref.s)∧(w7.setCell ⟨p,6,none⟩ (.slice (some ⟨g7,0,none⟩) (x.es.length+1) cap7)).cell? ⟨w5.heap.size,5,none⟩=some (I E.ref.i)∧(w7.setCell ⟨p,6,none⟩ (.slice (some ⟨g7,0,none⟩) (x.es.length+1) cap7)).cell? ⟨w5.heap.size,6,none⟩=some (.slice da E.dots.length dc)):=⟨zan f0 (heap_setCell_other _ _ _ _ HQP.out.1),zan f1 (heap_setCell_other _ _ _ _ HQP.out.2.1),(HX7.out.other HXP.out _).cell 0,(HX7.out.other HXP.out _).cell 1,(HX7.out.other HXP.out _).cell 2,(HX7.out.other HXP.out _).cell 3,(HX7.out.other HXP.out _).cell 4,(HX7.out.other HXP.out _).cell 5,(HX7.out.other HXP.out _).cell 6⟩;clear hown7 hgrow7 hat7 hlt7 HX7 f0 f1
      (try dsimp only)
      refine hK.out _ _ HS7.out (fun hHeld=> ?_)
      clear hK K
      refine wpAnyH_take (i:=20) (v:= ?v20a) rfl (by kernel_rfl) (by kernel_rfl) (by kernel_rfl) (fun _ _ _ h=>h) (Or.inl ⟨by rfl, ?hy20a⟩) (by assumption) ?rest20a
      case hy20a=>(intro w hSw;(try dsimp only at hSw);go_simp;try with_reducible rfl)
      change wpAnyH _ _ _ _ _ _ _ (Act.put _ (some 97) _) _
      simp only [Act.put,List.setIfInBounds_toArray]
      refine wpAnyH_take (i:=21) (v:= ?v21a) rfl (by kernel_rfl) (by kernel_rfl) (by kernel_rfl) (fun _ _ _ h=>h) (Or.inl ⟨by rfl, ?hy21a⟩) (by assumption) ?rest21a
      case hy21a=>(intro w hSw;(try dsimp only at hSw);go_simp;try with_reducible rfl)
      change wpAnyH _ _ _ _ _ _ _ (Act.put _ (some 98) _) _
      simp only [Act.put]
      refine wpAnyH_ready (rs:= [22]) (by kernel_rfl) (by simp) ?_
      refine AllReadyH.cons rfl (fun K hK=> ?_) AllReadyH.nil
      go_simp
      refine hK.out _ _ HS8.out (fun hHeld=> ?_)
      clear hK K
      refine wpAnyH_done (by kernel_rfl) ?_ _
      have HEND:Hid (RsOk w2 own c q {S with reps:=S.reps.set r {x with es:=x.es++ [⟨E,da,dc⟩]}} (w7.setCell ⟨p,6,none⟩ (.slice (some ⟨g7,0,none⟩) (x.es.length+1) cap7))):=HRP.out _ _ (RrOk.add HR.out (by omega) ⟨E,da,dc⟩ HBX.out HT7.out HO7.out (HA7.out.imp id (fun e=>by omega)) HDX.out)
      clear HT7 HO7 HA7 HS7 HS8 HSX HSA HNX HXP HR HRP HX HDX HBX HQP HRX f6 z6 d0 d1 d6 e0 e1 e6 x0 x1 x2 x3 x4 x5 x6
      go_wp2
      go_ret
      exact⟨0,_,rfl,HEND.out, .inr (.inr (.inr ⟨HERR.out,(by have hq:=HSM.out;omega),H5.out,rfl,⟨E,da,dc⟩,HEE.out,rfl⟩))⟩
     ·go_simp
      refine hK.out _ _ HSA.out (fun hHeld=> ?_)
      clear hK K
      refine wpAnyH_ready (rs:= [16]) (by kernel_rfl) (by simp) ?_
      refine AllReadyH.cons rfl (fun K hK=> ?_) AllReadyH.nil
      go_simp
      refine hK.out _ _ HSA.out (fun hHeld=> ?_)
      clear hK K
      refine wpAnyH_ready (rs:= [19]) (by kernel_rfl) (by simp) ?_
      refine AllReadyH.cons rfl (fun K hK=> ?_) AllReadyH.nil
      refine step_append_lies _ (by rfl) _ _ _ (by rfl) 0 149 i2 (.agg #[.int .i64 0, .int .i64 0, .int .i64 0, .int .i64 0, .int .i64 0, .int .i64 0, .slice none 0 0]) 7 72 Tryz.underlying109 HI2.out.1 HI2.out.2.1 HI2.out.2.2.1 HI2.out.2.2.2 (by rfl) (by omega) (.slice ea x.es.length ec) x.es.length (flat Em.cells x.es) (by rfl) (by first | exact HRX.out.alloc _ | exact(HRX.out.alloc _).drew | exact(HRX.out.drew).alloc _) ⟨wX.heap.size,0,none⟩ 1 1 [I E.op,I E.ob,I E.va,I E.ref.o,I E.ref.s,I E.ref.i, .slice da E.dots.length dc] (by rfl) (by rfl) (by first | exact zas wX _ _ | exact zb2 wX _ _) hone (by omega) (by unfold maxLen;omega) (by omega) (by omega) (wX.heap.size+1) (by simp) ?_;intro g7 cap7 w7 hown7 hgrow7 hat7 hlt7;have HT7:Hid (Tch (fun k=>(Value.slice ea x.es.length ec).ownBlock=some k) wX w7):=(by first | exact((Tch.refl _ wX).drew.alloc _).then (Tch.grown hgrow7) | exact((Tch.refl _ wX).alloc _).then (Tch.grown hgrow7) | exact((Tch.refl _ wX).alloc _).drew.then (Tch.grown hgrow7));have HO7:Hid (w7.ownsRow 0 149 7 (.slice (some ⟨g7,0,none⟩) (x.es.length+1) cap7) (x.es.length+1) (flat Em.cells x.es++ [I E.op,I E.ob,I E.va,I E.ref.o,I E.ref.s,I E.ref.i, .slice da E.dots.length dc])):=hown7;have HA7:Hid ((Value.slice ea x.es.length ec).ownBlock=some g7∨g7=wX.heap.size+1):=hat7;have f0:w7.cell? ⟨q,0,none⟩=some (.slice (some ⟨rg,0,none⟩) n cc):=zb0 HT7.out d0 HQP.out.2.2.1;have f1:w7.cell? ⟨rg,r,none⟩=some (.pointer (some ⟨p,0,none⟩)):=zb0 HT7.out d1 HQP.out.2.2.2.1;have f6:w7.cell? ⟨p,6,none⟩=some (.slice ea x.es.length ec):=zb0 HT7.out d6 HQP.out.2.2.2.2;have z6:w7.frozen? ⟨p,6,none⟩=false:=(HT7.out.blk (HR.out.blk.kept HBX.out HR.out.blk.lt) HQP.out.2.2.2.2).frozen 6;have HX7:Hid (Blk w7 w5.heap.size #[I E.op,I E.ob,I E.va,I E.ref.o,I E.ref.s,I E.ref.i, .slice da E.dots.length dc] 149):=HT7.out.blk HX.out HNX.out;have HS7:Hid (w7.cell? ⟨q,0,none⟩=some (.slice (some ⟨rg,0,none⟩) n cc)∧w7.cell? ⟨rg,r,none⟩=some (.pointer (some ⟨p,0,none⟩))∧w7.cell? ⟨w5.heap.size,0,none⟩=some (I E.op)∧w7.cell? ⟨w5.heap.size,1,none⟩=some (I E.ob)∧w7.cell? ⟨w5.heap.size,2,none⟩=some (I E.va)∧w7.cell? ⟨w5.heap.size,3,none⟩=some (I E.ref.o)∧w7.cell? ⟨w5.heap.size,4,none⟩=some (I E.ref.s)∧w7.cell? ⟨w5.heap.size,5,none⟩=some (I E.ref.i)∧w7.cell? ⟨w5.heap.size,6,none⟩=some (.slice da E.dots.length dc)):=⟨f0,f1,HX7.out.cell 0,HX7.out.cell 1,HX7.out.cell 2,HX7.out.cell 3,HX7.out.cell 4,HX7.out.cell 5,HX7.out.cell 6⟩;have HS8:Hid ((w7.setCell ⟨p,6,none⟩ (.slice (some ⟨g7,0,none⟩) (x.es.length+1) cap7)).cell? ⟨q,0,none⟩=some (.slice (some ⟨rg,0,none⟩) n cc)∧(w7.setCell ⟨p,6,none⟩ (.slice (some ⟨g7,0,none⟩) (x.es.length+1) cap7)).cell? ⟨rg,r,none⟩=some (.pointer (some ⟨p,0,none⟩))∧(w7.setCell ⟨p,6,none⟩ (.slice (some ⟨g7,0,none⟩) (x.es.length+1) cap7)).cell? ⟨w5.heap.size,0,none⟩=some (I E.op)∧(w7.setCell ⟨p,6,none⟩ (.slice (some ⟨g7,0,none⟩) (x.es.length+1) cap7)).cell? ⟨w5.heap.size,1,none⟩=some (I E.ob)∧(w7.setCell ⟨p,6,none⟩ (.slice (some ⟨g7,0,none⟩) (x.es.length+1) cap7)).cell? ⟨w5.heap.size,2,none⟩=some (I E.va)∧(w7.setCell ⟨p,6,none⟩ (.slice (some ⟨g7,0,none⟩) (x.es.length+1) cap7)).cell? ⟨w5.heap.size,3,none⟩=some (I E.ref.o)∧(w7.setCell ⟨p,6,none⟩ (.slice (some ⟨g7,0,none⟩) (x.es.length+1) cap7)).cell? ⟨w5.heap.size,4,none⟩=some (I E.ref.s)∧(w7.setCell ⟨p,6,none⟩ (.slice (some ⟨g7,0,none⟩) (x.es.length+1) cap7)).cell? ⟨w5.heap.size,5,none⟩=some (I E.ref.i)∧(w7.setCell ⟨p,6,none⟩ (.slice (some ⟨g7,0,none⟩) (x.es.length+1) cap7)).cell? ⟨w5.heap.size,6,none⟩=some (.slice da E.dots.length dc)):=⟨zan f0 (heap_setCell_other _ _ _ _ HQP.out.1),zan f1 (heap_setCell_other _ _ _ _ HQP.out.2.1),(HX7.out.other HXP.out _).cell 0,(HX7.out.other HXP.out _).cell 1,(HX7.out.other HXP.out _).cell 2,(HX7.out.other HXP.out _).cell 3,(HX7.out.other HXP.out _).cell 4,(HX7.out.other HXP.out _).cell 5,(HX7.out.other HXP.out _).cell 6⟩;clear hown7 hgrow7 hat7 hlt7 HX7 f0 f1
      (try dsimp only)
      refine hK.out _ _ HS7.out (fun hHeld=> ?_)
      clear hK K
      refine wpAnyH_take (i:=20) (v:= ?v20b) rfl (by kernel_rfl) (by kernel_rfl) (by kernel_rfl) (fun _ _ _ h=>h) (Or.inl ⟨by rfl, ?hy20b⟩) (by assumption) ?rest20b
      case hy20b=>(intro w hSw;(try dsimp only at hSw);go_simp;try with_reducible rfl)
      change wpAnyH _ _ _ _ _ _ _ (Act.put _ (some 97) _) _
      simp only [Act.put,List.setIfInBounds_toArray]
      refine wpAnyH_take (i:=21) (v:= ?v21b) rfl (by kernel_rfl) (by kernel_rfl) (by kernel_rfl) (fun _ _ _ h=>h) (Or.inl ⟨by rfl, ?hy21b⟩) (by assumption) ?rest21b
      case hy21b=>(intro w hSw;(try dsimp only at hSw);go_simp;try with_reducible rfl)
      change wpAnyH _ _ _ _ _ _ _ (Act.put _ (some 98) _) _
      simp only [Act.put]
      refine wpAnyH_ready (rs:= [22]) (by kernel_rfl) (by simp) ?_
      refine AllReadyH.cons rfl (fun K hK=> ?_) AllReadyH.nil
      go_simp
      refine hK.out _ _ HS8.out (fun hHeld=> ?_)
      clear hK K
      refine wpAnyH_done (by kernel_rfl) ?_ _
      have HEND:Hid (RsOk w2 own c q {S with reps:=S.reps.set r {x with es:=x.es++ [⟨E,da,dc⟩]}} (w7.setCell ⟨p,6,none⟩ (.slice (some ⟨g7,0,none⟩) (x.es.length+1) cap7))):=HRP.out _ _ (RrOk.add HR.out (by omega) ⟨E,da,dc⟩ HBX.out HT7.out HO7.out (HA7.out.imp id (fun e=>by omega)) HDX.out)
      clear HT7 HO7 HA7 HS7 HS8 HSX HSA HNX HXP HR HRP HX HDX HBX HQP HRX f6 z6 d0 d1 d6 e0 e1 e6 x0 x1 x2 x3 x4 x5 x6
      go_wp2
      go_ret
      exact⟨0,_,rfl,HEND.out, .inr (.inr (.inr ⟨HERR.out,(by have hq:=HSM.out;omega),H5.out,rfl,⟨E,da,dc⟩,HEE.out,rfl⟩))⟩
 ·have HERR:Hid (A.err ≠ 0):=herr
  have HEND:Hid (RsOk w2 own c q {S with reps:=S.reps.set r x} wX):=by show RsOk _ _ _ _ _ _;rw [HSL.out];exact HRS.out _ HBX.out
  clear HSL HRS HRP HR HX HDX HBX HQP c0 c1 c6 HE
  generalize hz:A.err=z at *
  go_wp2
  go_ret
  exact⟨z,x,rfl,HEND.out, .inl ⟨by rw [hz];exact HERR.out,hz.symm,rfl⟩⟩
end
theorem zuw(ks:List Mk)(a:Option Addr)(c k:Nat)(w:World)(h:MksAt w a ks)(hl:ks.length<=1048576)(hd:∀m∈ks,m.m.e.dots.length<=1048576)(hv:∀m∈ks, -1048576<=m.m.e.va∧m.m.e.va<=1048576)(ht:k % 4=3->(treeK ks (ks.length+1) ⟨0,0,0⟩).length<=1048576):
  Calls Tryz.prog 137 #[.slice a ks.length c,I k] w fun e w'=>∃v',e= .returned v'∧w'.ownsRow w.heap.size 3 1 v' (zd5 ks (k % 4)).length ((zd5 ks (k % 4)).map I)∧Below w.heap.size w w':=by
 have hm:(k:Int).tmod 4=((k % 4:Nat):Int):=by rw [Int.tmod_eq_emod_of_nonneg (by omega)];omega
 have hk:k % 4=0∨k % 4=1∨k % 4=2∨k % 4=3:=by omega
 rcases hk with e | e | e | e
 ·rw [e]
  exact zj3 ks a c k w h hl (by rw [hm,e];rfl) hv
 ·rw [e]
  exact zuv ks a c k w h hl hd (by rw [hm,e];rfl)
 ·rw [e]
  refine(zje ks a c k w h hl hd (by rw [hm,e];rfl)).mono ?_
  rintro e w' ⟨v',h1,h2,h3⟩
  exact⟨v',h1,by show w'.ownsRow _ _ _ _ ((livK ks 4 4).map (·.m.e.va)).length _;rw [List.length_map];exact h2,h3⟩
 ·rw [e]
  refine(zra ks a c k w h hl hd (by rw [hm,e];rfl) (ht e)).mono ?_
  rintro e w' ⟨v',h1,h2,h3⟩
  exact⟨v',h1,by show w'.ownsRow _ _ _ _ ((zau ks).map (·.m.e.va)).length _;rw [List.length_map];exact h2,h3⟩
section
variable {w : World} {own : Clr} {c q rg cc : Nat} {S : Rs} {wv : Value} {prs : List Nat}
theorem zzx(r:Nat)(x:Rr)(op k a b:Int)(h:RsIn w own c q S rg cc wv prs)(hx:S.reps[r]?=some x)(hop:x.op=true)(hk:¬(0<=k∧k<8)):
  Calls Tryz.prog 84 #[.pointer (some ⟨q,0,none⟩),I r,I op,I k,I a,I b] w fun e w'=>e= .returned (I 8)∧w'=w:=by
 have HOP:=zeb r x h hx
 rw [hop] at HOP
 clear h hx hop
 by_cases hk0:k<0
 ·clear hk
  go_enter Tryz.func84,Tryz.ntmps84
  go_wp2_with fail
  refine HOP.mono ?_
  rintro e w1 ⟨rfl,hw1⟩
  subst hw1
  clear HOP
  go_wp2
  go_ret
  exact⟨rfl,rfl⟩
 ·have hk8:(8:Int)<=k:=by omega
  clear hk
  go_enter Tryz.func84,Tryz.ntmps84
  go_wp2_with fail
  refine HOP.mono ?_
  rintro e w1 ⟨rfl,hw1⟩
  subst hw1
  clear HOP
  go_wp2
  go_ret
  exact⟨rfl,rfl⟩
theorem zv6(r k:Nat)(x:Rr)(op a b:Int)(h:RsIn w own c q S rg cc wv prs)(hx:S.reps[r]?=some x)(hop:x.op=true)(hk:k<8)(hkd:¬(1<=op∧op<=6∧(k:Int) % 4=Wv.rKind op)):
  Calls Tryz.prog 84 #[.pointer (some ⟨q,0,none⟩),I r,I op,I k,I a,I b] w fun e w'=>e= .returned (I 9)∧w'=w:=by
 have HOP:=zeb r x h hx
 rw [hop] at HOP
 have HKD:=zcr op w
 have hkn:¬(k:Int)<0:=by omega
 have hkn8:¬(8:Int)<=(k:Int):=by omega
 have hrem:((k:Int).tmod 4)=(k:Int) % 4:=Int.tmod_eq_emod_of_nonneg (by omega)
 have hne:¬(if Wv.isOp op then Wv.rKind op else -1)=(k:Int) % 4:=by
  intro e
  unfold Wv.isOp at e
  by_cases h16:1<=op∧op<=6
  ·rw [if_pos (by simp [h16.1,h16.2])] at e
   exact hkd ⟨h16.1,h16.2,e.symm⟩
  ·rw [if_neg (by simp only [Bool.and_eq_true,decide_eq_true_eq];exact h16)] at e
   omega
 generalize (if Wv.isOp op then Wv.rKind op else -1)=z at *
 generalize hkm:(k:Int) % 4=km at *
 clear h hx hop hkd
 go_enter Tryz.func84,Tryz.ntmps84
 go_wp2_with fail
 refine HOP.mono ?_
 rintro e w1 ⟨rfl,hw1⟩
 subst hw1
 clear HOP
 go_wp2_with fail
 refine HKD.mono ?_
 rintro e w2 ⟨rfl,hw2⟩
 subst hw2
 clear HKD
 go_wp2
 go_ret
 exact⟨rfl,rfl⟩
theorem zvz(r:Nat)(x:Rr)(k:Int)(h:RsIn w own c q S rg cc wv prs)(hx:S.reps[r]?=some x)(hk:¬(0<=k∧k<8)):
  Calls Tryz.prog 87 #[.pointer (some ⟨q,0,none⟩),I r,I k] w fun e w'=>e= .returned (.tuple #[.slice none 0 0,I 8])∧w'=w:=by
 have HOP:=zco r x true h hx
 clear h hx
 by_cases hk0:k<0
 ·clear hk
  go_enter Tryz.func87,Tryz.ntmps87
  go_wp2_with fail
  refine HOP.mono ?_
  rintro e w1 ⟨rfl,hw1⟩
  subst hw1
  clear HOP
  go_wp2
  go_ret2
  exact⟨rfl,rfl⟩
 ·have hk8:(8:Int)<=k:=by omega
  clear hk
  go_enter Tryz.func87,Tryz.ntmps87
  go_wp2_with fail
  refine HOP.mono ?_
  rintro e w1 ⟨rfl,hw1⟩
  subst hw1
  clear HOP
  go_wp2
  go_ret2
  exact⟨rfl,rfl⟩
end
section
variable {w : World} {own : Clr} {c q rg cc : Nat} {S : Rs} {wv : Value} {prs : List Nat}
theorem zvy(r k:Nat)(x:Rr)(K:List Mk)(h:RsIn w own c q S rg cc wv prs)(hx:S.reps[r]?=some x)(hb:BsOk x.bs S.reps.length)(hes:x.es.length<=5)(dv:Value)(ea:Option Addr)(ec:Nat)(hr:r<prs.length)(hrr:RrIn w own (c+1+r) prs[r] x dv (.slice ea x.es.length ec))
  (hsee:Sees w x S.reps.length r k ea ec K) (hk8:k<8) (hv:∀m∈K, -1048576<=m.m.e.va∧m.m.e.va<=1048576) (ht:k % 4=3->(treeK K (K.length+1) ⟨0,0,0⟩).length<=1048576):
  Calls Tryz.prog 87 #[.pointer (some ⟨q,0,none⟩),I r,I k] w fun e w'=>∃v',e= .returned (.tuple #[v',I 0])∧w'.ownsRow w.heap.size 3 1 v' (zd5 K (k % 4)).length ((zd5 K (k % 4)).map I)∧Below w.heap.size w w':=by
 have HOP:=zco r x true h hx
 have HSN:=zmw r x h hb dv ea ec hr hrr
 have HSB:Hid (∀w' L a' m,zd7 w x S.reps.length r ea ec w' L->w'.ownsRow w.heap.size 124 5 (.slice a' L.length m) L.length (flat Bm.cells L)->Below w.heap.size w w'->BatsAt w' a' L∧L.length<=1048576∧(∀b∈L,b.ms.length<=1048576)∧za3 L k=K):=fun w' L a' m h1 h2 h3=>⟨zkh hrr h3 h1 h2,(zge h1 hb hes).1,(zge h1 hb hes).2,hsee.mks L w' h1⟩
 have HKL:Hid (K.length<=1048576∧∀m∈K,m.m.e.dots.length<=1048576):=⟨hsee.len,hsee.dots⟩
 have HCM:Hid (∀w' la cK,MksAt w' la K->Calls Tryz.prog 137 #[.slice la K.length cK,I k] w' fun e w''=>∃v',e= .returned v'∧w''.ownsRow w'.heap.size 3 1 v' (zd5 K (k % 4)).length ((zd5 K (k % 4)).map I)∧Below w'.heap.size w' w''):=fun w' la cK hm=>zuw K la cK k w' hm hsee.len hsee.dots hv ht
 have hkn:¬(k:Int)<0:=by omega
 have hkn8:¬(8:Int)<=(k:Int):=by omega
 generalize zd5 K (k % 4)=zs at *
 clear h hx hb hrr hsee hv ht
 generalize S.reps.length=n at *
 go_enter Tryz.func87,Tryz.ntmps87
 go_wp2_with fail
 refine HOP.mono ?_
 rintro e w1 ⟨rfl,hw1⟩
 subst hw1
 clear HOP
 go_wp2_with fail
 refine HSN.mono ?_
 rintro e w3 ⟨L,la,lm,rfl,hs3,ho3,hb3⟩
 obtain⟨q1,q2,q3,q4⟩:=HSB.out w3 L la lm hs3 ho3 hb3
 have HB3:Hid (Below w1.heap.size w1 w3):=hb3
 have HBA:Hid (BatsAt w3 la L):=q1
 have HQ2:Hid (L.length<=1048576):=q2
 have HQ3:Hid (∀b∈L,b.ms.length<=1048576):=q3
 have HQ4:Hid (za3 L k=K):=q4
 clear hs3 ho3 hb3 q1 q2 q3 q4 HSN HSB
 go_wp2_with fail
 refine(zks L la lm k w3 HBA.out HQ2.out HQ3.out (by rw [HQ4.out];exact HKL.out.1)).mono ?_
 rw [HQ4.out]
 rintro e w4 ⟨v4,rfl,ho4,hb4⟩
 obtain⟨ka,kc,rfl⟩:=zar ho4
 have HM4:Hid (MksAt w4 ka K):=⟨zaw ho4,fun m hm=>(zna HBA.out m (by rw [HQ4.out];exact hm)).kept hb4⟩
 have HB4:Hid (Below w1.heap.size w1 w4):=HB3.out.trans (hb4.mono HB3.out.size)
 clear ho4 hb4 HBA HQ2 HQ3 HQ4 HB3
 go_wp2_with fail
 refine(HCM.out w4 ka kc HM4.out).mono ?_
 rintro e w5 ⟨v5,rfl,ho5,hb5⟩
 have HE:Hid (w5.ownsRow w1.heap.size 3 1 v5 zs.length (zs.map I)∧Below w1.heap.size w1 w5):=⟨zbr ho5 HB4.out.size,HB4.out.trans (hb5.mono HB4.out.size)⟩
 clear ho5 hb5 HCM HM4 HKL HB4
 go_wp2
 go_ret2
 exact⟨v5,rfl,HE.out⟩
end
def Rels(ents:List (Option Ent)):Prop:=∀(i:Nat) (e:Ent),ents[i]?=some (some e)->RelS e
def Nx(Z:List (Nat×Obj))(av:Value)(w0:World)(eb ef:Addr)(G:Nat)(ents:List (Option Ent))(os:List Ow)(many:Int)(w:World):Prop:=∃ents',(ents'.length=ents.length∧flat prC ents'=flat prC ents)∧Gm Z av w0 w eb ef G ents' os many∧Rels ents'
theorem Rels.set{ents:List (Option Ent)}(h:Rels ents)(i:Nat){e:Ent}(he:RelS e):Rels (ents.set i (some e)):=fun j e' hj=>by
 by_cases hq:i=j
 ·subst hq
  by_cases hl:i<ents.length
  ·rw [List.getElem?_set_self hl] at hj;cases hj;exact he
  ·rw [List.getElem?_eq_none (by rw [List.length_set];omega)] at hj;cases hj
 ·rw [List.getElem?_set_ne hq] at hj;exact h j e' hj
theorem RelS.put{e:Ent}(h:RelS e)(k:Nat)(R':Rp)(x':Rr)(ms:List Ms)(ls:List Lt)(hA:AlR e.S.reps.length k R' x'):RelS {e with S:=⟨e.S.reps.set k R',ms⟩,Q:=⟨e.Q.reps.set k x',ls⟩}:=by
 have hl:(e.S.reps.set k R').length=e.S.reps.length:=List.length_set ..
 refine⟨?_, ?_, ?_,fun r R x h1 h2=> ?_⟩
 ·show(e.S.reps.set k R').length=(e.Q.reps.set k x').length
  rw [List.length_set,List.length_set];exact h.len
 ·show 2<=(e.S.reps.set k R').length
  rw [hl];exact h.two
 ·show(e.S.reps.set k R').length<=4
  rw [hl];exact h.four
 ·show AlR (e.S.reps.set k R').length r R x
  rw [hl]
  have h1:(e.S.reps.set k R')[r]?=some R:=h1
  have h2:(e.Q.reps.set k x')[r]?=some x:=h2
  have hkl:=hA.rlt
  have hlen:=h.len
  by_cases hq:k=r
  ·subst hq
   rw [List.getElem?_set_self hkl] at h1
   rw [List.getElem?_set_self (by omega)] at h2
   cases h1;cases h2
   exact hA
  ·rw [List.getElem?_set_ne hq] at h1 h2
   exact h.rep r R x h1 h2
theorem RelS.at{e:Ent}(h:RelS e){r:Int}(hr:0<=r∧r<e.S.reps.length):∃(k:Nat) (R:Rp) (x:Rr),r=k∧e.S.reps[k]?=some R∧e.Q.reps[k]?=some x∧AlR e.S.reps.length k R x:=by
 have hl:=h.len
 obtain⟨k,rfl⟩:=Int.eq_ofNat_of_zero_le hr.1
 have hk:k<e.S.reps.length:=by omega
 have h1:e.S.reps[k]?=some e.S.reps[k]:=List.getElem?_eq_getElem hk
 have h2:e.Q.reps[k]?=some (e.Q.reps[k]'(by omega)):=List.getElem?_eq_getElem (by omega)
 exact⟨k,_,_,rfl,h1,h2,h.rep k _ _ h1 h2⟩
theorem AlR.cnt{n r:Nat}{R:Rp}{x:Rr}(h:AlR n r R x):(cntK x.bs n).getD r 0=x.bs.length:=by rw [h.bs.cnt n h.rlt,zdk n r _ h.rlt]
theorem AlR.bsok{n r:Nat}{R:Rp}{x:Rr}(h:AlR n r R x):BsOk x.bs n:=h.bs.ok h.rlt h.seq
theorem AlR.begins{n r:Nat}{R:Rp}{x:Rr}(h:AlR n r R x):(zbz R).2=(zdc x n r).2∧AlR n r (zbz R).1 (zdc x n r).1:=by
 have h1:=h.st
 have h2:=h.num
 have hs:=h.seq
 have hc:R.clock.getD R.n.toNat 0=x.bs.length:=by rw [h2,h.clk,Int.toNat_natCast,zdk n r _ h.rlt]
 have hk:=h.cnt
 unfold zbz zdc
 by_cases hop:x.op=true
 ·rw [if_pos hop] at h1
  rw [if_pos h1,if_pos hop]
  exact⟨rfl,h⟩
 ·rw [if_neg hop] at h1
  rw [if_neg (show¬R.st=1 by omega),if_neg hop,hc,hk]
  by_cases h30:x.bs.length=30
  ·rw [if_pos (by omega),if_pos (by omega)]
   exact⟨rfl,h⟩
  ·rw [if_neg (by omega),if_neg (by omega)]
   exact⟨rfl,h.begin (by simpa using hop) (by omega)⟩
section
variable {Z : List (Nat × Obj)} {av : Value} {w0 w : World} {eb ef : Addr} {G : Nat} {ents : List (Option Ent)} {os : List Ow} {many : Int}
theorem Gm.nx(h:Gm Z av w0 w eb ef G ents os many)(hr:Rels ents):Nx Z av w0 eb ef G ents os many w:=⟨ents,⟨rfl,rfl⟩,h,hr⟩
theorem Gm.ent(h:Gm Z av w0 w eb ef G ents os many){i:Nat}{e:Ent}(he:ents[i]?=some (some e)):∃owns lw oa oc,GmI Z w0 w eb ef G ents os many owns lw av oa oc∧(∃rg cc pp ch pv prs,StIn w (owns i) e.s rg cc pp ch pv prs e.S)∧Env w0 w (owns i) eb ef∧∃rg cc wv prs,RsIn w lw (10+10*i) e.q e.Q rg cc wv prs:=by
 obtain⟨owns,lw,oa,oc,h⟩:=h
 obtain⟨h1,h2,h3⟩:=h.ga.st i e he
 exact⟨owns,lw,oa,oc,h,h1,h2,h3⟩
theorem Gm.bad(h:Gm Z av w0 w eb ef G ents os many){i:Nat}{o:Option Ent}(ho:ents[i]?=some o)(r:Int)(hb:∀e,o=some e->RelS e∧¬(0<=r∧r<e.S.reps.length)):∃z,RpBad w (xpV o) r z∧zfj w (wpV o) r z∧zfl w (wpV o) r z:=by
 cases o with
 | none=>exact⟨1,zs6 w r,zpb w r,zpo w r⟩
 | some e=>
  obtain⟨hR,hn⟩:=hb e rfl
  obtain⟨owns,lw,oa,oc,_,⟨rg,cc,pp,ch,pv,prs,hS⟩,_,rg2,cc2,wv2,prs2,hQ⟩:=h.ent ho
  exact⟨3,zs5 _ _ _ _ _ _ _ _ _ r w hS hn,zpa r hQ (by rw [←hR.len];exact hn),zpn r hQ (by rw [←hR.len];exact hn)⟩
theorem zre(h:Gm Z av w0 w eb ef G ents os many)(hR:Rels ents)(i:Nat)(o:Option Ent)(ho:ents[i]?=some o)(r:Int):
  Calls Tryz.prog 16 #[xpV o,I r] w fun x w1=>∃z,x= .returned (I z)∧Kz Z w1∧Calls Tryz.prog 83 #[wpV o,I r] w1 fun y w2=>y= .returned (I z)∧Nx Z av w0 eb ef G ents os many w2:=by
 by_cases hbad:∀e,o=some e->RelS e∧¬(0<=r∧r<e.S.reps.length)
 ·obtain⟨z,b1,b2,_⟩:=h.bad ho r hbad
  refine(zov b1.up).mono ?_
  rintro x w1 ⟨rfl,rfl⟩
  exact⟨z,rfl,h.kz,(zpf b2).mono (by rintro y w2 ⟨rfl,rfl⟩;exact⟨rfl,h.nx hR⟩)⟩
 ·obtain⟨e,rfl,hr⟩:∃e,o=some e∧(0<=r∧r<e.S.reps.length):=by
   cases o with
   | none=>exact absurd (fun e he=>(by cases he)) hbad
   | some e=>
    refine⟨e,rfl, ?_⟩
    by_cases hq:0<=r∧r<e.S.reps.length
    ·exact hq
    ·exact absurd (fun e' he'=>by cases he';exact⟨hR i e ho,hq⟩) hbad
  obtain⟨k,R,x,rfl,hSr,hQr,hA⟩:=(hR i e ho).at hr
  obtain⟨owns,lw,oa,oc,hI,⟨rg,cc,pp,ch,pv,prs,hS⟩,hen,_⟩:=h.ent ho
  have hil:=(List.getElem?_eq_some_iff.1 ho).1
  obtain⟨hz,hA'⟩:=hA.begins
  refine(zow (owns i) e.s rg cc pp ch pv prs e.S k R w w0 eb ef hen hS hSr hA.up).mono ?_
  rintro y w1 ⟨rfl,hst⟩
  have hG1:=Gm.prog hI i e ho _ hst
  refine⟨_,rfl,hG1.kz, ?_⟩
  have ho1:(ents.set i (some {e with S:={e.S with reps:=e.S.reps.set k (zbz R).1}}))[i]?=some (some {e with S:={e.S with reps:=e.S.reps.set k (zbz R).1}}):=List.getElem?_set_self hil
  obtain⟨owns1,lw1,oa1,oc1,hI1,_,_,rg2,cc2,wv2,prs2,hQ⟩:=hG1.ent ho1
  have hln:e.Q.reps.length=e.S.reps.length:=(hR i e ho).len.symm
  refine(zte k x hQ (by omega) hQr (by rw [hln];exact hA.bsok)).mono ?_
  rintro y w2 ⟨rfl,hrs⟩
  refine⟨by rw [hz,hln],_, ?_,Gm.refc hI1 i _ ho1 _ hrs, ?_⟩
  ·exact⟨by rw [List.length_set,List.length_set],(zcj ho1 (by rfl) (by rfl)).trans (zcj ho (by rfl) (by rfl))⟩
  ·rw [List.set_set]
   exact hR.set i ((hR i e ho).put k _ _ _ _ (by rw [hln];exact hA'))
end
section
variable {Z : List (Nat × Obj)} {av : Value} {w0 w : World} {eb ef : Addr} {G : Nat} {ents : List (Option Ent)} {os : List Ow} {many : Int}
theorem Gm.cases(h:Gm Z av w0 w eb ef G ents os many)(hR:Rels ents){i:Nat}{o:Option Ent}(ho:ents[i]?=some o)(r:Int):(∃z,RpBad w (xpV o) r z∧zfj w (wpV o) r z∧zfl w (wpV o) r z)∨∃e,∃(k:Nat) (R:Rp) (x:Rr),o=some e∧r=k∧e.S.reps[k]?=some R∧e.Q.reps[k]?=some x∧AlR e.S.reps.length k R x:=by
 by_cases hbad:∀e,o=some e->RelS e∧¬(0<=r∧r<e.S.reps.length)
 ·exact .inl (h.bad ho r hbad)
 ·obtain⟨e,rfl,hr⟩:∃e,o=some e∧(0<=r∧r<e.S.reps.length):=by
   cases o with
   | none=>exact absurd (fun e he=>(by cases he)) hbad
   | some e=>
    refine⟨e,rfl, ?_⟩
    by_cases hq:0<=r∧r<e.S.reps.length
    ·exact hq
    ·exact absurd (fun e' he'=>by cases he';exact⟨hR i e ho,hq⟩) hbad
  obtain⟨k,R,x,hk,hSr,hQr,hA⟩:=(hR i e ho).at hr
  exact .inr ⟨e,k,R,x,rfl,hk,hSr,hQr,hA⟩
theorem AlR.aborts{n r:Nat}{R:Rp}{x:Rr}(h:AlR n r R x)(hop:x.op=true):zcf R=(endR R,0):=by
 unfold zcf
 have:=h.st
 rw [if_pos hop] at this
 rw [if_pos this]
theorem zrf(h:Gm Z av w0 w eb ef G ents os many)(hR:Rels ents)(i:Nat)(o:Option Ent)(ho:ents[i]?=some o)(r:Int):
  Calls Tryz.prog 20 #[xpV o,I r] w fun x w1=>∃z,x= .returned (I z)∧Kz Z w1∧Calls Tryz.prog 85 #[wpV o,I r] w1 fun y w2=>y= .returned (I z)∧Nx Z av w0 eb ef G ents os many w2:=by
 rcases h.cases hR ho r with⟨z,b1,_,b3⟩ | ⟨e,k,R,x,rfl,rfl,hSr,hQr,hA⟩
 ·refine(zox b1.up).mono ?_
  rintro x w1 ⟨rfl,rfl⟩
  exact⟨z,rfl,h.kz,(zip b3).mono (by rintro y w2 ⟨rfl,rfl⟩;exact⟨rfl,h.nx hR⟩)⟩
 ·obtain⟨owns,lw,oa,oc,hI,⟨rg,cc,pp,ch,pv,prs,hS⟩,hen,_⟩:=h.ent ho
  have hl:=(hR i e ho).len
  by_cases hop:x.op=true
  ·have hab:=hA.aborts hop
   have hC:=zic (owns i) e.s rg cc pp ch pv prs e.S k R w w0 eb ef hen hS hSr hA.up
   rw [hab] at hC
   refine hC.mono ?_
   rintro y w1 ⟨rfl,hst⟩
   have hG1:=Gm.prog hI i e ho _ hst
   refine⟨_,rfl,hG1.kz, ?_⟩
   have hil:=(List.getElem?_eq_some_iff.1 ho).1
   have ho1:(ents.set i (some {e with S:={e.S with reps:=e.S.reps.set k (endR R)}}))[i]?=some (some {e with S:={e.S with reps:=e.S.reps.set k (endR R)}}):=List.getElem?_set_self hil
   obtain⟨owns1,lw1,oa1,oc1,hI1,_,_,rg2,cc2,wv2,prs2,hQ⟩:=hG1.ent ho1
   refine(ztf k x hQ (by omega) hQr hop).mono ?_
   rintro y w2 ⟨rfl,hrs⟩
   refine⟨rfl,_, ?_,Gm.refc hI1 i _ ho1 _ hrs, ?_⟩
   ·exact⟨by rw [List.length_set,List.length_set],(zcj ho1 (by rfl) (by rfl)).trans (zcj ho (by rfl) (by rfl))⟩
   ·rw [List.set_set]
    exact hR.set i ((hR i e ho).put k _ _ _ _ hA.abort)
  ·have hab:zcf R=(R,7):=by
    unfold zcf
    have:=hA.st
    rw [if_neg hop] at this
    rw [if_neg (by omega)]
   have hC:=zic (owns i) e.s rg cc pp ch pv prs e.S k R w w0 eb ef hen hS hSr hA.up
   rw [hab] at hC
   refine hC.mono ?_
   rintro y w1 ⟨rfl,hst⟩
   have hse:({e.S with reps:=e.S.reps.set k R}:Sto)=e.S:=by
    obtain⟨hk1,hk2⟩:=List.getElem?_eq_some_iff.1 hSr
    rw [←hk2,List.set_getElem_self]
   have hst:StOk w0 w (owns i) e.s e.S eb ef w1:=by rw [hse] at hst;exact hst
   have hG1:=Gm.prog hI i e ho _ hst
   refine⟨_,rfl,hG1.kz, ?_⟩
   have hil:=(List.getElem?_eq_some_iff.1 ho).1
   have hents:ents.set i (some {e with S:=e.S})=ents:=by
    obtain⟨hk1,hk2⟩:=List.getElem?_eq_some_iff.1 ho
    show ents.set i (some e)=ents
    rw [←hk2,List.set_getElem_self]
   rw [hents] at hG1
   obtain⟨owns1,lw1,oa1,oc1,hI1,_,_,rg2,cc2,wv2,prs2,hQ⟩:=hG1.ent ho
   exact(zip (zfe k x hQ hQr (by simpa using hop))).mono (by rintro y w2 ⟨rfl,rfl⟩;exact⟨rfl,hG1.nx hR⟩)
end
end Go.Proofs.YtfmcngncaffloaaGreatDoor
