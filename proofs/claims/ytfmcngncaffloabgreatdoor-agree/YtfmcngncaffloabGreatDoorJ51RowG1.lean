import Derived.Test.YtfmcngncaffloabGreatDoorCards
import Derived.Test.YtfmcngncaffloabGreatDoorTie
import Derived.Test.YtfmcngncaffloabGreatDoorJ50AtE
import Derived.ProofKit
import Derived.Carry
import Derived.Deep.DeepHandedRow
namespace Go.Proofs.YtfmcngncaffloabGreatDoor.Agd
open Go.ChangeShapes Go.WideShapes Go.ChangeAt Go.RowKit
set_option maxRecDepth 100000
theorem own:ownKnob Tryz.prog.godebug=none:=by kernel_rfl
theorem zuj:laidOutB Tryz.prog=true:=by kernel_rfl
abbrev i64 (n:Int):Prop:= -9223372036854775808<=n∧n<=9223372036854775807
theorem zhz{z:Int}(h:(Lit.int .i64 z).wf=true):i64 z:=by
 simp only [Lit.wf,ak,aq] at h;exact⟨h.1,h.2⟩
def spC(o:Sp):List Value:= [I o.k,I o.r,I o.a,I o.b,I o.c]
theorem spAt_of{w:World}{a:Option Addr}{l:List Sp}(h:At w a (flat spC l)):SpAt w a l:=by
 intro k hk;have hg:=fun(j:Nat) (hj:j<5)=>zao spC 5 (fun _=>rfl) l k hk j hj
 obtain⟨p,q,e,_⟩:=h (k*5+0) (I l[k].k) (by rw [hg 0 (by omega)];rfl)
 have hc:∀(j:Nat) (u:Value),j<5->(spC l[k])[j]?=some u->w.cell? ⟨p,q+k*5+j,none⟩=some u:=fun j u hj hu=>by
  obtain⟨p2,q2,e2,hc⟩:=h (k*5+j) u (by rw [hg j hj];exact hu);rw [e] at e2;cases e2
  rw [Nat.add_assoc];exact hc
 exact⟨p,q,e,hc 0 _ (by omega) rfl,hc 1 _ (by omega) rfl,hc 2 _ (by omega) rfl,hc 3 _ (by omega) rfl,hc 4 _ (by omega) rfl⟩
theorem zm1:Tryz.prog.cellsOf 30=5:=by kernel_rfl
theorem zx1:Tryz.prog.bytesOf 30=40:=by kernel_rfl
theorem zyg{H:Type}{enc:TypeId×Value->H}{W:World}{base:Nat}{spare:Nat->Bool}{held:Bool}{fuel:Nat}{cs:List Value}{x:DataW H×List MemPlace}(h:DataW.trod enc Tryz.prog W base spare held fuel 30 cs=some x):∃a:Sp,cs=spC a∧SpOk a:=by
 obtain⟨xs,n,_,hx,hl,hlen,hf⟩:=DataW.trod_struct Tryz.underlying30 h;rw [zm1] at hl;match xs,hlen with
 | [y0,y1,y2,y3,y4],_=>
  match cs,hl with
  | [c0,c1,c2,c3,c4],_=>
   have h0:DataW.trod enc Tryz.prog W base spare held n 3 [c0]=some y0:=by have:=hf 0 _ rfl;simpa [zfy] using this
   have h1:DataW.trod enc Tryz.prog W base spare held n 3 [c1]=some y1:=by have:=hf 1 _ rfl;simpa [zfy] using this
   have h2:DataW.trod enc Tryz.prog W base spare held n 3 [c2]=some y2:=by have:=hf 2 _ rfl;simpa [zfy] using this
   have h3:DataW.trod enc Tryz.prog W base spare held n 3 [c3]=some y3:=by have:=hf 3 _ rfl;simpa [zfy] using this
   have h4:DataW.trod enc Tryz.prog W base spare held n 3 [c4]=some y4:=by have:=hf 4 _ rfl;simpa [zfy] using this
   obtain⟨z0,e0,_,w0⟩:=DataW.trod_int uInt h0;obtain⟨z1,e1,_,w1⟩:=DataW.trod_int uInt h1;obtain⟨z2,e2,_,w2⟩:=DataW.trod_int uInt h2;obtain⟨z3,e3,_,w3⟩:=DataW.trod_int uInt h3;obtain⟨z4,e4,_,w4⟩:=DataW.trod_int uInt h4;simp at e0 e1 e2 e3 e4;exact⟨⟨z0,z1,z2,z3,z4⟩,by simp [spC,e0,e1,e2,e3,e4],zhz w0,zhz w1,zhz w2,zhz w3,zhz w4⟩
theorem zvb{H:Type}{enc:TypeId×Value->H}{W:World}{base:Nat}{spare:Nat->Bool}{held:Bool}{fuel:Nat}{cs:List Value}{x:DataW H×List MemPlace}(h:DataW.trod enc Tryz.prog W base spare held fuel 22 cs=some x):
  ∃(ca:Option Addr) (cc:Nat) (zs:List Sp),cs= [.slice ca zs.length cc]∧At W ca (flat spC zs)∧(∀z∈zs,SpOk z)∧∀R,(∀n∈x.1.weights Tryz.prog 22,n<=R)->zs.length*40<=R:=by
 rcases Go.Deep.open_slice Tryz.underlying22 h with⟨rfl,_⟩ | ⟨a,len,cap,m,n,D,Pl,rfl,_,hlc,_,hm,hx,he⟩
 ·exact⟨none,0, [],rfl,fun j u hj=>(by simp [flat] at hj),fun z hz=>(by cases hz),fun R _=>(by simp)⟩
 ·have hlm:len<=m:=by rw [hm];split<;>omega
  rw [zm1] at he
  obtain⟨zs,hl,hd⟩:=pick (fun i (z:Sp)=>W.cells? base (a.add (i*5)) 5=some (spC z)∧SpOk z) len fun i hi=>by
   obtain⟨cs',h1,h2⟩:=he i (by omega);obtain⟨z,rfl,hw⟩:=zyg h2;exact⟨z,h1,hw⟩
  refine⟨some a,cap,zs,by rw [hl],at_rows spC 5 (by omega) (fun _=>rfl) (fun i hi=>(hd i hi).1),fun z hz=> ?_,fun R hR=> ?_⟩
  ·obtain⟨i,hi,rfl⟩:=aI.1 hz
   exact(hd i hi).2
  rw [hx] at hR;have:=zsl (znj Tryz.underlying22 hR).1;rw [zx1,av,List.length_range] at this;rw [hl];exact this
theorem contract(H:Type)(enc:TypeId×Value->H)(W:World)(base:Nat)(args:Array Value)(ds gs:List (DataW H))(before:List MemPlace)
  (hval:∀(j:Nat) t v,Tryz.f3.params[j]?=some t->args[j]?=some v->Value.okWide Tryz.prog W .any base t v)
  (hW:DataW.Whole enc Tryz.prog Tryz.f3.params.toList Rows.agreeSpec.vars false W args.toList ds gs before)
  (hL:laidMetH Tryz.prog Rows.agreeRow.laid W)
  (vt:List TypeId) (hwt:(DataW.weightsEach Tryz.prog (Tryz.f3.params.toList++vt) (ds++gs)).all (·<=reachBytes)=true):
  Calls Tryz.prog 3 args W fun e W'=>∃v,e= .returned v∧Rows.agreeSpec.post enc Tryz.prog Tryz.f3 false true false false W args v W':=by
 have hW':=hW;obtain⟨p,q,hA0,hV,rfl,hfz,hnd⟩:=hW;have hA:DataW.TrodAll enc Tryz.prog W 0 (fun _=>true) true Tryz.f3.params.toList args.toList ds p:=hA0;rw [Tryz.params3] at hA hval hwt;have hlt:=DataW.TrodAll.lt hA;obtain⟨v0,vs0,d0,ds0,p0,q0,hargs,rfl,rfl,h0,r0⟩:=trodAll_cons hA;obtain⟨v1,vs1,d1,ds1,p1,q1,rfl,rfl,rfl,h1,r1⟩:=trodAll_cons r0;obtain⟨rfl,rfl,rfl⟩:=trodAll_nil r1;obtain rfl:args= #[v0,v1]:=by cases args;simp_all
 obtain⟨rfl,rfl⟩:=trodVars_none hV;obtain⟨n0,rfl,_,_,w0⟩:=open_int uInt (hval 0 3 v0 rfl rfl) h0;obtain⟨a0',len0',c0',rfl⟩:=okWide_slice Tryz.underlying22 (hval 1 22 v1 rfl rfl);have h1':=h1;obtain⟨fuel0,hf0⟩:=h1';obtain⟨a0,c0,raws,hcs0,hat0,hri0,hw0⟩:=zvb hf0;simp [Value.cells] at hcs0;obtain⟨rfl,rfl,rfl⟩:=hcs0
 have hR0:∀n∈d1.weights Tryz.prog 22,n<=reachBytes:=fun n hn=>by
  have:=List.all_eq_true.1 hwt n (DataW.weights_mem_each (j:=1) rfl rfl n hn);simpa using this
 have hlen0:=hw0 reachBytes hR0;obtain⟨⟨eb,ef,hg,hp⟩,hd,hgg⟩:=zs0 hL;refine(zx5 (w:=W) (eb:=eb) (ef:=ef) n0 (zhz w0) zwq hd hgg hg hp a0' c0' raws (spAt_of hat0) hri0 (by unfold reachBytes at hlen0;omega)).mono fun e W' ⟨he,hb⟩=> ?_
 subst he;have hb0:DataW.Trod enc Tryz.prog W' 0 (fun b=>decide (b<W.heap.size)) true 3 _ d0 p0:=Below.trod zuj (by kernel_rfl) (aS (by kernel_rfl)) h0 hb (fun x hx=>hlt x (by simp [hx]));have hb1:DataW.Trod enc Tryz.prog W' 0 (fun b=>decide (b<W.heap.size)) true 22 _ d1 p1:=Below.trod zuj (by kernel_rfl) (aS (by kernel_rfl)) h1 hb (fun x hx=>hlt x (by simp [hx]));exact⟨_,rfl,_,_,_, [],p0++(p1++ []), [],hW',trodAll_cons_mk (shut_bool Tryz.underlying4 _) trodAll_mk0,trodAll_cons_mk hb0 (trodAll_cons_mk hb1 trodAll_mk0),rfl,hb.frame _,fun h=>by cases h⟩
end Go.Proofs.YtfmcngncaffloabGreatDoor.Agd
