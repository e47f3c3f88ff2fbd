import Derived.Test.YtfmcngncaffloaaGreatDoorCards
import Derived.Test.YtfmcngncaffloaaGreatDoorTie
import Derived.Test.YtfmcngncaffloaaGreatDoorG50GaQ
import Derived.ProofKit
import Derived.Carry
import Derived.Deep.DeepHandedRow
namespace Go.Proofs.YtfmcngncaffloaaGreatDoor.Ald
open Go.ChangeShapes Go.WideShapes Go.ChangeAt Go.RowKit
set_option maxRecDepth 100000
theorem own:ownKnob Tryz.prog.godebug=none:=by kernel_rfl
theorem zyw:laidOutB Tryz.prog=true:=by kernel_rfl
abbrev i64 (n:Int):Prop:= -9223372036854775808<=n∧n<=9223372036854775807
theorem zzr{z:Int}(h:(Lit.int .i64 z).wf=true):i64 z:=by
 simp only [Lit.wf,Bool.and_eq_true,decide_eq_true_eq] at h
 exact⟨h.1,h.2⟩
theorem zr8:Tryz.prog.cellsOf 70=7:=by kernel_rfl
def WopOk(p:Wop):Prop:= -9223372036854775808<=p.s∧p.s<=9223372036854775807
theorem zzs{H:Type}{enc:TypeId×Value->H}{W:World}{base:Nat}{spare:Nat->Bool}{held:Bool}{fuel:Nat}{cs:List Value}{x:DataW H×List MemPlace}(h:DataW.trod enc Tryz.prog W base spare held fuel 70 cs=some x):∃p:Wop,cs=p.list∧WopOk p:=by
 obtain⟨xs,n,_,hx,hl,hlen,hf⟩:=DataW.trod_struct Tryz.underlying70 h
 rw [zr8] at hl
 match xs,hlen with
 | [y0,y1,y2,y3,y4,y5,y6],_=>
  match cs,hl with
  | [c0,c1,c2,c3,c4,c5,c6],_=>
   have h0:DataW.trod enc Tryz.prog W base spare held n 3 [c0]=some y0:=by have:=hf 0 _ rfl;simpa [zdr] using this
   have h1:DataW.trod enc Tryz.prog W base spare held n 3 [c1]=some y1:=by have:=hf 1 _ rfl;simpa [zdr] using this
   have h2:DataW.trod enc Tryz.prog W base spare held n 3 [c2]=some y2:=by have:=hf 2 _ rfl;simpa [zdr] using this
   have h3:DataW.trod enc Tryz.prog W base spare held n 3 [c3]=some y3:=by have:=hf 3 _ rfl;simpa [zdr] using this
   have h4:DataW.trod enc Tryz.prog W base spare held n 3 [c4]=some y4:=by have:=hf 4 _ rfl;simpa [zdr] using this
   have h5:DataW.trod enc Tryz.prog W base spare held n 3 [c5]=some y5:=by have:=hf 5 _ rfl;simpa [zdr] using this
   have h6:DataW.trod enc Tryz.prog W base spare held n 3 [c6]=some y6:=by have:=hf 6 _ rfl;simpa [zdr] using this
   obtain⟨z0,e0,_,_⟩:=DataW.trod_int uInt h0
   obtain⟨z1,e1,_,w1⟩:=DataW.trod_int uInt h1
   obtain⟨z2,e2,_,_⟩:=DataW.trod_int uInt h2
   obtain⟨z3,e3,_,_⟩:=DataW.trod_int uInt h3
   obtain⟨z4,e4,_,_⟩:=DataW.trod_int uInt h4
   obtain⟨z5,e5,_,_⟩:=DataW.trod_int uInt h5
   obtain⟨z6,e6,_,_⟩:=DataW.trod_int uInt h6
   simp at e0 e1 e2 e3 e4 e5 e6
   exact⟨⟨z0,z1,z2,z3,z4,z5,z6⟩,by simp [Wop.list,e0,e1,e2,e3,e4,e5,e6],zzr w1⟩
theorem zx9{H:Type}(d:DataW H):1<=Rows.uptoBulk d:=by
 cases d with
 | lit l=>cases l<;>simp [Rows.uptoBulk]
 | _=>simp [Rows.uptoBulk]
theorem zol{H:Type}:∀l:List (DataW H),l.length<=Rows.uptoBulkAll l
 | []=>by simp
 | d::r=>by
  have h1:=zx9 d
  have h2:=zol r
  simp only [Rows.uptoBulkAll,List.length_cons]
  omega
theorem zyk{H:Type}{enc:TypeId×Value->H}{W:World}{base:Nat}{spare:Nat->Bool}{held:Bool}{fuel:Nat}{cs:List Value}{x:DataW H×List MemPlace}(h:DataW.trod enc Tryz.prog W base spare held fuel 22 cs=some x):
  ∃(ca:Option Addr) (cc:Nat) (zs:List Wop),cs= [.slice ca zs.length cc]∧At W ca (flat Wop.list zs)∧(∀z∈zs,WopOk z)∧zs.length<=Rows.uptoBulk x.1:=by
 rcases Go.Deep.open_slice Tryz.underlying22 h with⟨rfl,_⟩ | ⟨a,len,cap,m,n,D,Pl,rfl,_,hlc,_,hm,hx,he⟩
 ·exact⟨none,0, [],rfl,fun j u hj=>(by simp [flat] at hj),fun z hz=>(by cases hz),by simp⟩
 ·have hlm:len<=m:=by rw [hm];split<;>omega
  rw [zr8] at he
  obtain⟨zs,hl,hd⟩:=pick (fun i (z:Wop)=>W.cells? base (a.add (i*7)) 7=some z.list∧WopOk z) len fun i hi=>by
   obtain⟨cs',h1,h2⟩:=he i (by omega)
   obtain⟨z,rfl,hw⟩:=zzs h2
   exact⟨z,h1,hw⟩
  refine⟨some a,cap,zs,by rw [hl],zzj Wop.list 7 (by omega) (fun _=>rfl) (fun i hi=>(hd i hi).1),fun z hz=> ?_, ?_⟩
  ·obtain⟨i,hi,rfl⟩:=List.mem_iff_getElem.1 hz
   exact(hd i hi).2
  rw [hx,hl]
  have h1:=zol (List.map D (List.range len))
  rw [List.length_map,List.length_range] at h1
  show len<=Rows.uptoBulk (DataW.slice (List.map D (List.range len)) _)
  simp only [Rows.uptoBulk]
  omega
theorem zx3(H:Type)(enc:TypeId×Value->H)(W:World)(base:Nat)(args:Array Value)(ds gs:List (DataW H))(before:List MemPlace)
  (hval:∀(j:Nat) t v,Tryz.f3.params[j]?=some t->args[j]?=some v->Value.okWide Tryz.prog W .any base t v)
  (hW:DataW.Whole enc Tryz.prog Tryz.f3.params.toList Rows.aloneSpec.vars false W args.toList ds gs before)
  (hL:laidMetH Tryz.prog Rows.aloneUptoRow.laid W) (hc:Rows.uptoSmall H (ds++gs)=true):
  Calls Tryz.prog 3 args W fun e W'=>∃v,e= .returned v∧Rows.aloneSpec.post enc Tryz.prog Tryz.f3 false true false false W args v W':=by
 have hW':=hW
 obtain⟨p,q,hA0,hV,rfl,hfz,hnd⟩:=hW
 have hA:DataW.TrodAll enc Tryz.prog W 0 (fun _=>true) true Tryz.f3.params.toList args.toList ds p:=hA0
 rw [Tryz.params3] at hA hval
 have hlt:=DataW.TrodAll.lt hA
 obtain⟨v0,vs0,d0,ds0,p0,q0,hargs,rfl,rfl,h0,r0⟩:=trodAll_cons hA
 obtain⟨rfl,rfl,rfl⟩:=trodAll_nil r0
 obtain rfl:args= #[v0]:=by cases args;simp_all
 obtain⟨rfl,rfl⟩:=trodVars_none hV
 obtain⟨a0',len0',c0',rfl⟩:=okWide_slice Tryz.underlying22 (hval 0 22 v0 rfl rfl)
 have h0':=h0
 obtain⟨fuel0,hf0⟩:=h0'
 obtain⟨a0,c0,zs,hcs0,hat0,hri0,hw0⟩:=zyk hf0
 simp [Value.cells] at hcs0
 obtain⟨rfl,rfl,rfl⟩:=hcs0
 have hc:Rows.uptoBulkAll ([d0]++ [])<=1048576:=of_decide_eq_true hc
 have hbk:zs.length<=1048576:=by
  have:Rows.uptoBulk d0<=Rows.uptoBulkAll ([d0]++ []):=by simp [Rows.uptoBulkAll]
  have h3:zs.length<=Rows.uptoBulk d0:=hw0
  omega
 obtain⟨eb,ef,hg,hp⟩:=znr hL
 refine(zu6 zs a0' c0' W eb ef hg hp zt2 hat0 hri0 hbk).mono fun e W' ⟨he,hb⟩=> ?_
 subst he
 have hb0:DataW.Trod enc Tryz.prog W' 0 (fun b=>decide (b<W.heap.size)) true 22 _ d0 p0:=Below.trod zyw (by kernel_rfl) (of_decide_eq_true (by kernel_rfl)) h0 hb (fun x hx=>hlt x (by simp [hx]))
 exact⟨_,rfl,_,_,_, [],p0++ [], [],hW',trodAll_cons_mk (shut_bool Tryz.underlying4 _) trodAll_mk0,trodAll_cons_mk hb0 trodAll_mk0,rfl,hb.frame _,fun h=>by cases h⟩
end Go.Proofs.YtfmcngncaffloaaGreatDoor.Ald
