import Derived.Test.YtfmcngncaffloaaGreatDoorG25KpB
import Derived.Laws.Rows
set_option maxHeartbeats 3200000
namespace Go.Proofs.YtfmcngncaffloaaGreatDoor
open Go.RowKit
set_option maxRecDepth 100000
theorem Rok.same{R R':Rp}(h:Rok R)(e1:R'.obs=R.obs)(e2:R'.clock=R.clock)(e3:R'.log=R.log)(e4:R'.held=R.held)(e5:R'.time=R.time):Rok R':=
 ⟨by rw [e1];exact h.obs8,by rw [e1,e2];exact h.bd,by rw [e2,e3];exact h.logl,by rw [e2];exact h.len,by rw [e2];exact h.clk,by rw [e4];exact h.held,by rw [e4];exact h.most,by rw [e5];exact h.time0,by rw [e5];exact h.time1⟩
theorem zxt{R:Rp}:dueB R.clock (pendB R)=true:=by
 rw [zy6 R.clock (pendB R) rfl (fun j _=>Int.le_refl _)]
 simp [pendB]
theorem Rok.commit{R:Rp}(h:Rok R)(hb:Wv.isB (pendB R)=true):Rok (zc5 R):=by
 have hE:Rok (endR R):=h.same rfl rfl rfl rfl rfl
 have hl:=zkc zbd (likeB (pendB R)) R.held
 have hm:=fun m=>zgw zbd (likeB (pendB R)) R.held m
 have hD:Rok (zch (endR R) (pendB R) (Wv.frameB (pendB R)) (takeP zbd (likeB (pendB R)) R.held).2):=hE.deliver hb (zey hb) zxt (fun x hx=>h.held x (hm x (Or.inr hx))) (by have:=h.most;omega)
 exact hD.same rfl rfl rfl rfl rfl
theorem Rok.new(i n:Nat)(hn:n<=4):Rok (newR i n):=by
 refine⟨rfl,fun o ho=> ?_,by simp [newR],by simp [newR];exact hn,fun z hz=> ?_,fun b hb=>(by simp [newR] at hb),by simp [newR],by simp [newR],by simp [newR]⟩
 ·simp only [newR,List.mem_cons,List.not_mem_nil,or_false] at ho
  rcases ho with rfl | rfl | rfl | rfl | rfl | rfl | rfl | rfl
  ·exact⟨by omega,by omega⟩
  ·exact Nat.zero_le _
  ·exact Nat.zero_le _
  ·exact Nat.zero_le _
  ·exact⟨by omega,by omega⟩
  ·exact Nat.zero_le _
  ·exact Nat.zero_le _
  ·exact Nat.zero_le _
 ·simp only [newR] at hz
  have:=List.eq_of_mem_replicate hz
  omega
theorem zhy{P:Program}(w:World)(base:Nat)(t ty e:TypeId)(i:TypeInfo)(z:Value)(size bytes:Nat)(ht:P.underlying t=some (.slice e))(hi:P.info? e=some i)(hz:i.zero=some z)
  (hsize:i.size=size) (hby:i.bytes=bytes) (hzs:z.cells.size=size) (hsz:0<size)
  (v:Value) (n:Nat) (xs:List Value) (hown:w.ownsRow base e size v n xs)
  (ad:Option Addr) (m c:Nat) (news:List Value) (hl:news.length=m*size) (hnil:ad=none->m=0) (hnews:∀a,ad=some a->∀j u,news[j]?=some u->w.cell? (a.add j)=some u) (h1:∀u∈news,u.oneCell'=true)
  (h63:n+m<=maxLen) (hbytes:(n+m)*bytes<=140737488355328) (hbase:base<=w.heap.size):
  ∃v' w',(Builtin.append_ #[t,t] ty #[v, .slice ad m c]).run P w= .ok v' w'∧w'.ownsRow base e size v' (n+m) (xs++news)∧w.grownBy w' v.ownBlock:=by
 cases ad with
 | some a=>
  obtain⟨v',w',h,h2,h3,_,_⟩:=run_append_own_at w base t ty e i z size bytes ht hi hz hsize hby hzs hsz v n xs hown a m c news hl (hnews a rfl) h1 h63 hbytes hbase
  exact⟨v',w',h,h2,h3⟩
 | none=>
  obtain rfl:m=0:=hnil rfl
  obtain rfl:news= []:=List.eq_nil_of_length_eq_zero (by simpa using hl)
  refine⟨v,w, ?_,by simpa using hown,⟨rfl,rfl,rfl,Nat.le_refl _,fun _ _ _=>rfl⟩⟩
  rcases hown.2 with⟨rfl,rfl⟩ | ⟨g,cap,cur,rfl,hbg,hg,hnc,hcm,hcs,htake⟩
  ·simp [Builtin.append_,run_underlying ht,sizeOf,typeInfo,hi,Builtin.lenOf,Builtin.firstCells]
  ·simp [Builtin.append_,run_underlying ht,sizeOf,typeInfo,hi,Builtin.lenOf,Builtin.firstCells,hnc,storeCells]
theorem za5{P:Program}{w:World}{ops:Array Oper}{rest:List Oper}{o:Oper}{a:Act}{Q:Exit->Act->World->Prop}(hgd:o.guard=none)(s x:Operand)(t:TypeId)
  (ho:o.op= .call {callee:= .builtin .append,args:= #[s,x],argTypes:= #[t,t]})
  (base:Nat) (e:TypeId) (i:TypeInfo) (z:Value) (size bytes:Nat) (ht:P.underlying t=some (.slice e)) (hi:P.info? e=some i) (hz:i.zero=some z)
  (hsize:i.size=size) (hby:i.bytes=bytes) (hzs:z.cells.size=size) (hsz:0<size)
  (v:Value) (n:Nat) (xs:List Value) (hs:a.eval s=v) (hown:w.ownsRow base e size v n xs)
  (ad:Option Addr) (m c:Nat) (news:List Value) (hx:a.eval x= .slice ad m c) (hl:news.length=m*size) (hnil:ad=none->m=0) (hnews:∀a,ad=some a->∀j u,news[j]?=some u->w.cell? (a.add j)=some u) (h1:∀u∈news,u.oneCell'=true)
  (h63:n+m<=maxLen) (hbytes:(n+m)*bytes<=140737488355328) (hbase:base<=w.heap.size)
  (h:∀v' w',w'.ownsRow base e size v' (n+m) (xs++news)->w.grownBy w' v.ownBlock->wpList P ops Q rest (a.put o.dst v') w'):
  wpList P ops Q (o::rest) a w:=by
 refine wpList_plain hgd fun K hK=> ?_
 obtain⟨v',w',hr,h2,h3⟩:=zhy (P:=P) w base t o.type e i z size bytes ht hi hz hsize hby hzs hsz v n xs hown ad m c news hl hnil hnews h1 h63 hbytes hbase
 unfold Oper.wp execOp
 simp only [ho,resolve,invoke,builtin,Sem.run_bind,Sem.run_pure,Result.andThen_ok,List.map_toArray,List.map_cons,List.map_nil,hs,hx,hr]
 exact hK _ _ (h v' w' h2 h3)
theorem At.addw{w:World}{ra:Option Addr}{cs:List Value}(h:At w ra cs):∀a,ra=some a->∀j u,cs[j]?=some u->w.cell? (a.add j)=some u:=by
 rintro a rfl j u hj
 obtain⟨b,o,e,hc⟩:=h j u hj
 cases e
 rw [Addr.add_lit]
 exact hc
theorem zfs(l:List Int):∀u∈l.map I,u.oneCell'=true:=by
 intro u hu
 obtain⟨_,_,rfl⟩:=List.mem_map.1 hu
 rfl
theorem zaw{w':World}{base:Nat}{e:TypeId}{z n m c:Nat}{a:Option Addr}{xs:List Value}(h:w'.ownsRow base e z (.slice a m c) n xs):At w' a xs:=(zyt (own:=fun _=>0) h).at
structure Mk where
 m:Em
 d:Wv.Dt
 t:Int
def Mk.cells(k:Mk):List Value:= [I k.m.e.op,I k.m.e.ob,I k.m.e.va,I k.m.e.ref.o,I k.m.e.ref.s,I k.m.e.ref.i, .slice k.m.da k.m.e.dots.length k.m.dc,I k.d.o,I k.d.s,I k.d.i,I k.t]
abbrev mkV (k:Mk):Value:= .agg #[I k.m.e.op,I k.m.e.ob,I k.m.e.va,I k.m.e.ref.o,I k.m.e.ref.s,I k.m.e.ref.i, .slice k.m.da k.m.e.dots.length k.m.dc,I k.d.o,I k.d.s,I k.d.i,I k.t]
theorem zpp(k:Mk):k.cells.length=11:=rfl
structure MksAt(w:World)(a:Option Addr)(ks:List Mk):Prop where
 row:At w a (flat Mk.cells ks)
 dots:∀k∈ks,At w k.m.da (flat zab k.m.e.dots)
theorem MksAt.kept{w w':World}{a:Option Addr}{ks:List Mk}(h:MksAt w a ks)(hb:Below w.heap.size w w'):MksAt w' a ks:=⟨h.row.kept hb,fun k hk=>(h.dots k hk).kept hb⟩
theorem zbh{w:World}{a:Option Addr}{ks:List Mk}(h:At w a (flat Mk.cells ks))(hl:0<ks.length):∃p q,a=some ⟨p,q,none⟩∧∀i (hi:i<ks.length) j u,ks[i].cells[j]?=some u->w.cell? ⟨p,q+i*11+j,none⟩=some u:=by
 have hg:=fun(k:Nat) (hk:k<ks.length) (j:Nat) (hj:j<11)=>zak Mk.cells 11 zpp ks k hk j hj
 obtain⟨p,q,e,_⟩:=h (0*11+0) (I ks[0].m.e.op) (by rw [hg 0 hl 0 (by omega)];rfl)
 refine⟨p,q,e,fun i hi j u hu=> ?_⟩
 have hj:j<11:=by have:=(List.getElem?_eq_some_iff.1 hu).1;rw [zpp] at this;exact this
 obtain⟨p2,q2,e2,hc⟩:=h (i*11+j) u (by rw [hg i hi j hj];exact hu)
 rw [e] at e2
 cases e2
 rw [Nat.add_assoc]
 exact hc
def zam(a b:Mk):Bool:=if a.t=b.t then(if a.d.o=b.d.o then decide (b.d.i<a.d.i) else decide (b.d.o<a.d.o)) else decide (b.t<a.t)
theorem zyv(a b:Mk)(w:World):
  Calls Tryz.prog 211 #[mkV a,mkV b] w fun e w'=>e= .returned (.bool (zam a b))∧Below w.heap.size w w':=by
 have HB:Hid (Below w.heap.size w ((w.alloc (.cells a.cells.toArray 259)).alloc (.cells b.cells.toArray 259))):=((Below.refl _ _).alloc (Nat.le_refl _) _).alloc (by simp) _
 go_enter Tryz.func211,Tryz.ntmps211
 go_wp2_with fail
 all_goals go_ret
 all_goals refine⟨zad ?_,HB.out⟩
 all_goals unfold zam
 all_goals (simp_all;try omega)
def zb6(op:Int)(d:Wv.Dt)(k:Mk):Bool:=decide (k.m.e.op=op) && ((decide (op=6) && eqD k.m.e.ref d) || k.m.e.dots.any (fun x=>eqD x d))
def goneK(ks:List Mk)(op:Int)(d:Wv.Dt):Bool:=ks.any (zb6 op d)
theorem zc7{α:Type}(f:α->Bool)(l:List α)(i:Nat)(hi:i<l.length):(l.take (i+1)).any f=((l.take i).any f || f l[i]):=by
 rw [List.take_succ_eq_append_getElem hi,List.any_append]
 simp
theorem zk8{w:World}{a:Option Addr}{ds:List Wv.Dt}(h:At w a (flat zab ds))(hl:0<ds.length):∃p q,a=some ⟨p,q,none⟩∧∀i (hi:i<ds.length),w.cell? ⟨p,q+i*3,none⟩=some (I ds[i].o)∧w.cell? ⟨p,q+i*3+1,none⟩=some (I ds[i].s)∧w.cell? ⟨p,q+i*3+2,none⟩=some (I ds[i].i):=by
 have hg:=fun(k:Nat) (hk:k<ds.length) (j:Nat) (hj:j<3)=>zak zab 3 (fun _=>rfl) ds k hk j hj
 obtain⟨p,q,e,_⟩:=h (0*3+0) (I ds[0].o) (by rw [hg 0 hl 0 (by omega)];rfl)
 refine⟨p,q,e,fun i hi=> ?_⟩
 have hc:∀(j:Nat) (u:Value),j<3->(zab ds[i])[j]?=some u->w.cell? ⟨p,q+i*3+j,none⟩=some u:=fun j u hj hu=>by
  obtain⟨p2,q2,e2,hc⟩:=h (i*3+j) u (by rw [hg i hi j hj];exact hu)
  rw [e] at e2
  cases e2
  rw [Nat.add_assoc]
  exact hc
 exact⟨hc 0 _ (by omega) rfl,hc 1 _ (by omega) rfl,hc 2 _ (by omega) rfl⟩
theorem zj8(ks:List Mk)(a:Option Addr)(c:Nat)(op:Int)(d:Wv.Dt)(w:World)(h:MksAt w a ks)(hl:ks.length<=1048576)(hd:∀k∈ks,k.m.e.dots.length<=1048576):
    Calls Tryz.prog 195 #[.slice a ks.length c,I op,dotV d] w fun e w'=>e= .returned (.bool (goneK ks op d))∧Below w.heap.size w w':=by
  obtain⟨wA,hwA⟩:∃wA,wA=w.alloc (.cells #[I d.o,I d.s,I d.i] 146):=⟨_,rfl⟩
  have HB0:Hid (Below w.heap.size w wA):=by rw [hwA];exact(Below.refl _ _).alloc (Nat.le_refl _) _
  have HX:Hid (Blk wA w.heap.size #[I d.o,I d.s,I d.i] 146):=by rw [hwA];exact heap_alloc_new w _
  have HM:Hid (MksAt w a ks):=h
  have HD:Hid (∀k∈ks,k.m.e.dots.length<=1048576):=hd
  obtain⟨bq,HQ⟩:∃b,Hid (goneK ks op d=b):=⟨_,rfl⟩
  rw [HQ.out]
  clear h hd
  go_enter Tryz.func195,Tryz.ntmps195
  go_wp2_with fail
  rw [←hwA]
  clear hwA
  go_loopw [7] (fun x wr=>∃i:Nat,i<=ks.length∧x=I i∧Hid ((ks.take i).any (zb6 op d)=false)∧Hid (Below wA.heap.size wA wr)) (fun x _=>ks.length - (intOf x).toNat)
  case atStart=>exact⟨0,by omega,rfl,rfl,Below.refl _ _⟩
  case round=>
    obtain⟨i,hi,rfl,HN,HB⟩:=hrel
    by_cases hlt:i<ks.length
    · have hii : (i:Int)<ks.length:=by omega
      obtain⟨p,q,rfl,hc⟩:=zbh HM.out.row (by omega)
      have hBw:Below w.heap.size w wr:=HB0.out.trans (HB.out.mono HB0.out.size)
      have e0:wr.cell? ⟨p,q+i*11,none⟩=some (I ks[i].m.e.op):=zaa hBw (hc i hlt 0 _ rfl)
      have e3:wr.cell? ⟨p,q+i*11+3,none⟩=some (I ks[i].m.e.ref.o):=zaa hBw (hc i hlt 3 _ rfl)
      have e4:wr.cell? ⟨p,q+i*11+4,none⟩=some (I ks[i].m.e.ref.s):=zaa hBw (hc i hlt 4 _ rfl)
      have e5:wr.cell? ⟨p,q+i*11+5,none⟩=some (I ks[i].m.e.ref.i):=zaa hBw (hc i hlt 5 _ rfl)
      have e6:wr.cell? ⟨p,q+i*11+6,none⟩=some (.slice ks[i].m.da ks[i].m.e.dots.length ks[i].m.dc):=zaa hBw (hc i hlt 6 _ rfl)
      have HAD:Hid (At wr ks[i].m.da (flat zab ks[i].m.e.dots)):=(HM.out.dots _ (List.getElem_mem hlt)).kept hBw
      have HDL:Hid (ks[i].m.e.dots.length<=1048576):=HD.out _ (List.getElem_mem hlt)
      have HSU:Hid ((ks.take (i+1)).any (zb6 op d)=zb6 op d ks[i]):=by show _=_;rw [zc7 _ _ _ hlt,HN.out,Bool.false_or]
      have HYES:Hid (zb6 op d ks[i]=true->goneK ks op d=true):=fun hq=>List.any_eq_true.2 ⟨_,List.getElem_mem hlt,hq⟩
      have x0:wr.cell? ⟨w.heap.size,0,none⟩=some (I d.o):=(HX.out.kept HB.out HX.out.lt).cell 0
      have x1:wr.cell? ⟨w.heap.size,1,none⟩=some (I d.s):=(HX.out.kept HB.out HX.out.lt).cell 1
      have x2:wr.cell? ⟨w.heap.size,2,none⟩=some (I d.i):=(HX.out.kept HB.out HX.out.lt).cell 2
      have HCL:Hid (∀w',Below wA.heap.size wA w'->w'.cell? ⟨p,q+i*11+6,none⟩=some (.slice ks[i].m.da ks[i].m.e.dots.length ks[i].m.dc)∧At w' ks[i].m.da (flat zab ks[i].m.e.dots)∧Blk w' w.heap.size #[I d.o,I d.s,I d.i] 146):=fun w' hb=>by
        have hbw:Below w.heap.size w w':=HB0.out.trans (hb.mono HB0.out.size)
        exact⟨zaa hbw (hc i hlt 6 _ rfl),(HM.out.dots _ (List.getElem_mem hlt)).kept hbw,HX.out.kept hb HX.out.lt⟩
      clear hc hBw
      generalize ks[i]=k at *
      by_cases hop:k.m.e.op=op
      · have hopb:(k.m.e.op !=op)=false:=by simp [hop]
        have hq1:∀w',(binOp .eql 146 (.agg #[I k.m.e.ref.o,I k.m.e.ref.s,I k.m.e.ref.i]) (.agg #[I d.o,I d.s,I d.i])).run Tryz.prog w'= .ok (.bool (eqD k.m.e.ref d)) w':=fun w'=>za9 _ _ _ _ _ _ w'
        by_cases h6:op=6
        · have h6b:(op==6)=true:=by simp [h6]
          cases hrf:eqD k.m.e.ref d with
          | true=>
            rw [hrf] at hq1
            have HYE:Hid (goneK ks op d=true):=HYES.out (by unfold zb6;rw [decide_eq_true hop,decide_eq_true h6,hrf];rfl)
            have HBE:Hid (Below w.heap.size w wr):=HB0.out.trans (HB.out.mono HB0.out.size)
            go_wp2_with fail
            go_quiet (fail)
            go_wp2
            go_ret
            exact⟨by rw [←HQ.out,HYE.out];rfl,zal HBE.out nq⟩
          | false=>
            rw [hrf] at hq1
            go_wp2_with fail
            go_quiet (fail)
            have HG:Hid (zb6 op d k=k.m.e.dots.any (fun x=>eqD x d)):=by show _=_;unfold zb6;rw [decide_eq_true hop,Bool.true_and];rw [hrf,Bool.and_false,Bool.false_or]
            obtain⟨wq,hwq⟩:∃wq,wq=wr.drewN nq:=⟨_,rfl⟩
            have HBq:Hid (Below wA.heap.size wA wq):=by rw [hwq];exact zal HB.out nq
            obtain⟨e6q,_,_⟩:=HCL.out wq HBq.out
            change Exit.then _ _ Exit.normal _ (wr.drewN nq)
            rw [←hwq]
            clear hwq e0 e3 e4 e5 e6 x0 x1 x2 hq1 HAD
            go_wp2_with fail
            go_loopw [8] (fun x wX=>∃j:Nat,j<=k.m.e.dots.length∧x=I j∧Hid ((k.m.e.dots.take j).any (fun x=>eqD x d)=false)∧Hid (Below wA.heap.size wA wX)) (fun x _=>k.m.e.dots.length - (intOf x).toNat)
            case atStart=>exact⟨0,by omega,rfl,rfl,HBq⟩
            case round=>
              obtain⟨j,hj,rfl,HJ,HBj⟩:=hrel
              obtain⟨e6r,HAr,HXr⟩:=HCL.out _ HBj.out
              have hdl:k.m.e.dots.length<=1048576:=HDL.out
              by_cases hjt:j<k.m.e.dots.length
              · have hjj:(j:Int)<k.m.e.dots.length:=by omega
                have HJS:Hid ((k.m.e.dots.take (j+1)).any (fun x=>eqD x d)=eqD k.m.e.dots[j] d):=by show _=_;rw [zc7 _ _ _ hjt,HJ.out,Bool.false_or]
                have HJY:Hid (eqD k.m.e.dots[j] d=true->k.m.e.dots.any (fun x=>eqD x d)=true):=fun hq=>List.any_eq_true.2 ⟨_,List.getElem_mem hjt,hq⟩
                obtain⟨p2,q2,hda,hdc⟩:=zk8 HAr (by omega)
                rw [hda] at e6r
                obtain⟨f0,f1,f2⟩:=hdc j hjt
                have y0:wr.cell? ⟨w.heap.size,0,none⟩=some (I d.o):=HXr.cell 0
                have y1:wr.cell? ⟨w.heap.size,1,none⟩=some (I d.s):=HXr.cell 1
                have y2:wr.cell? ⟨w.heap.size,2,none⟩=some (I d.i):=HXr.cell 2
                clear hdc hda HAr HXr
                generalize k.m.e.dots[j]=dj at *
                have hq2:∀w',(binOp .eql 146 (.agg #[I dj.o,I dj.s,I dj.i]) (.agg #[I d.o,I d.s,I d.i])).run Tryz.prog w'= .ok (.bool (eqD dj d)) w':=fun w'=>za9 _ _ _ _ _ _ w'
                cases heq:eqD dj d with
                | true=>
                  rw [heq] at hq2
                  have HYE:Hid (goneK ks op d=true):=HYES.out (by rw [HG.out];exact HJY.out heq)
                  have HBE:Hid (Below w.heap.size w wr):=HB0.out.trans (HBj.out.mono HB0.out.size)
                  go_wp2_with fail
                  go_quiet (fail)
                  go_wp2
                  go_ret
                  exact⟨by rw [←HQ.out,HYE.out];rfl,zal HBE.out nq⟩
                | false=>
                  rw [heq] at hq2 HJS
                  go_wp2_with fail
                  go_quiet (fail)
                  go_wp2_with fail
                  go_roundw
                  case rel=>exact⟨j+1,by omega,by go_num,HJS,zal HBj.out nq⟩
                  case measure=>simp [intOf];omega
              · have hjj:¬(j:Int)<k.m.e.dots.length:=by omega
                have HN2:Hid ((ks.take (i+1)).any (zb6 op d)=false):=by show _=_;rw [HSU.out,HG.out];have:=HJ.out;rw [List.take_of_length_le (by omega)] at this;exact this
                clear HSU HN HYES HJ HG HAr HXr
                go_wp2_with fail
                go_roundw
                case rel=>exact⟨i+1,by omega,by go_num,HN2,HBj⟩
                case measure=>simp [intOf];omega
        · have h6b:(op==6)=false:=by simp [h6]
          go_wp2_with fail
          go_quiet (fail)
          have HG:Hid (zb6 op d k=k.m.e.dots.any (fun x=>eqD x d)):=by show _=_;unfold zb6;rw [decide_eq_true hop,Bool.true_and];rw [decide_eq_false h6,Bool.false_and,Bool.false_or]
          obtain⟨wq,hwq⟩:∃wq,wq=wr.drewN nq:=⟨_,rfl⟩
          have HBq:Hid (Below wA.heap.size wA wq):=by rw [hwq];exact zal HB.out nq
          obtain⟨e6q,_,_⟩:=HCL.out wq HBq.out
          change Exit.then _ _ Exit.normal _ (wr.drewN nq)
          rw [←hwq]
          clear hwq e0 e3 e4 e5 e6 x0 x1 x2 hq1 HAD
          go_wp2_with fail
          go_loopw [8] (fun x wX=>∃j:Nat,j<=k.m.e.dots.length∧x=I j∧Hid ((k.m.e.dots.take j).any (fun x=>eqD x d)=false)∧Hid (Below wA.heap.size wA wX)) (fun x _=>k.m.e.dots.length - (intOf x).toNat)
          case atStart=>exact⟨0,by omega,rfl,rfl,HBq⟩
          case round=>
            obtain⟨j,hj,rfl,HJ,HBj⟩:=hrel
            obtain⟨e6r,HAr,HXr⟩:=HCL.out _ HBj.out
            have hdl:k.m.e.dots.length<=1048576:=HDL.out
            by_cases hjt:j<k.m.e.dots.length
            · have hjj:(j:Int)<k.m.e.dots.length:=by omega
              have HJS:Hid ((k.m.e.dots.take (j+1)).any (fun x=>eqD x d)=eqD k.m.e.dots[j] d):=by show _=_;rw [zc7 _ _ _ hjt,HJ.out,Bool.false_or]
              have HJY:Hid (eqD k.m.e.dots[j] d=true->k.m.e.dots.any (fun x=>eqD x d)=true):=fun hq=>List.any_eq_true.2 ⟨_,List.getElem_mem hjt,hq⟩
              obtain⟨p2,q2,hda,hdc⟩:=zk8 HAr (by omega)
              rw [hda] at e6r
              obtain⟨f0,f1,f2⟩:=hdc j hjt
              have y0:wr.cell? ⟨w.heap.size,0,none⟩=some (I d.o):=HXr.cell 0
              have y1:wr.cell? ⟨w.heap.size,1,none⟩=some (I d.s):=HXr.cell 1
              have y2:wr.cell? ⟨w.heap.size,2,none⟩=some (I d.i):=HXr.cell 2
              clear hdc hda HAr HXr
              generalize k.m.e.dots[j]=dj at *
              have hq2:∀w',(binOp .eql 146 (.agg #[I dj.o,I dj.s,I dj.i]) (.agg #[I d.o,I d.s,I d.i])).run Tryz.prog w'= .ok (.bool (eqD dj d)) w':=fun w'=>za9 _ _ _ _ _ _ w'
              cases heq:eqD dj d with
              | true=>
                rw [heq] at hq2
                have HYE:Hid (goneK ks op d=true):=HYES.out (by rw [HG.out];exact HJY.out heq)
                have HBE:Hid (Below w.heap.size w wr):=HB0.out.trans (HBj.out.mono HB0.out.size)
                go_wp2_with fail
                go_quiet (fail)
                go_wp2
                go_ret
                exact⟨by rw [←HQ.out,HYE.out];rfl,zal HBE.out nq⟩
              | false=>
                rw [heq] at hq2 HJS
                go_wp2_with fail
                go_quiet (fail)
                go_wp2_with fail
                go_roundw
                case rel=>exact⟨j+1,by omega,by go_num,HJS,zal HBj.out nq⟩
                case measure=>simp [intOf];omega
            · have hjj:¬(j:Int)<k.m.e.dots.length:=by omega
              have HN2:Hid ((ks.take (i+1)).any (zb6 op d)=false):=by show _=_;rw [HSU.out,HG.out];have:=HJ.out;rw [List.take_of_length_le (by omega)] at this;exact this
              clear HSU HN HYES HJ HG HAr HXr
              go_wp2_with fail
              go_roundw
              case rel=>exact⟨i+1,by omega,by go_num,HN2,HBj⟩
              case measure=>simp [intOf];omega
      · have hopb:(k.m.e.op !=op)=true:=by simp [hop]
        have HN2:Hid ((ks.take (i+1)).any (zb6 op d)=false):=by show _=_;rw [HSU.out];unfold zb6;rw [decide_eq_false hop];rfl
        clear HSU HN HYES
        go_wp2_with fail
        go_roundw
        case rel=>exact⟨i+1,by omega,by go_num,HN2,HB⟩
        case measure=>simp [intOf];omega
    · have hii:¬(i:Int)<ks.length:=by omega
      have HE:Hid (goneK ks op d=false):=by have:=HN.out;rw [List.take_of_length_le (by omega)] at this;exact this
      have HBE:Hid (Below w.heap.size w wr):=HB0.out.trans (HB.out.mono HB0.out.size)
      clear HN
      go_wp2
      go_ret
      exact⟨by rw [←HQ.out,HE.out];rfl,HBE.out⟩
theorem zg7:(Tryz.prog.info? 259).map (fun i=>(i.zero,i.size,i.bytes))=some (some (.agg #[.int .i64 0, .int .i64 0, .int .i64 0, .int .i64 0, .int .i64 0, .int .i64 0, .slice none 0 0, .int .i64 0, .int .i64 0, .int .i64 0, .int .i64 0]),11,104):=by kernel_rfl
abbrev mkZ:Value:= .agg #[.int .i64 0, .int .i64 0, .int .i64 0, .int .i64 0, .int .i64 0, .int .i64 0, .slice none 0 0, .int .i64 0, .int .i64 0, .int .i64 0, .int .i64 0]
def insAt(l:List Mk)(i:Nat)(k:Mk):List Mk:=l.take i++k::l.drop i
def insK(p:Mk->Bool)(l:List Mk)(k:Mk):List Mk:=insAt l (l.takeWhile p).length k
def za7(ks:List Mk)(mk en:Int)(out:List Mk)(k:Mk):List Mk:=if k.m.e.op=mk∧goneK ks en k.d=false then insK (fun x=>Wv.lessD x.d k.d) out k else out
def livK(ks:List Mk)(mk en:Int):List Mk:=ks.foldl (za7 ks mk en) []
theorem znn(p:Mk->Bool)(l:List Mk)(k:Mk):(insK p l k).length=l.length+1:=by
 have:=(List.takeWhile_sublist p (l:=l)).length_le
 unfold insK insAt
 simp
 omega
theorem zi3(p:Mk->Bool)(l:List Mk)(k x:Mk):x∈insK p l k↔x=k∨x∈l:=by
 unfold insK insAt
 have h:x∈l↔x∈l.take (l.takeWhile p).length∨x∈l.drop (l.takeWhile p).length:=by rw [←List.mem_append,List.take_append_drop]
 rw [h]
 simp only [List.mem_append,List.mem_cons]
 constructor
 ·rintro(a | a | a)
  ·exact .inr (.inl a)
  ·exact .inl a
  ·exact .inr (.inr a)
 ·rintro(a | a | a)
  ·exact .inr (.inl a)
  ·exact .inl a
  ·exact .inr (.inr a)
theorem zck{α β:Type}(f:β->α->β)(b:β)(l:List α)(i:Nat)(hi:i<l.length):(l.take (i+1)).foldl f b=f ((l.take i).foldl f b) l[i]:=by
 rw [List.take_succ_eq_append_getElem hi,List.foldl_append]
 rfl
theorem zne(ks:List Mk)(mk en:Int)(l:List Mk):(l.foldl (za7 ks mk en) []).length<=l.length:=by
 suffices h:∀(l:List Mk) (o:List Mk),(l.foldl (za7 ks mk en) o).length<=o.length+l.length by simpa using h l []
 intro l
 induction l with
 | nil=>intro o;simp
 | cons k l ih=>
  intro o
  rw [List.foldl_cons]
  have h1:=ih (za7 ks mk en o k)
  have h2:(za7 ks mk en o k).length<=o.length+1:=by
   unfold za7
   split
   ·rw [znn];omega
   ·omega
  simp only [List.length_cons]
  omega
theorem zff(ks:List Mk)(mk en:Int):(livK ks mk en).length<=ks.length:=zne ks mk en ks
theorem zc3(ks:List Mk):∀u∈flat Mk.cells ks,u.oneCell'=true:=by
 induction ks with
 | nil=>intro u hu;cases hu
 | cons k ks ih=>
  intro u hu
  simp only [flat,List.mem_append] at hu
  rcases hu with h | h
  ·simp only [Mk.cells,List.mem_cons,List.not_mem_nil,or_false] at h
   rcases h with rfl | rfl | rfl | rfl | rfl | rfl | rfl | rfl | rfl | rfl | rfl<;>rfl
  ·exact ih u h
theorem zfr(ks:List Mk):(flat Mk.cells ks).length=ks.length*11:=by
 induction ks with
 | nil=>rfl
 | cons k ks ih=>
  simp only [flat,List.length_append,List.length_cons,ih,zpp]
  omega
theorem zbw(a b:List Mk):flat Mk.cells (a++b)=flat Mk.cells a++flat Mk.cells b:=by
 induction a with
 | nil=>rfl
 | cons x a ih=>simp only [List.cons_append,flat,ih,List.append_assoc]
theorem At.cutL{w:World}{a:Option Addr}{l:List Mk}(h:At w a (flat Mk.cells l))(i:Nat):At w a (flat Mk.cells (l.take i)):=by
 intro j u hj
 refine h j u ?_
 have:flat Mk.cells l=flat Mk.cells (l.take i)++flat Mk.cells (l.drop i):=by rw [←zbw,List.take_append_drop]
 rw [this,List.getElem?_append_left (List.getElem?_eq_some_iff.1 hj).1]
 exact hj
theorem At.cutR{w:World}{a:Option Addr}{l:List Mk}(h:At w a (flat Mk.cells l))(i:Nat)(hi:i<=l.length):At w (a.map (·.add (i*11))) (flat Mk.cells (l.drop i)):=by
 intro j u hj
 have e:flat Mk.cells l=flat Mk.cells (l.take i)++flat Mk.cells (l.drop i):=by rw [←zbw,List.take_append_drop]
 have hl:(flat Mk.cells (l.take i)).length=i*11:=by rw [zfr,List.length_take,Nat.min_eq_left hi]
 obtain⟨p,q,rfl,hc⟩:=h (i*11+j) u (by rw [e,List.getElem?_append_right (by omega),hl,Nat.add_sub_cancel_left];exact hj)
 refine⟨p,q+i*11,by rw [Option.map_some,Addr.add_lit], ?_⟩
 rw [Nat.add_assoc]
 exact hc
theorem za6{w w':World}{base:Nat}{e:TypeId}{s n:Nat}{v:Value}{xs:List Value}(h:w.ownsRow base e s v n xs)(hb:Below w.heap.size w w'):w'.ownsRow base e s v n xs:=zah h fun g e=>hb.block g (h.lt g e).2
theorem zdy{w:World}{base:Nat}{e:TypeId}{s n c:Nat}{a:Option Addr}{xs:List Value}(h:w.ownsRow base e s (.slice a n c) n xs):n<=c∧(a=none->n=0):=by
 rcases h.2 with⟨e,e1⟩ | ⟨g,cap,cur,e,_,_,hn,_⟩
 ·cases e;exact⟨by omega,fun _=>e1⟩
 ·cases e;exact⟨hn,fun h=>by cases h⟩
theorem zca{P:Program}{w:World}{ops:Array Oper}{rest:List Oper}{o:Oper}{a:Act}{Q:Exit->Act->World->Prop}(hgd:o.guard=none)(t:TypeId)(x:Operand)(lo hi:Option Operand)
  (ho:o.op= .slice t x lo hi none) (v v':Value) (lv hv:Option Value) (hx:a.eval x=v) (hlo:lo.map a.eval=lv) (hhi:hi.map a.eval=hv) (hrun:(Instr.sliceAt t v lv hv none).run P w= .ok v' w) (h:wpList P ops Q rest (a.put o.dst v') w):wpList P ops Q (o::rest) a w:=by
 refine wpList_plain hgd fun K hK=> ?_
 subst hx hlo hhi
 unfold Oper.wp execOp
 simp only [ho,Sem.run_bind,Sem.run_pure,Option.map_none,hrun,Result.andThen_ok]
 exact hK _ _ h
theorem zrx{w:World}{oa:Option Addr}{oc j:Nat}{out:List Mk}(h:At w oa (flat Mk.cells out))(hj:j<=out.length)(hc:out.length<=oc):∃s c,(∀w',(Instr.sliceAt 222 (.slice oa out.length oc) none (some (I j)) none).run Tryz.prog w'= .ok (.slice s j c) w')∧At w s (flat Mk.cells (out.take j))∧(s=none->oa=none):=by
 obtain⟨i1,hi1,_,hi3,_⟩:=info_parts zg7
 refine⟨if oc=0 then oa else oa.map (·.add (0*11)),oc,fun w'=> ?_, ?_, ?_⟩
 ·simp [Instr.sliceAt,Instr.slice,Instr.sliceBounds,Instr.sliceBound,run_underlying Tryz.underlying222,asIntOf,sizeOf,typeInfo,hi1]
  intro hx
  omega
 ·have hh:=h.cutL j
  split
  ·exact hh
  ·have:oa.map (·.add (0*11))=oa:=by cases oa with
    | none=>rfl
    | some a=>simp [Addr.add]
   rw [this]
   exact hh
 ·split
  ·exact id
  ·intro e;simpa using e
theorem zrw{w:World}{oa:Option Addr}{oc j:Nat}{out:List Mk}(h:At w oa (flat Mk.cells out))(hj:j<=out.length)(hc:out.length<=oc):∃s c,(∀w',(Instr.sliceAt 222 (.slice oa out.length oc) (some (I j)) none none).run Tryz.prog w'= .ok (.slice s (out.length - j) c) w')∧At w s (flat Mk.cells (out.drop j))∧(s=none->oa=none):=by
 obtain⟨i1,hi1,_,hi3,_⟩:=info_parts zg7
 refine⟨if oc=j then oa else oa.map (·.add (j*11)),oc - j,fun w'=> ?_, ?_, ?_⟩
 ·simp [Instr.sliceAt,Instr.slice,Instr.sliceBounds,Instr.sliceBound,run_underlying Tryz.underlying222,asIntOf,sizeOf,typeInfo,hi1,hi3]
  intro hx
  omega
 ·split
  ·rw [List.drop_eq_nil_of_le (by omega)]
   intro j u hj
   simp [flat] at hj
  ·exact h.cutR j hj
 ·split
  ·exact id
  ·intro e;simpa using e
end Go.Proofs.YtfmcngncaffloaaGreatDoor
