import Derived.Test.YtfmcngncaffloaaGreatDoorG06ObjP
import Derived.Lib.Overlaps
import Derived.Lib.AppendZerosOnto
set_option maxHeartbeats 3200000
namespace Go.Proofs.YtfmcngncaffloaaGreatDoor
open Go.RowKit
set_option maxRecDepth 100000
theorem wrapI(a:Int)(h1: -9223372036854775808<=a)(h2:a<=9223372036854775807):IntKind.i64.wrap a=a:=by
 simp only [IntKind.wrap,IntKind.bits,IntKind.signed]
 simp
 split<;>omega
theorem znq{w w':World}{row:Option Nat}(h:Below w.heap.size w w'):w.grownBy w' row:=⟨h.os,h.tape,h.output,h.size,fun k hk _=>h.block k hk⟩
theorem zqk{w w':World}{row:Option Nat}(h:w.grownBy w' row):w.grownBy w'.drew row:=⟨h.os,h.tape,h.output,h.size,h.block⟩
abbrev twoC (w:World) (s:Stp) (m:Em):World:=(w.alloc (.cells #[I s.d.o,I s.d.s,I s.d.i,I s.t] 198)).alloc (.cells #[I m.e.op,I m.e.ob,I m.e.va,I m.e.ref.o,I m.e.ref.s,I m.e.ref.i, .slice m.da m.e.dots.length m.dc] 149)
theorem za0(w:World)(s:Stp)(m:Em):Below w.heap.size w (twoC w s m):=((Below.refl _ _).alloc (Nat.le_refl _) _).alloc (by simp) _
theorem zur(p:Nat)(n:Int)(s:Stp)(m:Em)(w:World)(h:Blk w p #[I n] 182)(h1: -9223372036854775808<=n+m.e.va)(h2:n+m.e.va<=9223372036854775807):
  Calls Tryz.prog 244 #[.pointer (some ⟨p,0,none⟩),stV s,effV m] w fun e w'=>e= .returned (.tuple #[])∧Blk w' p #[I (n+m.e.va)] 182∧w.grownBy w' (some p):=by
 have HB:Hid (Blk w p #[I n] 182):=h
 clear h
 go_enter Tryz.func244,Tryz.ntmps244
 have hw:=wrapI _ h1 h2
 have KC:Hid (Blk (twoC w s m) p #[I n] 182):=HB.out.kept (za0 w s m) HB.out.lt
 have c0:(twoC w s m).cell? ⟨p,0,none⟩=some (I n):=KC.out.cell 0
 have z0:(twoC w s m).frozen? ⟨p,0,none⟩=false:=KC.out.frozen 0
 unfold twoC at c0 z0
 go_wp2_with fail
 go_region_law (fail)
 all_goals
  (go_end0
   exact⟨rfl,(KC.out.set 0 _).drew,zqk (zk3 (znq (za0 w s m)) _)⟩)
theorem zoa(p:Nat)(n:Int)(w:World)(h:Blk w p #[I n] 182):
  Calls Tryz.prog 245 #[.pointer (some ⟨p,0,none⟩)] w fun e w'=>ze3 w [n] e w':=by
 have HB:Hid (Blk w p #[I n] 182):=h
 have c0:w.cell? ⟨p,0,none⟩=some (I n):=h.cell 0
 clear h
 go_enter Tryz.func245,Tryz.ntmps245
 go_wp2
 go_ret
 exact⟨⟨_,rfl,⟨rfl, .inr ⟨w.heap.size,1, #[I n],rfl,Nat.le_refl _,heap_alloc_new w _,Nat.le_refl _,by unfold maxLen;omega,rfl,rfl⟩⟩⟩,(Below.refl _ _).alloc (Nat.le_refl _) _⟩
theorem zu3(p:Nat)(n:Int)(w:World)(h:Blk w p #[I n] 182):
  Calls Tryz.prog 242 #[.pointer (some ⟨p,0,none⟩)] w fun e w'=>(∃q,e= .returned (.iface 180 (.pointer (some ⟨q,0,none⟩)))∧w.heap.size<=q∧Blk w' q #[I n] 182)∧Below w.heap.size w w':=by
 have c0:w.cell? ⟨p,0,none⟩=some (I n):=h.cell 0
 have HK:Hid (Blk (w.alloc (.cells #[I n] 182)) w.heap.size #[I n] 182):=heap_alloc_new w _
 clear h
 go_enter Tryz.func242,Tryz.ntmps242
 go_wp2
 go_ret
 exact⟨⟨_,rfl,Nat.le_refl _,HK.out⟩,(Below.refl _ _).alloc (Nat.le_refl _) _⟩
def addE(n:Int):Int×Int:=if n< -1000∨1000<n then(0,10) else(n,0)
theorem zok(p:Nat)(op x y:Int)(w:World):
  Calls Tryz.prog 243 #[.pointer (some ⟨p,0,none⟩),I op,I x,I y] w fun e w'=>e= .returned (.tuple #[efV 0 0 (addE x).1 ⟨0,0,0⟩,I (addE x).2])∧Below w.heap.size w w':=by
 have HB:Hid (Below w.heap.size w (w.alloc (.cells zeroE 149))):=(Below.refl _ _).alloc (Nat.le_refl _) _
 go_enter Tryz.func243,Tryz.ntmps243
 by_cases h1:x< -1000
 ·have HV:Hid (addE x=(0,10)):=by show _=_;unfold addE;rw [if_pos (Or.inl h1)]
  go_wp2
  refine bodyPost_ret (v:= .tuple #[efV 0 0 0 ⟨0,0,0⟩,I 10]) (by simp [results,Tryz.results243,go_sem]) rfl ⟨by rw [HV.out],HB.out⟩
 ·by_cases h2:1000<x
  ·have HV:Hid (addE x=(0,10)):=by show _=_;unfold addE;rw [if_pos (Or.inr h2)]
   go_wp2
   refine bodyPost_ret (v:= .tuple #[efV 0 0 0 ⟨0,0,0⟩,I 10]) (by simp [results,Tryz.results243,go_sem]) rfl ⟨by rw [HV.out],HB.out⟩
  ·have HV:Hid (addE x=(x,0)):=by show _=_;unfold addE;rw [if_neg (by omega)]
   go_wp2
   refine bodyPost_ret (v:= .tuple #[efV 0 0 x ⟨0,0,0⟩,I 0]) (by simp [results,Tryz.results243,go_sem]) rfl ⟨by rw [HV.out],(Below.refl _ _).alloc (Nat.le_refl _) _⟩
theorem zdx{P:Program}(w:World)(t ty elem:TypeId)(s g o dLen dCap:Nat)(a:Addr)(sLen sCap:Nat)(cur:Array Value)(tt:TypeId)(cs:List Value)(hu:P.underlying t=some (.slice elem))(hs:(P.info? elem).map (·.size)=some s)(hg:Blk w g cur tt)(k:Nat)(hk:Nat.min sLen dLen=k)(hn:cs.length=k*s)(hsrc:∀j v,cs[j]?=some v->w.cell? (a.add j)=some v)(hfit:o+cs.length<=cur.size)(h1:∀v∈cs,v.oneCell'=true):
  (Builtin.copy_ #[t,t] ty #[.slice (some ⟨g,o,none⟩) dLen dCap, .slice (some a) sLen sCap]).run P w= .ok (goInt k) (w.setRow g (cur.toList.take o++cs++cur.toList.drop (o+cs.length)).toArray):=by
 have hl:(loadCells a (k*s)).run P w= .ok cs.toArray w:=by rw [←hn];exact run_loadCells_list w a cs hsrc
 have hst:=run_storeCells_at P g o tt cs 0 cur w hg (by simpa using hfit) h1
 cases hq:P.info? elem with
 | none=>simp [hq] at hs
 | some i=>
  have hi:i.size=s:=by simpa [hq] using hs
  simp [Builtin.copy_,run_underlying hu,Builtin.lenOf,Builtin.firstCells,sizeOf,typeInfo,hq,hi,hk,hl,hst]
theorem zo4{α:Type}(A B R X:List α)(hR:X.length<=R.length)(c c1:List α)(hc:c=A++B++R)(h1:c1=c.take (A.length+X.length)++B++c.drop (A.length+X.length+B.length)):
  c1.take A.length++X++c1.drop (A.length+X.length)=A++X++B++R.drop X.length:=by
 have hl:(c.take (A.length+X.length)).length=A.length+X.length:=by rw [List.length_take,hc];simp;omega
 have e1:c1.take A.length=A:=by
  rw [h1,List.append_assoc,List.take_append_of_le_length (by omega),List.take_take,Nat.min_eq_left (by omega),hc,List.append_assoc,List.take_left]
 have e2:c1.drop (A.length+X.length)=B++R.drop X.length:=by
  rw [h1,List.append_assoc,List.drop_append_of_le_length (by omega),List.drop_of_length_le (by omega),List.nil_append,hc]
  congr 1
  rw [show A.length+X.length+B.length=(A++B).length+X.length by simp;omega,List.drop_append]
  simp
 rw [e1,e2,←List.append_assoc]
theorem zv8{α:Type}(A Z X B:List α)(c c1:List α)(hc:c=A++Z)(h1:c1=c.take A.length++X++c.drop (A.length+X.length)):
  c1.take (A.length+X.length)++B++c1.drop (A.length+X.length+B.length)=A++X++B++Z.drop (X.length+B.length):=by
 have e0:c1=A++X++Z.drop X.length:=by rw [h1,hc,List.take_left,List.drop_append];simp
 have e1:c1.take (A.length+X.length)=A++X:=by rw [e0,←List.length_append,List.take_left]
 have e2:c1.drop (A.length+X.length+B.length)=Z.drop (X.length+B.length):=by
  rw [e0,←List.length_append,List.drop_append,List.drop_drop];simp
 rw [e1,e2]
theorem zmd{P:Program}(w:World){o:Oper}{a:Act}{K:Act->World->Prop}{Q:Exit->Act->World->Prop}(d s:Operand)(t:TypeId)
  (ho:o.op= .call {callee:= .builtin .copy,args:= #[d,s],argTypes:= #[t,t]}) (v u:Value) (hd:a.eval d=v) (hs:a.eval s=u) {v':Value} {w':World}
  (hr:(Builtin.copy_ #[t,t] o.type #[v,u]).run P w= .ok v' w') (h:K (a.put o.dst v') w'):o.wp P a w K Q:=by
 unfold Oper.wp execOp
 simp only [ho,resolve,invoke,builtin,Sem.run_bind,Sem.run_pure,Result.andThen_ok,List.map_toArray,List.map_cons,List.map_nil,hd,hs,hr]
 exact h
theorem ze4{P:Program}(w:World){ops:Array Oper}{rest:List Oper}{o:Oper}{a:Act}{Q:Exit->Act->World->Prop}(hgd:o.guard=none)(d s:Operand)(t:TypeId)
  (ho:o.op= .call {callee:= .builtin .copy,args:= #[d,s],argTypes:= #[t,t]}) (v u:Value) (hd:a.eval d=v) (hs:a.eval s=u) {v':Value} {w':World}
  (hr:(Builtin.copy_ #[t,t] o.type #[v,u]).run P w= .ok v' w') (h:wpList P ops Q rest (a.put o.dst v') w'):wpList P ops Q (o::rest) a w:=
 wpList_plain hgd fun _ hK=>zmd w d s t ho v u hd hs hr (hK _ _ h)
theorem zfy{P:Program}{ops:Array Oper}{o:Oper}{a:Act}{w:World}{K:Act->World->Prop}{Q:Exit->Act->World->Prop}{E:Prop}
  (hg:o.guard=none) (d x:Operand) (t:TypeId) (hop:o.op=Op.call {callee:=Callee.builtin Builtin.copy,args:= #[d,x],argTypes:= #[t,t]})
  (v u:Value) (hd:a.eval d=v) (hx:a.eval x=u) {v':Value} {w':World} (hr:(Builtin.copy_ #[t,t] o.type #[v,u]).run P w= .ok v' w') (hK:K (a.put o.dst v') w'):
  if Region.wanted o (yielded ops a.tmps)=true then Oper.wp P o a w K Q else E:=by
 have hw:Region.wanted o (yielded ops a.tmps)=true:=by simp [Region.wanted,hg]
 rw [if_pos hw]
 unfold Oper.wp
 simp [execOp,hop,resolve,invoke,builtin,hd,hx,hr,Result.andThen]
 exact hK
theorem za1{α:Type}(f:α->List Value):∀(a b:List α),flat f (a++b)=flat f a++flat f b
 | [],b=>rfl
 | x::a,b=>by show f x++flat f (a++b)=f x++flat f a++flat f b;rw [za1 f a b,List.append_assoc]
def insL(ls:List El)(i:Nat)(e:El):List El:=ls.take i++e::ls.drop i
theorem zdm(ls:List El)(i:Nat)(e:El)(hi:i<=ls.length):(insL ls i e).length=ls.length+1:=by
 unfold insL
 rw [List.length_append,List.length_take,List.length_cons,List.length_drop]
 omega
theorem zkx(ls:List El)(i:Nat)(e:El):flat El.cells (insL ls i e)=flat El.cells (ls.take i)++e.cells++flat El.cells (ls.drop i):=by
 unfold insL
 rw [za1]
 show _++(e.cells++flat El.cells (ls.drop i))=_
 rw [List.append_assoc]
theorem zxd{base g c:Nat}{ls:List El}{e:El}{i:Nat}(hi:i<ls.length)(hc:ls.length+1<=c){cur:Array Value}(hb:base<=g)(hm:c<=maxLen)(hz:cur.size=c*6)(ht:cur.toList.take (ls.length*6)=flat El.cells ls)(W:World)(cur2:Array Value)
  (hW:Blk W g cur2 373) (c1:List Value) (h1:c1=cur.toList.take ((i+1)*6)++flat El.cells (ls.drop i)++cur.toList.drop ((i+1)*6+(flat El.cells (ls.drop i)).length)) (h2:cur2.toList=c1.take (i*6)++e.cells++c1.drop (i*6+e.cells.length)):
  W.ownsRow base 373 6 (.slice (some ⟨g,0,none⟩) (ls.length+1) c) (insL ls i e).length (flat El.cells (insL ls i e)):=by
 have hA:(flat El.cells (ls.take i)).length=i*6:=by rw [zaq El.cells 6 zaj,List.length_take,Nat.min_eq_left (by omega)]
 have hX:e.cells.length=6:=rfl
 have hBl:(flat El.cells (ls.drop i)).length=(ls.length - i)*6:=by rw [zaq El.cells 6 zaj,List.length_drop]
 have hsp:flat El.cells ls=flat El.cells (ls.take i)++flat El.cells (ls.drop i):=by rw [←za1,List.take_append_drop]
 have hcl:cur.toList=flat El.cells (ls.take i)++flat El.cells (ls.drop i)++cur.toList.drop (ls.length*6):=by rw [←hsp,←ht,List.take_append_drop]
 have hRl:(cur.toList.drop (ls.length*6)).length=c*6 - ls.length*6:=by rw [List.length_drop,Array.length_toList,hz]
 have hfin:=zo4 (flat El.cells (ls.take i)) (flat El.cells (ls.drop i)) (cur.toList.drop (ls.length*6)) e.cells (by rw [hRl,hX];omega) cur.toList c1 hcl (by rw [h1,hA,hX,show(i+1)*6=i*6+6 by omega])
 rw [hA] at hfin
 rw [zdm ls i e (by omega),zkx]
 have hlen2:(flat El.cells (ls.take i)++e.cells++flat El.cells (ls.drop i)).length=(ls.length+1)*6:=by rw [List.length_append,List.length_append,hA,hX,hBl];omega
 refine⟨by rw [hlen2], .inr ⟨g,c,cur2,rfl,hb,hW,hc,hm, ?_, ?_⟩⟩
 ·have:cur2.toList.length=c*6:=by rw [h2,hfin];simp only [List.length_append,hA,hX,hBl,List.length_drop,Array.length_toList,hz];omega
  simpa using this
 ·rw [h2,hfin,←hlen2,List.take_left]
theorem zkg{w:World}{g:Nat}{cur:Array Value}{t:TypeId}(h:Blk w g cur t):w.shape? g=some (t,cur.size):=by
 have h':w.heap[g]?=some (.cells cur t (0,0)):=h
 simp [World.shape?,h']
theorem znl(base g c g2 i:Nat)(ls:List El)(e:El)(w:World)(h:w.ownsRow base 373 6 (.slice (some ⟨g,0,none⟩) ls.length c) ls.length (flat El.cells ls))(h2:Blk w g2 #[I e.s.d.o,I e.s.d.s,I e.s.d.i,I e.s.t,I e.v, .bool e.x] 373)(hne:g2 ≠ g)(hl:ls.length<=1048576)(hi:i<ls.length)(hc:ls.length+1<=c):
  Calls Tryz.prog 320 #[.slice (some ⟨g,0,none⟩) ls.length c,I i, .slice (some ⟨g2,0,none⟩) 1 1] w fun r w'=>InsOk w base (.slice (some ⟨g,0,none⟩) ls.length c) (insL ls i e) r w':=by
 rcases h.2 with⟨e1,_⟩ | ⟨g',cap',cur,e1,hb,hg,h3,h4,hz,ht⟩
 ·cases e1
 cases e1
 have hg:Blk w g cur 373:=hg
 obtain⟨c1,hc1⟩:∃c1,c1=cur.toList.take ((i+1)*6)++flat El.cells (ls.drop i)++cur.toList.drop ((i+1)*6+(flat El.cells (ls.drop i)).length):=⟨_,rfl⟩
 have hov:∀lb cb,(callFunc 325 #[.slice (some ⟨g2,0,none⟩) 1 1, .slice (some ⟨g,(i+1)*6,none⟩) lb cb]).run Tryz.prog w= .ok (.value (.bool false)) w:=fun lb cb=>by
  rw [run_callFunc_extern Tryz.func325 (by kernel_rfl) (by kernel_rfl) (by kernel_rfl) (e:=Extern.SlicesOverlaps.overlaps #[191,191] #[4]) (by kernel_rfl),
   Lib.run_overlaps_apart w 191 4 373 Tryz.underlying191 6 Tryz.sizeOf373 ⟨g2,0,none⟩ ⟨g,(i+1)*6,none⟩ 1 1 lb cb hne _ _ _ _ (zkg h2) (zkg hg) (by rw [hz];omega) (h2.frozen 0) (h2.frozen _)]
  rfl
 have hsz:(Tryz.prog.info? 373).map (·.size)=some 6:=by
  obtain⟨i0,hi0,_,h1,_⟩:=info_parts zg8
  rw [hi0];simp [h1]
 have hBl:(flat El.cells (ls.drop i)).length=(ls.length - i)*6:=by rw [zaq El.cells 6 zaj,List.length_drop]
 have hcp1:∀ty dc sc,(Builtin.copy_ #[191,191] ty #[.slice (some ⟨g,(i+1)*6,none⟩) (ls.length - i) dc, .slice (some ⟨g,i*6,none⟩) (ls.length+1 - i) sc]).run Tryz.prog w.drew= .ok (goInt (ls.length - i:Nat)) (w.drew.setRow g c1.toArray):=fun ty dc sc=>by
  rw [hc1]
  exact zdx w.drew _ ty 373 6 g ((i+1)*6) _ dc ⟨g,i*6,none⟩ _ sc cur _ (flat El.cells (ls.drop i)) Tryz.underlying191 hsz hg (ls.length - i) (by simp only [Nat.min_def];split<;>omega) hBl (fun j v hj=>by
   rw [Addr.add_lit]
   have hj2:(flat El.cells ls)[i*6+j]?=some v:=by
    have hsp:flat El.cells ls=flat El.cells (ls.take i)++flat El.cells (ls.drop i):=by rw [←za1,List.take_append_drop]
    have hA:(flat El.cells (ls.take i)).length=i*6:=by rw [zaq El.cells 6 zaj,List.length_take,Nat.min_eq_left (by omega)]
    rw [hsp,List.getElem?_append_right (by omega),hA,Nat.add_sub_cancel_left]
    exact hj
   rw [←ht,List.getElem?_take] at hj2
   split at hj2
   ·show w.cell? _=_
    rw [hg.cell]
    simpa using hj2
   ·cases hj2) (by rw [hBl,hz];omega) (zf7 _)
 have hW1:Blk (w.drew.setRow g c1.toArray) g c1.toArray 373:=setRow_heap w.drew g cur _ _ _ hg
 have hc1l:c1.length=c*6:=by rw [hc1];simp only [List.length_append,List.length_take,List.length_drop,Array.length_toList,hBl,hz];omega
 have hcp2:∀ty dc,(Builtin.copy_ #[191,191] ty #[.slice (some ⟨g,i*6,none⟩) (ls.length+1 - i) dc, .slice (some ⟨g2,0,none⟩) 1 1]).run Tryz.prog (w.drew.setRow g c1.toArray)= .ok (goInt 1) ((w.drew.setRow g c1.toArray).setRow g (c1.toArray.toList.take (i*6)++e.cells++c1.toArray.toList.drop (i*6+e.cells.length)).toArray):=fun ty dc=>
  zdx _ _ ty 373 6 g (i*6) _ dc ⟨g2,0,none⟩ 1 1 c1.toArray _ e.cells Tryz.underlying191 hsz hW1 1 (by simp only [Nat.min_def];split<;>omega) rfl (fun j v hj=>by
   rw [Addr.add_lit,Nat.zero_add]
   have h2':Blk (w.drew.setRow g c1.toArray) g2 #[I e.s.d.o,I e.s.d.s,I e.s.d.i,I e.s.t,I e.v, .bool e.x] 373:=(setRow_other w.drew g g2 _ hne).trans h2
   rw [h2'.cell]
   have:(e.cells).toArray= #[I e.s.d.o,I e.s.d.s,I e.s.d.i,I e.s.t,I e.v, .bool e.x]:=rfl
   rw [←this]
   simpa using hj) (by rw [List.size_toArray,hc1l];show i*6+6<=_;omega) (by have:=zf7 [e];simpa [flat] using this)
 have hW2:Blk ((w.drew.setRow g c1.toArray).setRow g (c1.toArray.toList.take (i*6)++e.cells++c1.toArray.toList.drop (i*6+e.cells.length)).toArray) g (c1.toArray.toList.take (i*6)++e.cells++c1.toArray.toList.drop (i*6+e.cells.length)).toArray 373:=setRow_heap _ g c1.toArray _ _ _ hW1
 have HOWN:Hid (((w.drew.setRow g c1.toArray).setRow g (c1.toArray.toList.take (i*6)++e.cells++c1.toArray.toList.drop (i*6+e.cells.length)).toArray).ownsRow base 373 6 (.slice (some ⟨g,0,none⟩) (ls.length+1) c) (insL ls i e).length (flat El.cells (insL ls i e))):=zxd hi hc hb h4 hz ht _ _ hW2 c1 hc1 (by simp)
 have HGR:Hid (w.grownBy ((w.drew.setRow g c1.toArray).setRow g (c1.toArray.toList.take (i*6)++e.cells++c1.toArray.toList.drop (i*6+e.cells.length)).toArray) (some g)):=⟨rfl,rfl,rfl,by simp,fun k _ hk=>by rw [setRow_other _ g k _ (fun e=>hk (by rw [e])),setRow_other _ g k _ (fun e=>hk (by rw [e]))];rfl⟩
 clear hW1 hW2 hc1l hBl hsz ht h hg h2
 generalize (c1.toArray.toList.take (i*6)++e.cells++c1.toArray.toList.drop (i*6+e.cells.length)).toArray=row2 at *
 generalize c1.toArray=row1 at *
 have hz1:¬((i:Int)=(ls.length:Int)):=by omega
 have hz2:¬((c:Int)<(ls.length:Int)+1):=by omega
 have hw1:IntKind.i64.wrap ((i:Int)+1)=(i:Int)+1:=by rw [IntKind.wrap_i64];omega
 have hw2:IntKind.i64.wrap ((ls.length:Int)+1)=(ls.length:Int)+1:=by rw [IntKind.wrap_i64];omega
 have hb1:(0:Int)<=(i:Int)+1:=by omega
 have htn:((i:Int)+1).toNat=i+1:=by omega
 have htl:((ls.length:Int)+1).toNat=ls.length+1:=by omega
 have hb2:¬(c=i+1):=by omega
 have hb4:¬(c=i):=by omega
 have hin:i<=ls.length:=by omega
 have hb3:(i:Int)<=(ls.length:Int)+1:=by omega
 unfold maxLen at h4
 go_enter Tryz.func320,Tryz.ntmps320
 go_wp2_with (simp only [hov])
 go_region_law (refine zfy rfl _ _ 191 rfl _ _ (by simp [Act.eval,Act.put]) (by simp [Act.eval,Act.put]) (hcp1 _ _ _) ?_)
 go_wp2_with (at_builtin;refine ze4 _ rfl _ _ 191 rfl _ _ rfl rfl (hcp2 _ _) ?_)
 go_ret
 exact⟨_,rfl,HOWN.out,HGR.out,Or.inl rfl⟩
theorem zj7(n:Nat):(Builtin.zeroCells (#[Value.int .i64 0, .int .i64 0, .int .i64 0, .int .i64 0, .int .i64 0, .bool false]:Array Value) n).size=n*6:=by simp [Builtin.zeroCells]
theorem znm(base g c g2 i:Nat)(ls:List El)(e:El)(w:World)(hB:base<=w.heap.size)(h:w.ownsRow base 373 6 (.slice (some ⟨g,0,none⟩) ls.length c) ls.length (flat El.cells ls))(h2:Blk w g2 #[I e.s.d.o,I e.s.d.s,I e.s.d.i,I e.s.t,I e.v, .bool e.x] 373)(hl:ls.length<=1048576)(hi:i<ls.length)(hc:c<ls.length+1):
  Calls Tryz.prog 320 #[.slice (some ⟨g,0,none⟩) ls.length c,I i, .slice (some ⟨g2,0,none⟩) 1 1] w fun r w'=>InsOk w base (.slice (some ⟨g,0,none⟩) ls.length c) (insL ls i e) r w':=by
 rcases h.2 with⟨e1,_⟩ | ⟨g',cap',cur,e1,hb,hg,h3,h4,hz,ht⟩
 ·cases e1
 cases e1
 have hg:Blk w g cur 373:=hg
 have hgn:g<w.heap.size:=hg.lt
 have hgn2:g2<w.heap.size:=h2.lt
 obtain⟨i0,hi0,hz0,hzs,hzb⟩:=info_parts zg8
 have hsz:(Tryz.prog.info? 373).map (·.size)=some 6:=by rw [hi0];simp [hzs]
 have hA:(flat El.cells (ls.take i)).length=i*6:=by rw [zaq El.cells 6 zaj,List.length_take,Nat.min_eq_left (by omega)]
 have hBl:(flat El.cells (ls.drop i)).length=(ls.length - i)*6:=by rw [zaq El.cells 6 zaj,List.length_drop]
 have hsp:flat El.cells ls=flat El.cells (ls.take i)++flat El.cells (ls.drop i):=by rw [←za1,List.take_append_drop]
 have hcell:∀j v,(flat El.cells ls)[j]?=some v->w.cell? ⟨g,j,none⟩=some v:=fun j v hj=>by
  rw [←ht,List.getElem?_take] at hj
  split at hj
  ·rw [hg.cell];simpa using hj
  ·cases hj
 obtain⟨G,hG⟩:∃G,G=grownCap w (ls.length+1) c 373:=⟨_,rfl⟩
 have hG1:ls.length+1<=G:=by rw [hG];exact grownCap_ge w _ _ _
 have hG2:G<=maxLen:=by rw [hG];exact grownCap_le_maxLen w _ _ _ (by unfold maxLen;omega)
 have hold:(Builtin.firstCells i0.size i (.slice (some ⟨g,0,none⟩) i c)).run Tryz.prog w.drew= .ok (flat El.cells (ls.take i)).toArray w.drew:=by
  rw [hzs]
  refine run_firstCells_some w.drew 6 i ⟨g,0,none⟩ i c _ hA (fun j v hj=> ?_)
  rw [Addr.add_lit,Nat.zero_add]
  refine hcell j v ?_
  rw [hsp,List.getElem?_append_left (List.getElem?_eq_some_iff.1 hj).1]
  exact hj
 obtain⟨ROW,hROW⟩:∃ROW,ROW=(flat El.cells (ls.take i)).toArray++Builtin.zeroCells (#[Value.int .i64 0, .int .i64 0, .int .i64 0, .int .i64 0, .int .i64 0, .bool false]:Array Value) (ls.length+1 - i)++Builtin.zeroCells (#[Value.int .i64 0, .int .i64 0, .int .i64 0, .int .i64 0, .int .i64 0, .bool false]:Array Value) (G - (ls.length+1)):=⟨_,rfl⟩
 have hrz:∀ty,(Builtin.append_ #[191,3] ty #[.slice (some ⟨g,0,none⟩) i c, .int .i64 ((ls.length:Int)+1 - (i:Int))]).run Tryz.prog w= .ok (.slice (some ⟨w.heap.size,0,none⟩) (ls.length+1) G) (w.drew.alloc (.cells ROW 373)):=fun ty=>by
  have hik:i+(ls.length+1 - i)=ls.length+1:=by omega
  have h:=Lib.run_append_grow_zeros w 191 3 ty 373 i0 _ .i64 .i64 Tryz.underlying191 Tryz.underlying3 hi0 hz0 (some ⟨g,0,none⟩) i c (flat El.cells (ls.take i)) hold (ls.length+1 - i) (by omega) (by omega) (by omega) (by omega) (by rw [hzb];omega) (by rw [hzb,hik];exact growslice_fits hc (by omega))
  rw [hik,←hG] at h
  rw [show(ls.length:Int)+1 - (i:Int)=((ls.length+1 - i:Nat):Int) by omega,hROW]
  exact h
 have hRl:ROW.size=G*6:=by
  rw [hROW]
  simp only [Array.size_append,List.size_toArray,hA,zj7]
  omega
 have hRt:ROW.toList=flat El.cells (ls.take i)++((Builtin.zeroCells (#[Value.int .i64 0, .int .i64 0, .int .i64 0, .int .i64 0, .int .i64 0, .bool false]:Array Value) (ls.length+1 - i)).toList++(Builtin.zeroCells (#[Value.int .i64 0, .int .i64 0, .int .i64 0, .int .i64 0, .int .i64 0, .bool false]:Array Value) (G - (ls.length+1))).toList):=by
  rw [hROW];simp
 obtain⟨W1,hW1⟩:∃W1,W1=w.drew.alloc (.cells ROW 373):=⟨_,rfl⟩
 have hB1:Blk W1 w.heap.size ROW 373:=by rw [hW1];exact heap_alloc_new w.drew _
 obtain⟨c1,hc1⟩:∃c1,c1=ROW.toList.take (i*6)++e.cells++ROW.toList.drop (i*6+e.cells.length):=⟨_,rfl⟩
 have hc1l:c1.length=G*6:=by rw [hc1];simp only [List.length_append,List.length_take,List.length_drop,Array.length_toList,hRl];show _+6+(_ - (_+6))=_;omega
 have h2W:Blk W1 g2 #[I e.s.d.o,I e.s.d.s,I e.s.d.i,I e.s.t,I e.v, .bool e.x] 373:=by rw [hW1];exact h2.kept (((Below.refl _ _).drew).alloc (Nat.le_refl _) _) hgn2
 have hgW:Blk W1 g cur 373:=by rw [hW1];exact hg.kept (((Below.refl _ _).drew).alloc (Nat.le_refl _) _) hgn
 have hcpA:∀ty dc,(Builtin.copy_ #[191,191] ty #[.slice (some ⟨w.heap.size,i*6,none⟩) (ls.length+1 - i) dc, .slice (some ⟨g2,0,none⟩) 1 1]).run Tryz.prog W1= .ok (goInt 1) (W1.setRow w.heap.size c1.toArray):=fun ty dc=>by
  rw [hc1]
  exact zdx _ _ ty 373 6 w.heap.size (i*6) _ dc ⟨g2,0,none⟩ 1 1 ROW _ e.cells Tryz.underlying191 hsz hB1 1 (by simp only [Nat.min_def];split<;>omega) rfl (fun j v hj=>by
   rw [Addr.add_lit,Nat.zero_add,h2W.cell]
   have:(e.cells).toArray= #[I e.s.d.o,I e.s.d.s,I e.s.d.i,I e.s.t,I e.v, .bool e.x]:=rfl
   rw [←this]
   simpa using hj) (by rw [hRl];show i*6+6<=_;omega) (by have:=zf7 [e];simpa [flat] using this)
 obtain⟨W2,hW2⟩:∃W2,W2=W1.setRow w.heap.size c1.toArray:=⟨_,rfl⟩
 have hB2:Blk W2 w.heap.size c1.toArray 373:=by rw [hW2];exact setRow_heap _ _ ROW _ _ _ hB1
 have hgW2:Blk W2 g cur 373:=by rw [hW2];exact(setRow_other W1 w.heap.size g _ (by omega)).trans hgW
 have hcpB:∀(W:World),W=W2.drew->∀ty dc sc,(Builtin.copy_ #[191,191] ty #[.slice (some ⟨w.heap.size,(i+1)*6,none⟩) (ls.length - i) dc, .slice (some ⟨g,i*6,none⟩) (ls.length - i) sc]).run Tryz.prog W= .ok (goInt (ls.length - i:Nat)) (W2.drew.setRow w.heap.size (c1.toArray.toList.take ((i+1)*6)++flat El.cells (ls.drop i)++c1.toArray.toList.drop ((i+1)*6+(flat El.cells (ls.drop i)).length)).toArray):=fun W hW ty dc sc=>by
  rw [hW]
  exact zdx W2.drew _ ty 373 6 w.heap.size ((i+1)*6) _ dc ⟨g,i*6,none⟩ _ sc c1.toArray _ (flat El.cells (ls.drop i)) Tryz.underlying191 hsz hB2 (ls.length - i) (Nat.min_self _) hBl (fun j v hj=>by
   rw [Addr.add_lit]
   show W2.cell? _=_
   rw [hgW2.cell,←hg.cell]
   refine hcell _ v ?_
   rw [hsp,List.getElem?_append_right (by omega),hA,Nat.add_sub_cancel_left]
   exact hj) (by rw [List.size_toArray,hc1l,hBl];omega) (zf7 _)
 have hfin:=zv8 (flat El.cells (ls.take i)) ((Builtin.zeroCells (#[Value.int .i64 0, .int .i64 0, .int .i64 0, .int .i64 0, .int .i64 0, .bool false]:Array Value) (ls.length+1 - i)).toList++(Builtin.zeroCells (#[Value.int .i64 0, .int .i64 0, .int .i64 0, .int .i64 0, .int .i64 0, .bool false]:Array Value) (G - (ls.length+1))).toList) e.cells (flat El.cells (ls.drop i)) ROW.toList c1 hRt (by rw [hA];exact hc1)
 have hXl:e.cells.length=6:=rfl
 have hrow:c1.toArray.toList.take ((i+1)*6)++flat El.cells (ls.drop i)++c1.toArray.toList.drop ((i+1)*6+(flat El.cells (ls.drop i)).length)=flat El.cells (insL ls i e)++((Builtin.zeroCells (#[Value.int .i64 0, .int .i64 0, .int .i64 0, .int .i64 0, .int .i64 0, .bool false]:Array Value) (ls.length+1 - i)).toList++(Builtin.zeroCells (#[Value.int .i64 0, .int .i64 0, .int .i64 0, .int .i64 0, .int .i64 0, .bool false]:Array Value) (G - (ls.length+1))).toList).drop (e.cells.length+(flat El.cells (ls.drop i)).length):=by
  rw [zkx,←hfin,hA,hXl,show(i+1)*6=i*6+6 by omega]
 rw [hrow] at hcpB
 have hil:(flat El.cells (insL ls i e)).length=(ls.length+1)*6:=by rw [zaq El.cells 6 zaj,zdm ls i e (by omega)]
 obtain⟨fin,hfn⟩:∃fin,fin=flat El.cells (insL ls i e)++((Builtin.zeroCells (#[Value.int .i64 0, .int .i64 0, .int .i64 0, .int .i64 0, .int .i64 0, .bool false]:Array Value) (ls.length+1 - i)).toList++(Builtin.zeroCells (#[Value.int .i64 0, .int .i64 0, .int .i64 0, .int .i64 0, .int .i64 0, .bool false]:Array Value) (G - (ls.length+1))).toList).drop (e.cells.length+(flat El.cells (ls.drop i)).length):=⟨_,rfl⟩
 rw [←hfn] at hcpB
 have hfl:fin.length=G*6:=by
  rw [hfn]
  simp only [List.length_append,List.length_drop,Array.length_toList,zj7,hil,hBl,hXl]
  omega
 have HOWN:Hid ((W2.drew.setRow w.heap.size fin.toArray).ownsRow base 373 6 (.slice (some ⟨w.heap.size,0,none⟩) (ls.length+1) G) (insL ls i e).length (flat El.cells (insL ls i e))):=by
  refine⟨by rw [hil,zdm ls i e (by omega)], .inr ⟨w.heap.size,G,fin.toArray,by rw [zdm ls i e (by omega)],hB,setRow_heap _ _ c1.toArray _ _ _ hB2,by rw [zdm ls i e (by omega)];exact hG1,hG2,by simpa using hfl, ?_⟩⟩
  rw [zdm ls i e (by omega),←hil,hfn]
  exact List.take_left
 have HGR:Hid (w.grownBy (W2.drew.setRow w.heap.size fin.toArray) (some g)):=by
  have hbl:Below w.heap.size w W1:=by rw [hW1];exact((Below.refl _ _).drew).alloc (Nat.le_refl _) _
  refine⟨?_, ?_, ?_, ?_,fun k hk _=> ?_⟩
  ·rw [hW2];exact hbl.os
  ·rw [hW2];exact hbl.tape
  ·rw [hW2];exact hbl.output
  ·rw [hW2];have:=hbl.size;simpa using this
  ·rw [setRow_other _ _ k _ (by omega),hW2]
   show(W1.setRow _ _).heap[k]?=_
   rw [setRow_other _ _ k _ (by omega)]
   exact hbl.block k hk
 rw [←hW1] at hrz
 rw [←hW2] at hcpA
 clear hfl hfn hil hrow hfin hXl hgW2 hB2 hW2 hgW h2W hc1l hc1 hB1 hW1 hRt hRl hROW hold hG hcell hsp hBl hA hsz ht h hg h2
 have hz1:¬((i:Int)=(ls.length:Int)):=by omega
 have hz2:(c:Int)<(ls.length:Int)+1:=by omega
 have hw1:IntKind.i64.wrap ((i:Int)+1)=(i:Int)+1:=by rw [IntKind.wrap_i64];omega
 have hw2:IntKind.i64.wrap ((ls.length:Int)+1)=(ls.length:Int)+1:=by rw [IntKind.wrap_i64];omega
 have hw3:IntKind.i64.wrap ((ls.length:Int)+1 - (i:Int))=(ls.length:Int)+1 - (i:Int):=by rw [IntKind.wrap_i64];omega
 have hb1:(0:Int)<=(i:Int)+1:=by omega
 have htn:((i:Int)+1).toNat=i+1:=by omega
 have hGi:¬(G=i):=by omega
 have hGim:¬(G=i+1):=by omega
 have hb4:¬(c=i):=by omega
 have hin:i<=ls.length:=by omega
 have hic:i<=c:=by omega
 have hb3:(i:Int)<=(ls.length:Int)+1:=by omega
 unfold maxLen at h4 hG2
 go_enter Tryz.func320,Tryz.ntmps320
 go_wp2_with (first
  | (at_builtin;refine Lib.wpList_append_run _ rfl _ _ _ _ rfl _ _ rfl rfl _ _ (hrz _) ?_)
  | (at_builtin;refine ze4 _ rfl _ _ 191 rfl _ _ rfl rfl (hcpA _ _) ?_))
 go_region_law (refine zfy rfl _ _ 191 rfl _ _ (by simp [Act.eval,Act.put]) (by simp [Act.eval,Act.put]) (hcpB _ rfl _ _ _) ?_)
 go_wp2
 go_ret
 exact⟨_,rfl,HOWN.out,HGR.out,Or.inr ⟨_,rfl,Nat.le_refl _⟩⟩
theorem zi2(base g c g2 i:Nat)(ls:List El)(e:El)(w:World)(hB:base<=w.heap.size)(h:w.ownsRow base 373 6 (.slice (some ⟨g,0,none⟩) ls.length c) ls.length (flat El.cells ls))(h2:Blk w g2 #[I e.s.d.o,I e.s.d.s,I e.s.d.i,I e.s.t,I e.v, .bool e.x] 373)(hne:g2 ≠ g)(hl:ls.length<=1048576)(hi:i<=ls.length):
  Calls Tryz.prog 320 #[.slice (some ⟨g,0,none⟩) ls.length c,I i, .slice (some ⟨g2,0,none⟩) 1 1] w fun r w'=>InsOk w base (.slice (some ⟨g,0,none⟩) ls.length c) (insL ls i e) r w':=by
 by_cases hlt:i<ls.length
 ·by_cases hc:ls.length+1<=c
  ·exact znl base g c g2 i ls e w h h2 hne hl hlt hc
  ·exact znm base g c g2 i ls e w hB h h2 hl hlt (by omega)
 ·obtain rfl:i=ls.length:=by omega
  have hc:ls.length<=c:=by
   rcases h.2 with⟨e1,_⟩ | ⟨g',cap',cur,e1,hb,hg,h3,h4,hz,ht⟩
   ·cases e1
   ·cases e1;exact h3
  have:=zqg base g c g2 ls e w hB h h2 hl hc
  rw [show insL ls ls.length e=ls++ [e] by simp [insL]]
  exact this
def zdl(s:Stp)(e:El):Bool:=zi0 e.s s
def headL(ls:List El)(d:Wv.Dt):Nat:=(1+zax (dotIs d) ls).toNat
def zeq(ls:List El)(s:Stp)(d:Wv.Dt):Nat:=headL ls d+((ls.drop (headL ls d)).takeWhile (zdl s)).length
def putL(ls:List El)(x:El)(d:Wv.Dt):List El:=insL ls (zeq ls x.s d) x
theorem zk5(f:El->Bool)(ls:List El): -1<=zax f ls∧zax f ls<ls.length:=by
 unfold zax
 split
 ·rename_i k hk
  obtain⟨h,_⟩:=List.findIdx?_eq_some_iff_getElem.1 hk
  omega
 ·omega
theorem znp(ls:List El)(d:Wv.Dt):headL ls d<=ls.length:=by
 have:=zk5 (dotIs d) ls
 unfold headL
 omega
theorem zuf(ls:List El)(d:Wv.Dt):1+zax (dotIs d) ls=(headL ls d:Int):=by
 have:=zk5 (dotIs d) ls
 unfold headL
 omega
theorem zc1{α:Type}(f:α->Bool):∀(l:List α) (k:Nat),k<=l.length->(∀j (hj:j<l.length),j<k->f l[j]=true)->(∀hk:k<l.length,f l[k]=false)->(l.takeWhile f).length=k
 | [],k,h,_,_=>by simp at h;simp [h]
 | x::l,0,_,_,h=>by
  have:f x=false:=h (by simp)
  simp [this]
 | x::l,k+1,hk,h1,h2=>by
  have hx:f x=true:=h1 0 (by simp) (by omega)
  rw [List.takeWhile_cons,hx]
  simp only [if_true,List.length_cons]
  rw [zc1 f l k (by simpa using hk) (fun j hj hlt=>h1 (j+1) (by simpa using hj) (by omega)) (fun hk'=>h2 (by simpa using hk'))]
theorem zm3(ls:List El)(s:Stp)(d:Wv.Dt)(k:Nat)(h0:headL ls d<=k)(hk:k<=ls.length)(h1:∀j (hj:j<ls.length),headL ls d<=j->j<k->zdl s ls[j]=true)(h2:∀hk:k<ls.length,zdl s ls[k]=false):zeq ls s d=k:=by
 unfold zeq
 rw [zc1 (zdl s) (ls.drop (headL ls d)) (k - headL ls d) (by rw [List.length_drop];omega) (fun j hj hlt=>by
  rw [List.length_drop] at hj
  rw [List.getElem_drop]
  exact h1 _ (by omega) (by omega) (by omega)) (fun hk'=>by
  rw [List.length_drop] at hk'
  rw [List.getElem_drop]
  have:=h2 (by omega)
  simp only [show headL ls d+(k - headL ls d)=k by omega]
  exact this)]
 omega
theorem ztk(ls:List El)(s:Stp)(d:Wv.Dt):zeq ls s d<=ls.length:=by
 unfold zeq
 have h1:=znp ls d
 have h2:=(List.takeWhile_sublist (zdl s) (l:=ls.drop (headL ls d))).length_le
 rw [List.length_drop] at h2
 omega
def PutOk(w:World)(p base:Nat)(v:Value)(ls:List El)(e:Ending)(w':World):Prop:=∃v',e= .returned (.tuple #[])∧LsOwn w' p base v' ls∧Tch (fun k=>k=p∨v.ownBlock=some k) w w'∧(v'.ownBlock=v.ownBlock∨∃b,v'.ownBlock=some b∧w.heap.size<=b)
abbrev xdC (w:World) (x:El) (d:Wv.Dt):World:=(w.alloc (.cells #[I x.s.d.o,I x.s.d.s,I x.s.d.i,I x.s.t,I x.v, .bool x.x] 373)).alloc (.cells #[I d.o,I d.s,I d.i] 146)
theorem zd8(w:World)(x:El)(d:Wv.Dt):Below w.heap.size w (xdC w x d):=((Below.refl _ _).alloc (Nat.le_refl _) _).alloc (by simp) _
theorem zrq{w wA w3:World}{p base g c k:Nat}{ls:List El}{x:El}{d:Wv.Dt}{v3:Value}(hb:Below w.heap.size w wA)(hT:Tch (fun j=>j=g) wA w3)(hB3:Blk w3 p #[.slice (some ⟨g,0,none⟩) ls.length c] 193)
  (hown:w3.ownsRow base 373 6 v3 (insL ls k x).length (flat El.cells (insL ls k x))) (hat:v3.ownBlock=(Value.slice (some ⟨g,0,none⟩) ls.length c).ownBlock∨∃b,v3.ownBlock=some b∧wA.heap.size<=b) (hpg:p ≠ g) (hpw:p<w.heap.size) (hP:zeq ls x.s d=k) (hbp:base<=p):
  PutOk w p base (.slice (some ⟨g,0,none⟩) ls.length c) (putL ls x d) (.returned (.tuple #[])) (w3.setCell ⟨p,0,none⟩ v3):=by
 have hs:=hb.size
 have hpb:∀b,v3.ownBlock=some b->b ≠ p:=fun b e=>by
  rcases hat with h | ⟨b',h,hl⟩
  ·rw [e] at h
   have:b=g:=by simpa [Value.ownBlock] using h
   rw [this];exact hpg.symm
  ·rw [e] at h;cases h;omega
 have hrow:(w3.setCell ⟨p,0,none⟩ v3).ownsRow base 373 6 v3 (insL ls k x).length (flat El.cells (insL ls k x)):=
  hown.kept (row:=some p) ⟨rfl,rfl,rfl,by simp,fun j _ hj=>heap_setCell_other _ ⟨p,0,none⟩ j _ (fun e=>hj (by rw [e]))⟩ (by
   cases hv:v3.ownBlock with
   | none=>exact Or.inl rfl
   | some b=>exact Or.inr (fun e=>hpb b hv (by simpa using e)))
 refine⟨v3,rfl,⟨hB3.set 0 _, ?_,hbp⟩, ?_,hat.imp id (fun⟨b,e,h⟩=>⟨b,e,by omega⟩)⟩
 ·unfold putL;rw [hP];exact hrow
 ·refine Tch.setCell ?_ _ _ (Or.inl (Or.inl rfl))
  exact(Tch.below hb).trans hT (fun _ _ h=>h) (fun j _ h=>Or.inr (by rw [h];rfl))
theorem ztu(p base g c:Nat)(x:El)(d:Wv.Dt)(ls:List El)(w:World)(hB:base<=w.heap.size)(h:LsOwn w p base (.slice (some ⟨g,0,none⟩) ls.length c) ls)(hl:ls.length<=1048576):
  Calls Tryz.prog 315 #[.pointer (some ⟨p,0,none⟩),elV x,dotV d] w fun e w'=>PutOk w p base (.slice (some ⟨g,0,none⟩) ls.length c) (putL ls x d) e w':=by
 have HL:Hid (LsOwn w p base (.slice (some ⟨g,0,none⟩) ls.length c) ls):=h
 have HX:Hid (Blk (xdC w x d) w.heap.size #[I x.s.d.o,I x.s.d.s,I x.s.d.i,I x.s.t,I x.v, .bool x.x] 373):=Blk.alloc (heap_alloc_new w _) _
 have HA:Hid (At (xdC w x d) (some ⟨g,0,none⟩) (flat El.cells ls)):=by
  obtain⟨a,c',e,_,_,hat⟩:=(HL.out.kept (zd8 w x d)).form
  cases e
  exact hat
 have hcA:(xdC w x d).cell? ⟨p,0,none⟩=some (.slice (some ⟨g,0,none⟩) ls.length c):=(HL.out.kept (zd8 w x d)).blk.cell 0
 have hgw:g<w.heap.size:=(h.row.lt g rfl).2
 have HPW:Hid (p<w.heap.size):=h.blk.lt
 clear h
 go_enter Tryz.func315,Tryz.ntmps315
 go_wp2_with fail
 refine(zjm p d (some ⟨g,0,none⟩) c ls (xdC w x d) hcA HA.out hl).mono ?_
 rintro e w1 ⟨rfl,hb1⟩
 have HB1:Hid (Below w.heap.size w w1):=(zd8 w x d).trans (hb1.mono (by simp;omega))
 have HX1:Hid (Blk w1 w.heap.size #[I x.s.d.o,I x.s.d.s,I x.s.d.i,I x.s.t,I x.v, .bool x.x] 373):=HX.out.kept hb1 HX.out.lt
 clear hb1 HX HA hcA
 rw [zuf]
 have hk0:=znp ls d
 go_wp2_with fail
 go_loopw [6] (fun v wr=>∃k:Nat,headL ls d<=k∧k<=ls.length∧v=I k∧Hid (∀j (hj:j<ls.length),headL ls d<=j->j<k->zdl x.s ls[j]=true)∧Hid (Below w.heap.size w wr)∧Hid (Blk wr w.heap.size #[I x.s.d.o,I x.s.d.s,I x.s.d.i,I x.s.t,I x.v, .bool x.x] 373)) (fun v _=>ls.length - (intOf v).toNat)
 case atStart=>exact⟨_,Nat.le_refl _,hk0,rfl,fun j hj h1 h2=>absurd h1 (by omega),HB1,HX1⟩
 case round=>
  obtain⟨k,hk1,hk,rfl,HN,HB,HX⟩:=hrel
  clear HB1 HX1
  have c0:wr.cell? ⟨p,0,none⟩=some (.slice (some ⟨g,0,none⟩) ls.length c):=zaa HB.out (HL.out.blk.cell 0)
  by_cases hlt:k<ls.length
  ·have HRW:Hid (Rw wr g ls):=(Rw.of_own rfl (HL.out.kept HB.out).row).1
   obtain⟨e0,e1,e2,e3,_,_⟩:=HRW.out.els k hlt
   simp only [Nat.zero_add] at e0 e1 e2 e3
   have x0:wr.cell? ⟨w.heap.size,0,none⟩=some (I x.s.d.o):=HX.out.cell 0
   have x1:wr.cell? ⟨w.heap.size,1,none⟩=some (I x.s.d.s):=HX.out.cell 1
   have x2:wr.cell? ⟨w.heap.size,2,none⟩=some (I x.s.d.i):=HX.out.cell 2
   have x3:wr.cell? ⟨w.heap.size,3,none⟩=some (I x.s.t):=HX.out.cell 3
   have HLT:Hid (zdl x.s ls[k]=zi0 ls[k].s x.s):=rfl
   have hki:(k:Int)<ls.length:=by omega
   generalize ls[k].s=es at *
   go_wp2_with fail
   go_region_held3 (fun w'=>w'.cell? ⟨p,0,none⟩=some (.slice (some ⟨g,0,none⟩) ls.length c)∧w'.cell? ⟨g,k*6,none⟩=some (I es.d.o)∧w'.cell? ⟨g,k*6+1,none⟩=some (I es.d.s)∧w'.cell? ⟨g,k*6+2,none⟩=some (I es.d.i)∧w'.cell? ⟨g,k*6+3,none⟩=some (I es.t)∧w'.cell? ⟨w.heap.size,0,none⟩=some (I x.s.d.o)∧w'.cell? ⟨w.heap.size,1,none⟩=some (I x.s.d.s)∧w'.cell? ⟨w.heap.size,2,none⟩=some (I x.s.d.i)∧w'.cell? ⟨w.heap.size,3,none⟩=some (I x.s.t)) (first | go_keep | (refine⟨zaa hb0 ?_,zaa hb0 ?_,zaa hb0 ?_,zaa hb0 ?_,zaa hb0 ?_,zaa hb0 ?_,zaa hb0 ?_,zaa hb0 ?_,zaa hb0 ?_⟩<;>go_keep))
    (first | (go_at_call 319;refine(ztz es x.s _).mono ?_;rintro e w1 ⟨rfl,hb0⟩))
   have HBA1:Hid (Below w.heap.size w w1):=HB.out.trans ((Below.refl _ _).drew.trans hb0 |>.mono HB.out.size)
   have HXA1:Hid (Blk w1 w.heap.size #[I x.s.d.o,I x.s.d.s,I x.s.d.i,I x.s.t,I x.v, .bool x.x] 373):=HX.out.kept ((Below.refl _ _).drew.trans hb0) HX.out.lt
   clear HB HX c0 hb0
   generalize zi0 es x.s=bl at *
   cases bl
   ·have HP:Hid (zeq ls x.s d=k):=zm3 ls x.s d k hk1 hk HN.out (fun _=>HLT.out)
    have HBA:=HBA1
    have HXA:=HXA1
    clear HBA1 HXA1
    generalize w1=wA at *
    have HLA:Hid (LsOwn wA p base (.slice (some ⟨g,0,none⟩) ls.length c) ls):=HL.out.kept HBA.out
    have hsA:=HBA.out.size
    have cA:wA.cell? ⟨p,0,none⟩=some (.slice (some ⟨g,0,none⟩) ls.length c):=HLA.out.blk.cell 0
    have y0:wA.cell? ⟨w.heap.size,0,none⟩=some (I x.s.d.o):=HXA.out.cell 0
    have y1:wA.cell? ⟨w.heap.size,1,none⟩=some (I x.s.d.s):=HXA.out.cell 1
    have y2:wA.cell? ⟨w.heap.size,2,none⟩=some (I x.s.d.i):=HXA.out.cell 2
    have y3:wA.cell? ⟨w.heap.size,3,none⟩=some (I x.s.t):=HXA.out.cell 3
    have y4:wA.cell? ⟨w.heap.size,4,none⟩=some (I x.v):=HXA.out.cell 4
    have y5:wA.cell? ⟨w.heap.size,5,none⟩=some (.bool x.x):=HXA.out.cell 5
    have hrowA:wA.ownsRow base 373 6 (.slice (some ⟨g,0,none⟩) ls.length c) ls.length (flat El.cells ls):=HLA.out.row
    have hpA:p ≠ g:=HLA.out.ne
    go_wp2_with fail
    obtain⟨W3,hW3⟩:∃W3,W3=wA.drew.alloc (.cells #[I x.s.d.o,I x.s.d.s,I x.s.d.i,I x.s.t,I x.v, .bool x.x] 373):=⟨_,rfl⟩
    have hr3:W3.ownsRow base 373 6 (.slice (some ⟨g,0,none⟩) ls.length c) ls.length (flat El.cells ls):=by rw [hW3];exact(hrowA.drew).alloc _
    have hx3:Blk W3 wA.heap.size #[I x.s.d.o,I x.s.d.s,I x.s.d.i,I x.s.t,I x.v, .bool x.x] 373:=by rw [hW3];exact heap_alloc_new wA.drew _
    have hT3:Tch (fun j=>j=g) wA W3:=by rw [hW3];exact(Tch.refl _ wA).drew.alloc _
    have HIN:Hid (Calls Tryz.prog 320 #[.slice (some ⟨g,0,none⟩) ls.length c,I k, .slice (some ⟨wA.heap.size,0,none⟩) 1 1] W3 fun r w'=>InsOk W3 base (.slice (some ⟨g,0,none⟩) ls.length c) (insL ls k x) r w'):=zi2 base g c wA.heap.size k ls x W3 (by have:=hT3.size;omega) hr3 hx3 (by omega) hl hk
    have HT3:Hid (Tch (fun j=>j=g) wA W3):=hT3
    have HBL:Hid (Blk wA p #[.slice (some ⟨g,0,none⟩) ls.length c] 193):=HLA.out.blk
    clear hr3 hx3 hT3 hrowA
    rw [hW3] at HIN HT3
    clear hW3 W3
    have cA2:(wA.alloc (.cells #[I x.s.d.o,I x.s.d.s,I x.s.d.i,I x.s.t,I x.v, .bool x.x] 373)).cell? ⟨p,0,none⟩=some (.slice (some ⟨g,0,none⟩) ls.length c):=(HBL.out.alloc _).cell 0
    clear hsA hgw hk0
    go_region_law ((go_simp;go_at_call 320;refine HIN.out.mono ?_;rintro e w3 ⟨v3,rfl,hown3,hgr3,hat3⟩;obtain⟨a3,m3,cc3,rfl⟩:=zcp hown3;have HT4:Hid (Tch (fun j=>j=g) wA w3):=HT3.out.trans (Tch.grown hgr3) (fun _ _ h=>h) (fun j _ h=>by simpa [Value.ownBlock] using h.symm);have HOW:Hid (w3.ownsRow base 373 6 (.slice a3 m3 cc3) (insL ls k x).length (flat El.cells (insL ls k x))):=hown3;have HAT:Hid ((Value.slice a3 m3 cc3).ownBlock=(Value.slice (some ⟨g,0,none⟩) ls.length c).ownBlock∨∃b,(Value.slice a3 m3 cc3).ownBlock=some b∧wA.heap.size<=b):=hat3.imp id (fun⟨b,e,h⟩=>⟨b,e,by simp at h;omega⟩);have HB3:Hid (Blk w3 p #[.slice (some ⟨g,0,none⟩) ls.length c] 193):=HT4.out.blk HBL.out hpA;have c3:w3.cell? ⟨p,0,none⟩=some (.slice (some ⟨g,0,none⟩) ls.length c):=HB3.out.cell 0;have z3:w3.frozen? ⟨p,0,none⟩=false:=HB3.out.frozen 0;clear hown3 hgr3 hat3))
    all_goals
     (go_end0
      exact zrq HBA.out HT4.out HB3.out HOW.out HAT.out hpA HPW.out HP.out HL.out.le)
   ·go_wp2_with fail
    go_roundw
    case rel=>
     refine⟨k+1,by omega,hlt,by go_num,fun j hj h1 h2=> ?_,HBA1,HXA1⟩
     by_cases hjk:j=k
     ·subst hjk;exact HLT.out
     ·exact HN.out j hj h1 (by omega)
    case measure=>simp [intOf];omega
  ·have HP:Hid (zeq ls x.s d=k):=zm3 ls x.s d k hk1 hk HN.out (fun h=>absurd h hlt)
   go_wp2_with fail
   go_quiet (fail)
   have HBA:Hid (Below w.heap.size w (wr.drewN nq)):=zal HB.out nq
   have HXA:Hid (Blk (wr.drewN nq) w.heap.size #[I x.s.d.o,I x.s.d.s,I x.s.d.i,I x.s.t,I x.v, .bool x.x] 373):=HX.out
   clear HB HX c0
   generalize wr.drewN nq=wA at *
   have HLA:Hid (LsOwn wA p base (.slice (some ⟨g,0,none⟩) ls.length c) ls):=HL.out.kept HBA.out
   have hsA:=HBA.out.size
   have cA:wA.cell? ⟨p,0,none⟩=some (.slice (some ⟨g,0,none⟩) ls.length c):=HLA.out.blk.cell 0
   have y0:wA.cell? ⟨w.heap.size,0,none⟩=some (I x.s.d.o):=HXA.out.cell 0
   have y1:wA.cell? ⟨w.heap.size,1,none⟩=some (I x.s.d.s):=HXA.out.cell 1
   have y2:wA.cell? ⟨w.heap.size,2,none⟩=some (I x.s.d.i):=HXA.out.cell 2
   have y3:wA.cell? ⟨w.heap.size,3,none⟩=some (I x.s.t):=HXA.out.cell 3
   have y4:wA.cell? ⟨w.heap.size,4,none⟩=some (I x.v):=HXA.out.cell 4
   have y5:wA.cell? ⟨w.heap.size,5,none⟩=some (.bool x.x):=HXA.out.cell 5
   have hrowA:wA.ownsRow base 373 6 (.slice (some ⟨g,0,none⟩) ls.length c) ls.length (flat El.cells ls):=HLA.out.row
   have hpA:p ≠ g:=HLA.out.ne
   go_wp2_with fail
   obtain⟨W3,hW3⟩:∃W3,W3=wA.drew.alloc (.cells #[I x.s.d.o,I x.s.d.s,I x.s.d.i,I x.s.t,I x.v, .bool x.x] 373):=⟨_,rfl⟩
   have hr3:W3.ownsRow base 373 6 (.slice (some ⟨g,0,none⟩) ls.length c) ls.length (flat El.cells ls):=by rw [hW3];exact(hrowA.drew).alloc _
   have hx3:Blk W3 wA.heap.size #[I x.s.d.o,I x.s.d.s,I x.s.d.i,I x.s.t,I x.v, .bool x.x] 373:=by rw [hW3];exact heap_alloc_new wA.drew _
   have hT3:Tch (fun j=>j=g) wA W3:=by rw [hW3];exact(Tch.refl _ wA).drew.alloc _
   have HIN:Hid (Calls Tryz.prog 320 #[.slice (some ⟨g,0,none⟩) ls.length c,I k, .slice (some ⟨wA.heap.size,0,none⟩) 1 1] W3 fun r w'=>InsOk W3 base (.slice (some ⟨g,0,none⟩) ls.length c) (insL ls k x) r w'):=zi2 base g c wA.heap.size k ls x W3 (by have:=hT3.size;omega) hr3 hx3 (by omega) hl hk
   have HT3:Hid (Tch (fun j=>j=g) wA W3):=hT3
   have HBL:Hid (Blk wA p #[.slice (some ⟨g,0,none⟩) ls.length c] 193):=HLA.out.blk
   clear hr3 hx3 hT3 hrowA
   rw [hW3] at HIN HT3
   clear hW3 W3
   have cA2:(wA.alloc (.cells #[I x.s.d.o,I x.s.d.s,I x.s.d.i,I x.s.t,I x.v, .bool x.x] 373)).cell? ⟨p,0,none⟩=some (.slice (some ⟨g,0,none⟩) ls.length c):=(HBL.out.alloc _).cell 0
   clear hsA hgw hk0
   go_region_law ((go_simp;go_at_call 320;refine HIN.out.mono ?_;rintro e w3 ⟨v3,rfl,hown3,hgr3,hat3⟩;obtain⟨a3,m3,cc3,rfl⟩:=zcp hown3;have HT4:Hid (Tch (fun j=>j=g) wA w3):=HT3.out.trans (Tch.grown hgr3) (fun _ _ h=>h) (fun j _ h=>by simpa [Value.ownBlock] using h.symm);have HOW:Hid (w3.ownsRow base 373 6 (.slice a3 m3 cc3) (insL ls k x).length (flat El.cells (insL ls k x))):=hown3;have HAT:Hid ((Value.slice a3 m3 cc3).ownBlock=(Value.slice (some ⟨g,0,none⟩) ls.length c).ownBlock∨∃b,(Value.slice a3 m3 cc3).ownBlock=some b∧wA.heap.size<=b):=hat3.imp id (fun⟨b,e,h⟩=>⟨b,e,by simp at h;omega⟩);have HB3:Hid (Blk w3 p #[.slice (some ⟨g,0,none⟩) ls.length c] 193):=HT4.out.blk HBL.out hpA;have c3:w3.cell? ⟨p,0,none⟩=some (.slice (some ⟨g,0,none⟩) ls.length c):=HB3.out.cell 0;have z3:w3.frozen? ⟨p,0,none⟩=false:=HB3.out.frozen 0;clear hown3 hgr3 hat3))
   all_goals
    (go_end0
     exact zrq HBA.out HT4.out HB3.out HOW.out HAT.out hpA HPW.out HP.out HL.out.le)
theorem zw0(p base:Nat)(x:El)(d:Wv.Dt)(w:World)(hB:base<=w.heap.size)(h:LsOwn w p base (.slice none 0 0) []):
  Calls Tryz.prog 315 #[.pointer (some ⟨p,0,none⟩),elV x,dotV d] w fun e w'=>PutOk w p base (.slice none 0 0) (putL [] x d) e w':=by
 have HL:Hid (LsOwn w p base (.slice none 0 0) []):=h
 have HX:Hid (Blk (xdC w x d) w.heap.size #[I x.s.d.o,I x.s.d.s,I x.s.d.i,I x.s.t,I x.v, .bool x.x] 373):=Blk.alloc (heap_alloc_new w _) _
 have HA:Hid (At (xdC w x d) none (flat El.cells [])):=fun j u hj=>by simp [flat] at hj
 have hcA:(xdC w x d).cell? ⟨p,0,none⟩=some (.slice none ([]:List El).length 0):=(HL.out.kept (zd8 w x d)).blk.cell 0
 have HPW:Hid (p<w.heap.size):=h.blk.lt
 clear h
 go_enter Tryz.func315,Tryz.ntmps315
 go_wp2_with fail
 refine(zjm p d none 0 [] (xdC w x d) hcA HA.out (by simp)).mono ?_
 rintro e w1 ⟨rfl,hb1⟩
 have HB1:Hid (Below w.heap.size w w1):=(zd8 w x d).trans (hb1.mono (by simp;omega))
 have HX1:Hid (Blk w1 w.heap.size #[I x.s.d.o,I x.s.d.s,I x.s.d.i,I x.s.t,I x.v, .bool x.x] 373):=HX.out.kept hb1 HX.out.lt
 clear hb1 HX HA hcA
 rw [show 1+zax (dotIs d) []=0 from rfl]
 go_wp2_with fail
 go_loopw [6] (fun v wr=>v=I 0∧Hid (Below w.heap.size w wr)∧Hid (Blk wr w.heap.size #[I x.s.d.o,I x.s.d.s,I x.s.d.i,I x.s.t,I x.v, .bool x.x] 373)) (fun v _=>0)
 case atStart=>exact⟨rfl,HB1,HX1⟩
 case round=>
  obtain⟨rfl,HB,HX⟩:=hrel
  clear HB1 HX1
  have c0:wr.cell? ⟨p,0,none⟩=some (.slice none 0 0):=zaa HB.out (HL.out.blk.cell 0)
  go_wp2_with fail
  go_quiet (fail)
  have HBA:Hid (Below w.heap.size w (wr.drewN nq)):=zal HB.out nq
  have HXA:Hid (Blk (wr.drewN nq) w.heap.size #[I x.s.d.o,I x.s.d.s,I x.s.d.i,I x.s.t,I x.v, .bool x.x] 373):=HX.out
  clear HB HX c0
  generalize wr.drewN nq=wA at *
  have HLA:Hid (LsOwn wA p base (.slice none 0 0) []):=HL.out.kept HBA.out
  have cA:wA.cell? ⟨p,0,none⟩=some (.slice none 0 0):=HLA.out.blk.cell 0
  have y0:wA.cell? ⟨w.heap.size,0,none⟩=some (I x.s.d.o):=HXA.out.cell 0
  have y1:wA.cell? ⟨w.heap.size,1,none⟩=some (I x.s.d.s):=HXA.out.cell 1
  have y2:wA.cell? ⟨w.heap.size,2,none⟩=some (I x.s.d.i):=HXA.out.cell 2
  have y3:wA.cell? ⟨w.heap.size,3,none⟩=some (I x.s.t):=HXA.out.cell 3
  have y4:wA.cell? ⟨w.heap.size,4,none⟩=some (I x.v):=HXA.out.cell 4
  have y5:wA.cell? ⟨w.heap.size,5,none⟩=some (.bool x.x):=HXA.out.cell 5
  go_wp2_with fail
  obtain⟨W3,hW3⟩:∃W3,W3=wA.drew.alloc (.cells #[I x.s.d.o,I x.s.d.s,I x.s.d.i,I x.s.t,I x.v, .bool x.x] 373):=⟨_,rfl⟩
  have hx3:Blk W3 wA.heap.size #[I x.s.d.o,I x.s.d.s,I x.s.d.i,I x.s.t,I x.v, .bool x.x] 373:=by rw [hW3];exact heap_alloc_new wA.drew _
  have hT3:Tch (fun _=>False) wA W3:=by rw [hW3];exact(Tch.refl _ wA).drew.alloc _
  have HIN:Hid (Calls Tryz.prog 320 #[.slice none 0 0,I 0, .slice (some ⟨wA.heap.size,0,none⟩) 1 1] W3 fun r w'=>InsOk W3 base (.slice none 0 0) [x] r w'):=zqf base wA.heap.size x W3 (by have:=hT3.size;have:=HBA.out.size;omega) hx3
  have HT3:Hid (Tch (fun _=>False) wA W3):=hT3
  have HBL:Hid (Blk wA p #[.slice none 0 0] 193):=HLA.out.blk
  clear hx3 hT3
  rw [hW3] at HIN HT3
  clear hW3 W3
  have cA2:(wA.alloc (.cells #[I x.s.d.o,I x.s.d.s,I x.s.d.i,I x.s.t,I x.v, .bool x.x] 373)).cell? ⟨p,0,none⟩=some (.slice none 0 0):=(HBL.out.alloc _).cell 0
  go_region_law ((go_simp;go_at_call 320;refine HIN.out.mono ?_;rintro e w3 ⟨v3,rfl,hown3,hgr3,hat3⟩;obtain⟨a3,m3,cc3,rfl⟩:=zcp hown3;have HT4:Hid (Tch (fun _=>False) wA w3):=HT3.out.trans (Tch.grown hgr3) (fun _ _ h=>h) (fun j _ h=>by simp [Value.ownBlock] at h);have HOW:Hid (w3.ownsRow base 373 6 (.slice a3 m3 cc3) 1 (flat El.cells [x])):=hown3;have HAT:Hid ((Value.slice a3 m3 cc3).ownBlock=(Value.slice none 0 0).ownBlock∨∃b,(Value.slice a3 m3 cc3).ownBlock=some b∧wA.heap.size<=b):=hat3.imp id (fun⟨b,e,h⟩=>⟨b,e,by simp at h;omega⟩);have HB3:Hid (Blk w3 p #[.slice none 0 0] 193):=HT4.out.blk HBL.out id;have c3:w3.cell? ⟨p,0,none⟩=some (.slice none 0 0):=HB3.out.cell 0;have z3:w3.frozen? ⟨p,0,none⟩=false:=HB3.out.frozen 0;clear hown3 hgr3 hat3))
  all_goals
   (go_end0
    have hs:=HBA.out.size
    have hpw:=HPW.out
    have hpb:∀b,(Value.slice a3 m3 cc3).ownBlock=some b->b ≠ p:=fun b e=>by
     rcases HAT.out with h | ⟨b',h,hl⟩
     ·rw [e] at h;cases h
     ·rw [e] at h;cases h;omega
    refine⟨_,rfl,⟨HB3.out.set 0 _, ?_,HL.out.le⟩, ?_,HAT.out.imp id (fun⟨b,e,h⟩=>⟨b,e,by omega⟩)⟩
    ·exact zah HOW.out (fun b e=>heap_setCell_other _ ⟨p,0,none⟩ b _ (hpb b e))
    ·refine Tch.setCell ?_ _ _ (Or.inl (Or.inl rfl))
     exact(Tch.below HBA.out).trans HT4.out (fun _ _ h=>h) (fun _ _ h=>h.elim))
theorem zw1(p base:Nat)(v:Value)(x:El)(d:Wv.Dt)(ls:List El)(w:World)(hB:base<=w.heap.size)(h:LsOwn w p base v ls)(hl:ls.length<=1048576):
  Calls Tryz.prog 315 #[.pointer (some ⟨p,0,none⟩),elV x,dotV d] w fun e w'=>PutOk w p base v (putL ls x d) e w':=by
 rcases h.row.2 with⟨rfl,hz⟩ | ⟨g,cap,cur,rfl,_⟩
 ·obtain rfl:ls= []:=List.eq_nil_of_length_eq_zero hz
  exact zw0 p base x d w hB h
 ·exact ztu p base g cap x d ls w hB h hl
theorem zpw(p base:Nat)(d:Wv.Dt)(w:World)(h:LsOwn w p base (.slice none 0 0) []):
  Calls Tryz.prog 316 #[.pointer (some ⟨p,0,none⟩),dotV d] w fun e w'=>zmb w p base (.slice none 0 0) [] e w':=by
 have HL:Hid (LsOwn (w.alloc (.cells #[I d.o,I d.s,I d.i] 146)) p base (.slice none 0 0) []):=h.kept ((Below.refl _ _).alloc (Nat.le_refl _) _)
 have HG:Hid (w.grownBy (w.alloc (.cells #[I d.o,I d.s,I d.i] 146)) none):=World.grownBy_alloc w _ _
 have c0:(w.alloc (.cells #[I d.o,I d.s,I d.i] 146)).cell? ⟨p,0,none⟩=some (.slice none 0 0):=HL.out.blk.cell 0
 clear h
 go_enter Tryz.func316,Tryz.ntmps316
 go_wp2_with fail
 generalize w.alloc (.cells #[I d.o,I d.s,I d.i] 146)=wA at *
 go_loopw [10] (fun x wr=>x=I 0∧wr=wA) (fun _ _=>0)
 case atStart=>exact⟨rfl,rfl⟩
 case round=>
  obtain⟨rfl,rfl⟩:=hrel
  go_wp2
  go_end0
  exact⟨rfl,HL.out,HG.out⟩
theorem zpx(p base:Nat)(v:Value)(d:Wv.Dt)(ls:List El)(w:World)(h:LsOwn w p base v ls)(hl:ls.length<=1048576):
  Calls Tryz.prog 316 #[.pointer (some ⟨p,0,none⟩),dotV d] w fun e w'=>zmb w p base v (ls.map (markE d)) e w':=by
 rcases h.row.2 with⟨rfl,hz⟩ | ⟨g,cap,cur,rfl,_⟩
 ·obtain rfl:ls= []:=List.eq_nil_of_length_eq_zero hz
  exact zpw p base d w h
 ·exact zng p base g cap d ls w h hl
def takeL(ls:List El)(s:Stp)(e:Wv.Ef):List El:=if e.op=5 then putL ls ⟨s,e.va,false⟩ e.ref else if e.op=6 then ls.map (markE e.ref) else ls
theorem zts(p base:Nat)(v:Value)(s:Stp)(m:Em)(ls:List El)(w:World)(hB:base<=w.heap.size)(h:LsOwn w p base v ls)(hl:ls.length<=1048576):
  Calls Tryz.prog 310 #[.pointer (some ⟨p,0,none⟩),stV s,effV m] w fun e w'=>PutOk w p base v (takeL ls s m.e) e w':=by
 have HL:Hid (LsOwn (twoC w s m) p base v ls):=h.kept (za0 w s m)
 have hs:w.heap.size<=(twoC w s m).heap.size:=(za0 w s m).size
 go_enter Tryz.func310,Tryz.ntmps310
 by_cases h5:m.e.op=5
 ·have HT:Hid (twoC w s m=(w.alloc (.cells #[I s.d.o,I s.d.s,I s.d.i,I s.t] 198)).alloc (.cells #[I 5,I m.e.ob,I m.e.va,I m.e.ref.o,I m.e.ref.s,I m.e.ref.i, .slice m.da m.e.dots.length m.dc] 149)):=by show _=_;unfold twoC;rw [h5]
  have HV:Hid (takeL ls s m.e=putL ls ⟨s,m.e.va,false⟩ m.e.ref):=by show _=_;unfold takeL;rw [if_pos h5]
  go_wp2_with fail
  rw [←HT.out]
  refine(zw1 p base v ⟨s,m.e.va,false⟩ m.e.ref ls (twoC w s m) (by omega) HL.out hl).mono ?_
  rintro e w1 ⟨v1,rfl,hL1,hT1,hA1⟩
  have HE:Hid (PutOk w p base v (takeL ls s m.e) (.returned (.tuple #[])) w1):=⟨v1,rfl,by rw [HV.out];exact hL1,(Tch.below (za0 w s m)).trans hT1 (fun _ _ h=>h) (fun _ _ h=>h),hA1.imp id (fun⟨b,e,h⟩=>⟨b,e,by omega⟩)⟩
  clear hL1 hT1 hA1
  go_wp2
  go_end0
  exact HE.out
 ·by_cases h6:m.e.op=6
  ·have HT:Hid (twoC w s m=(w.alloc (.cells #[I s.d.o,I s.d.s,I s.d.i,I s.t] 198)).alloc (.cells #[I 6,I m.e.ob,I m.e.va,I m.e.ref.o,I m.e.ref.s,I m.e.ref.i, .slice m.da m.e.dots.length m.dc] 149)):=by show _=_;unfold twoC;rw [h6]
   have HV:Hid (takeL ls s m.e=ls.map (markE m.e.ref)):=by show _=_;unfold takeL;rw [if_neg h5,if_pos h6]
   go_wp2_with fail
   rw [←HT.out]
   refine(zpx p base v m.e.ref ls (twoC w s m) HL.out hl).mono ?_
   rintro e w1 ⟨rfl,hL1,hT1⟩
   have HE:Hid (PutOk w p base v (takeL ls s m.e) (.returned (.tuple #[])) w1):=⟨v,rfl,by rw [HV.out];exact hL1,(Tch.below (za0 w s m)).trans (Tch.grown hT1) (fun _ _ h=>h) (fun _ _ h=>Or.inr h),Or.inl rfl⟩
   clear hL1 hT1
   go_wp2
   go_end0
   exact HE.out
  ·have HV:Hid (takeL ls s m.e=ls):=by show _=_;unfold takeL;rw [if_neg h5,if_neg h6]
   go_wp2
   go_end0
   exact⟨v,rfl,by rw [HV.out];exact HL.out,Tch.below (za0 w s m),Or.inl rfl⟩
theorem zga{w:World}{ops:Array Oper}{rest:List Oper}{o:Oper}{a:Act}{Q:Exit->Act->World->Prop}(hgd:o.guard=none)(x y:Operand)(t2:TypeId)
  (ho:o.op= .call {callee:= .builtin .delete,args:= #[x,y],argTypes:= #[185,t2]}) (b:Nat) (m:Lv) (d:Wv.Dt) (hx:a.eval x= .map (some b)) (hy:a.eval y=dotV d) (h:MpAt w b m)
  (hh:∀w',MpAt w' b (delD m d)->w.grownBy w' (some b)->wpList Tryz.prog ops Q rest (a.put o.dst (.tuple #[])) w'):
  wpList Tryz.prog ops Q (o::rest) a w:=by
 refine wpList_plain hgd fun K hK=> ?_
 obtain⟨w',hr,h2,h3⟩:=zih d w b o.type t2 m h
 unfold Oper.wp execOp
 simp only [ho,resolve,invoke,builtin,Sem.run_bind,Sem.run_pure,Result.andThen_ok,List.map_toArray,List.map_cons,List.map_nil,hx,hy,hr]
 exact hK _ _ (hh w' h2 h3)
theorem At.tch{w w':World}{a:Option Addr}{cs:List Value}{b:Nat}(h:At w a cs)(hg:Tch (fun j=>j=b) w w')(hm:∀j,w.cell? ⟨b,j,none⟩=none):At w' a cs:=by
 intro j u hj
 obtain⟨p,o,e,hc⟩:=h j u hj
 refine⟨p,o,e,hg.cell hc (fun e=> ?_)⟩
 cases e
 rw [hm] at hc
 cases hc
theorem MpAt.none{w:World}{b:Nat}{m:Lv}(h:MpAt w b m)(j:Nat):w.cell? ⟨b,j,none⟩=none:=by
 obtain⟨es,clock,hb,_⟩:=h
 simp [World.cell?,hb]
def delsD(m:Lv)(ds:List Wv.Dt):Lv:=ds.foldl delD m
theorem zil(b:Nat)(m:Lv)(da:Option Addr)(dc:Nat)(ds:List Wv.Dt)(w:World)(h:MpAt w b m)(hd:At w da (flat zab ds))(hl:ds.length<=1048576):
  Calls Tryz.prog 253 #[.map (some b), .slice da ds.length dc] w fun e w'=>e= .returned (.tuple #[])∧MpAt w' b (delsD m ds)∧Tch (fun j=>j=b) w w':=by
 have HM:Hid (MpAt w b m):=h
 have HD:Hid (At w da (flat zab ds)):=hd
 clear h hd
 go_enter Tryz.func253,Tryz.ntmps253
 go_wp2_with fail
 go_loopw [8] (fun x wr=>∃k:Nat,k<=ds.length∧x=I k∧Hid (MpAt wr b (delsD m (ds.take k)))∧Hid (At wr da (flat zab ds))∧Hid (Tch (fun j=>j=b) w wr)) (fun x _=>ds.length - (intOf x).toNat)
 case atStart=>exact⟨0,Nat.zero_le _,rfl,HM,HD,Tch.refl _ _⟩
 case round=>
  obtain⟨k,hk,rfl,HM2,HD2,HG2⟩:=hrel
  clear HM HD
  by_cases hlt:k<ds.length
  ·obtain⟨p,q,rfl,hp,hc⟩:=zdd HD2.out (by omega)
   obtain⟨e0,e1,e2⟩:=hc k hlt
   have HS:Hid (delsD m (ds.take (k+1))=delD (delsD m (ds.take k)) ds[k]):=by
    show _=_
    unfold delsD
    rw [List.take_succ_eq_append_getElem hlt,List.foldl_append]
    rfl
   have hki:(k:Int)<ds.length:=by omega
   clear hc hp
   generalize ds[k]=d at *
   go_wp2_with (first | (refine zga rfl _ _ _ rfl b (delsD m (ds.take k)) d rfl rfl (by exact HM2.out.same (Below.heap_alloc wr _ b HM2.out.lt)) ?_;intro w3 hm3 hg3;have HM3:Hid (MpAt w3 b (delsD m (ds.take (k+1)))):=(by show MpAt _ _ _;rw [HS.out];exact hm3);have HG3:Hid (Tch (fun j=>j=b) wr w3):=(Tch.below ((Below.refl _ _).alloc (Nat.le_refl _) _)).trans (Tch.grown hg3) (fun _ _ h=>h) (fun _ _ h=>by cases h;rfl);clear hm3 hg3))
   have HD3:Hid (At w3 (some ⟨p,q,none⟩) (flat zab ds)):=HD2.out.tch HG3.out (fun j=>HM2.out.none j)
   have HT3:Hid (Tch (fun j=>j=b) w w3):=HG2.out.then HG3.out
   go_roundw
   case rel=>exact⟨k+1,hlt,by go_num,HM3,HD3,HT3⟩
   case measure=>simp [intOf];omega
  ·have HF:Hid (MpAt wr b (delsD m ds)):=by
    have:=HM2.out
    rw [List.take_of_length_le (by omega)] at this
    exact this
   have hki:¬(k:Int)<ds.length:=by omega
   clear HM2
   go_wp2
   go_end0
   exact⟨rfl,HF.out,HG2.out⟩
structure Old(r s i:Int)(d:Wv.Dt):Prop where
 o:d.o=r
 s1:1<=d.s
 i0:0<=d.i
 i5:d.i<5
 lt:d.s<s∨d.s=s∧d.i<i
theorem Old.next{r s i:Int}{d:Wv.Dt}(h:Old r s i d):Old r s (i+1) d:=⟨h.o,h.s1,h.i0,h.i5,by have:=h.lt;omega⟩
theorem Old.mono{r s i s' i':Int}{d:Wv.Dt}(h:Old r s i d)(hs:s<s'∨s=s'∧i<=i'):Old r s' i' d:=⟨h.o,h.s1,h.i0,h.i5,by have:=h.lt;omega⟩
theorem Old.self{r s i:Int}(h1:1<=s)(h0:0<=i)(h5:i<5):Old r s (i+1) ⟨r,s,i⟩:=⟨rfl,h1,h0,h5, .inr ⟨rfl,by show i<i+1;omega⟩⟩
theorem Old.ne{r s i:Int}{d:Wv.Dt}(h:Old r s i d):d ≠⟨r,s,i⟩:=by
 rintro rfl
 have:=h.lt
 simp at this
structure LsO(r s i:Int)(ls:List El):Prop where
 old:∀e∈ls,Old r s i e.s.d
 t:∀e∈ls,e.s.t=e.s.d.s
 nd:(ls.map (fun e=>e.s.d)).Nodup
theorem zhd(d:Wv.Dt)(e:El):dotIs d e=true↔e.s.d=d:=by
 unfold dotIs eq3
 obtain⟨⟨⟨o,s,i⟩,t⟩,v,x⟩:=e
 obtain⟨o',s',i'⟩:=d
 simp [and_assoc]
theorem zqr{f:El->Bool}{l1 l2:List El}{e:El}(h1:∀x∈l1,f x=false)(he:f e=true):zax f (l1++e::l2)=l1.length:=by
 unfold zax
 rw [List.findIdx?_append,List.findIdx?_eq_none_iff.2 h1,List.findIdx?_cons,he]
 simp
theorem zqq{f:El->Bool}{l:List El}(h:∀x∈l,f x=false):zax f l= -1:=by
 unfold zax
 rw [List.findIdx?_eq_none_iff.2 h]
end Go.Proofs.YtfmcngncaffloaaGreatDoor
