import Derived.Test.YtfmcngncaffloaaGreatDoorG07ObjX
import Derived.Laws.Externs
import Derived.Laws.Cover3
import Derived.Sort.Grow
import Derived.Shelf.SlGeneric
import Derived.Shelf.SlSortCmp.NoneTotal
import Derived.Shelf.SlIterI.Nil
import Derived.Shelf.SortM.Plain
import Derived.Shelf.SortM.SortNone
import Derived.Shelf.Slices.CompactI
import Derived.Ground.GgzProg
import Derived.Ground.SlgmProg
import Derived.Ground.SlsfProg
set_option maxHeartbeats 3200000
namespace Go.Proofs.YtfmcngncaffloaaGreatDoor
open Go.RowKit
set_option maxRecDepth 100000
def takeS(m:Lv)(s:Stp)(e:Wv.Ef):Lv:=if e.op=2 then putD m s.d e.va else if e.op=3 then delsD m e.dots else m
def takeR(m:Lv)(s:Stp)(e:Wv.Ef):Lv:=putD (delsD m e.dots) s.d e.va
theorem zmi{w:World}{g:Nat}{cs:Array Value}{t:TypeId}(h:Blk w g cs t)(s:Stp)(m:Em):Blk (twoC w s m) g cs t:=h.kept (za0 w s m) h.lt
theorem MpAt.below{w w':World}{b:Nat}{m:Lv}(h:MpAt w b m)(hb:Below w.heap.size w w'):MpAt w' b m:=h.same (hb.block b h.lt)
theorem zs2(p b:Nat)(l:Lv)(s:Stp)(m:Em)(w:World)(h:Blk w p #[.map (some b)] 189)(hm:MpAt w b l)(hd:At w m.da (flat zab m.e.dots))(hl:m.e.dots.length<=1048576):
  Calls Tryz.prog 306 #[.pointer (some ⟨p,0,none⟩),stV s,effV m] w fun e w'=>e= .returned (.tuple #[])∧MpAt w' b (takeR l s m.e)∧Tch (fun j=>j=b) w w':=by
 obtain⟨wA,hwA⟩:∃wA,wA=twoC w s m:=⟨_,rfl⟩
 have HB:Hid (Blk wA p #[.map (some b)] 189):=by rw [hwA];exact zmi h s m
 have HM:Hid (MpAt wA b l):=by rw [hwA];exact hm.below (za0 w s m)
 have HD:Hid (At wA m.da (flat zab m.e.dots)):=by rw [hwA];exact hd.kept (za0 w s m)
 have hpb:p ≠ b:=by
  rintro rfl
  obtain⟨es,clock,hb,_⟩:=hm
  have:=h.symm.trans hb
  cases this
 have hbw:b<w.heap.size:=hm.lt
 have c0:wA.cell? ⟨p,0,none⟩=some (.map (some b)):=HB.out.cell 0
 have HS:Hid (Blk wA w.heap.size #[I s.d.o,I s.d.s,I s.d.i,I s.t] 198):=by rw [hwA];exact Blk.alloc (heap_alloc_new w _) _
 have HE:Hid (Blk wA (w.heap.size+1) #[I m.e.op,I m.e.ob,I m.e.va,I m.e.ref.o,I m.e.ref.s,I m.e.ref.i, .slice m.da m.e.dots.length m.dc] 149):=by rw [hwA];exact Blk.second w _ _ _
 have HT:Hid (Below w.heap.size w wA):=by rw [hwA];exact za0 w s m
 have e6:wA.cell? ⟨w.heap.size+1,6,none⟩=some (.slice m.da m.e.dots.length m.dc):=HE.out.cell 6
 clear h hm hd
 go_enter Tryz.func306,Tryz.ntmps306
 go_wp2_with fail
 change Code.wp _ _ _ _ (twoC w s m)
 rw [←hwA]
 clear hwA
 go_region_law ((go_simp;go_at_call 253;refine(zil b l m.da m.dc m.e.dots _ (by first | exact HM.out | exact HM.out.same rfl) (by first | exact HD.out | exact HD.out.kept (Below.refl _ _).drew) hl).mono ?_;rintro e w3 ⟨rfl,hm3,hT3⟩;have HM3:Hid (MpAt w3 b (delsD l m.e.dots)):=hm3;have HT3:Hid (Tch (fun j=>j=b) wA w3):=(by first | exact hT3 | exact((Tch.refl _ wA).drew).then hT3);clear hm3 hT3))
 all_goals
  (have HB3:Hid (Blk w3 p #[.map (some b)] 189):=HT3.out.blk HB.out hpb
   have HS3:Hid (Blk w3 w.heap.size #[I s.d.o,I s.d.s,I s.d.i,I s.t] 198):=HT3.out.blk HS.out (by omega)
   have HE3:Hid (Blk w3 (w.heap.size+1) #[I m.e.op,I m.e.ob,I m.e.va,I m.e.ref.o,I m.e.ref.s,I m.e.ref.i, .slice m.da m.e.dots.length m.dc] 149):=HT3.out.blk HE.out (by omega)
   have x0:w3.cell? ⟨p,0,none⟩=some (.map (some b)):=HB3.out.cell 0
   have s0:w3.cell? ⟨w.heap.size,0,none⟩=some (I s.d.o):=HS3.out.cell 0
   have s1:w3.cell? ⟨w.heap.size,1,none⟩=some (I s.d.s):=HS3.out.cell 1
   have s2:w3.cell? ⟨w.heap.size,2,none⟩=some (I s.d.i):=HS3.out.cell 2
   have v2:w3.cell? ⟨w.heap.size+1,2,none⟩=some (I m.e.va):=HE3.out.cell 2
   clear HB HM HD HS HE c0 e6
   go_wp2_with fail
   obtain⟨w4,hr4,hm4,hg4⟩:=ze8 s.d m.e.va w3.drew b (delsD l m.e.dots) HM3.out
   have HM4:Hid (MpAt w4 b (putD (delsD l m.e.dots) s.d m.e.va)):=hm4
   have HT4:Hid (Tch (fun j=>j=b) w3 w4):=(((Tch.refl (fun j=>j=b) w3).drew).trans (Tch.grown hg4) (fun _ _ h=>h) (fun _ _ h=>by cases h;rfl))
   clear hm4 hg4
   go_region_law (fail))
 all_goals
  (go_end0
   exact⟨rfl,HM4.out,((Tch.below HT.out).then HT3.out).then HT4.out⟩)
theorem zsu(p b:Nat)(l:Lv)(s:Stp)(m:Em)(w:World)(h:Blk w p #[.map (some b)] 187)(hm:MpAt w b l)(hd:At w m.da (flat zab m.e.dots))(hl:m.e.dots.length<=1048576):
  Calls Tryz.prog 248 #[.pointer (some ⟨p,0,none⟩),stV s,effV m] w fun e w'=>e= .returned (.tuple #[])∧MpAt w' b (takeS l s m.e)∧Tch (fun j=>j=b) w w':=by
 obtain⟨wA,hwA⟩:∃wA,wA=twoC w s m:=⟨_,rfl⟩
 have HB:Hid (Blk wA p #[.map (some b)] 187):=by rw [hwA];exact zmi h s m
 have HM:Hid (MpAt wA b l):=by rw [hwA];exact hm.below (za0 w s m)
 have HD:Hid (At wA m.da (flat zab m.e.dots)):=by rw [hwA];exact hd.kept (za0 w s m)
 have hbw:b<w.heap.size:=hm.lt
 have c0:wA.cell? ⟨p,0,none⟩=some (.map (some b)):=HB.out.cell 0
 have HS:Hid (Blk wA w.heap.size #[I s.d.o,I s.d.s,I s.d.i,I s.t] 198):=by rw [hwA];exact Blk.alloc (heap_alloc_new w _) _
 have HE:Hid (Blk wA (w.heap.size+1) #[I m.e.op,I m.e.ob,I m.e.va,I m.e.ref.o,I m.e.ref.s,I m.e.ref.i, .slice m.da m.e.dots.length m.dc] 149):=by rw [hwA];exact Blk.second w _ _ _
 have HT:Hid (Below w.heap.size w wA):=by rw [hwA];exact za0 w s m
 have e0:wA.cell? ⟨w.heap.size+1,0,none⟩=some (I m.e.op):=HE.out.cell 0
 have e2:wA.cell? ⟨w.heap.size+1,2,none⟩=some (I m.e.va):=HE.out.cell 2
 have e6:wA.cell? ⟨w.heap.size+1,6,none⟩=some (.slice m.da m.e.dots.length m.dc):=HE.out.cell 6
 have s0:wA.cell? ⟨w.heap.size,0,none⟩=some (I s.d.o):=HS.out.cell 0
 have s1:wA.cell? ⟨w.heap.size,1,none⟩=some (I s.d.s):=HS.out.cell 1
 have s2:wA.cell? ⟨w.heap.size,2,none⟩=some (I s.d.i):=HS.out.cell 2
 clear h hm hd
 go_enter Tryz.func248,Tryz.ntmps248
 have HV:Hid ((m.e.op=2->takeS l s m.e=putD l s.d m.e.va)∧(m.e.op ≠ 2->m.e.op=3->takeS l s m.e=delsD l m.e.dots)∧(m.e.op ≠ 2->m.e.op ≠ 3->takeS l s m.e=l)):=⟨fun h=>by unfold takeS;rw [if_pos h],fun h h3=>by unfold takeS;rw [if_neg h,if_pos h3],fun h h3=>by unfold takeS;rw [if_neg h,if_neg h3]⟩
 by_cases h2:m.e.op=2
 ·have HV2:Hid (takeS l s m.e=putD l s.d m.e.va):=HV.out.1 h2
  have hq:(m.e.op==2)=true:=by simp [h2]
  clear h2 HV
  go_wp2_with fail
  change Code.wp _ _ _ _ (twoC w s m)
  rw [←hwA]
  clear hwA
  obtain⟨w4,hr4,hm4,hg4⟩:=ze8 s.d m.e.va wA.drew b l HM.out
  have HM4:Hid (MpAt w4 b (takeS l s m.e)):=by show MpAt _ _ _;rw [HV2.out];exact hm4
  have HT4:Hid (Tch (fun j=>j=b) wA w4):=(((Tch.refl (fun j=>j=b) wA).drew).trans (Tch.grown hg4) (fun _ _ h=>h) (fun _ _ h=>by cases h;rfl))
  clear hm4 hg4
  go_region_law (fail)
  all_goals
   (go_wp2
    go_end0
    exact⟨rfl,HM4.out,(Tch.below HT.out).then HT4.out⟩)
 ·by_cases h3:m.e.op=3
  ·have HV2:Hid (takeS l s m.e=delsD l m.e.dots):=HV.out.2.1 h2 h3
   have hq:(m.e.op==2)=false:=by simp [h2]
   have hq3:(m.e.op==3)=true:=by simp [h3]
   clear h2 h3 HV
   go_wp2_with fail
   change Code.wp _ _ _ _ (twoC w s m)
   rw [←hwA]
   clear hwA
   go_region_law ((go_simp;go_at_call 253;refine(zil b l m.da m.dc m.e.dots _ (by first | exact HM.out | exact HM.out.same rfl) (by first | exact HD.out | exact HD.out.kept (Below.refl _ _).drew) hl).mono ?_;rintro e w3 ⟨rfl,hm3,hT3⟩;have HM3:Hid (MpAt w3 b (takeS l s m.e)):=(by show MpAt _ _ _;rw [HV2.out];exact hm3);have HT3:Hid (Tch (fun j=>j=b) wA w3):=(by first | exact hT3 | exact((Tch.refl _ wA).drew).then hT3);clear hm3 hT3))
   all_goals
    (go_wp2
     go_end0
     exact⟨rfl,HM3.out,(Tch.below HT.out).then HT3.out⟩)
  ·have HV2:Hid (takeS l s m.e=l):=HV.out.2.2 h2 h3
   have hq:(m.e.op==2)=false:=by simp [h2]
   have hq3:(m.e.op==3)=false:=by simp [h3]
   clear h2 h3 HV
   have HF:Hid (MpAt (twoC w s m) b l):=by show MpAt _ _ _;rw [←hwA];exact HM.out
   go_wp2
   go_end0
   exact⟨rfl,by rw [HV2.out];exact HF.out,Tch.below (za0 w s m)⟩
end Go.Proofs.YtfmcngncaffloaaGreatDoor
namespace Go.Proofs.YtfmcngncaffloaaGreatDoor
open Go.RowKit
set_option maxRecDepth 100000
theorem zju(w:World)(b:Nat)(es:Array MapEntry)(clock:Nat)(h:w.heap[b]?=some (.map es clock)):
    (callFunc 264 #[.iface 185 (.map (some b))]).run Tryz.prog w= .ok (.value (.iface 185 (.map (some w.heap.size)))) (w.alloc (.map es clock)):=by
  rw [run_callFunc_extern Tryz.func264 (by kernel_rfl) (by kernel_rfl) (by kernel_rfl) (e:=Extern.MapsClone.clone) (by kernel_rfl)]
  have h2:(Extern.MapsClone.clone #[.iface 185 (.map (some b))]).run Tryz.prog w= .ok (.iface 185 (.map (some w.heap.size))) (w.alloc (.map es clock)):=by
    change Sem.run Tryz.prog (α:=Value) (do
      let .map entries clock ← getObj b | stuck "maps.clone: a map expected"
      pure (.iface 185 (.map (some (←newObj (.map entries clock)))))) w=_
    simp only [Sem.run_bind,MapKept.run_getObj_map h,Result.andThen_ok]
    simp [newObj,Sem.run]
  rw [h2]
  rfl
theorem zmv(w:World)(b:Nat):(binOp .eql 185 (.map (some b)) (.map none)).run Tryz.prog w= .ok (.bool false) w:=by
 have h:=run_equal_map_nil w 185 _ _ (some b) Tryz.underlying185
 simp only [binOp,Sem.run_bind,h]
 simp
theorem zhx(w:World)(xT:TypeId)(v:Value):(Instr.typeAssert (.iface 185 v) xT 185 false).run Tryz.prog w= .ok v w:=by
 simp [Instr.typeAssert,run_underlying Tryz.underlying185,go_sem,Result.andThen]
theorem zps(b:Nat)(l:Lv)(w:World)(h:MpAt w b l):
  Calls Tryz.prog 257 #[.map (some b)] w fun e w'=>e= .returned (.map (some w.heap.size))∧MpAt w' w.heap.size l∧Below w.heap.size w w':=by
 obtain⟨es,clock,hb,he,hst⟩:=h
 have hcl:=zju w b es clock hb
 have hnil:=zmv w b
 have has:=fun xT v=>zhx (w.alloc (.map es clock)) xT v
 have HE:Hid (MpAt (w.alloc (.map es clock)) w.heap.size l):=⟨es,clock,(MapKept.heap_alloc w _).1,he,hst⟩
 clear he hb hst
 go_enter Tryz.func257,Tryz.ntmps257
 go_wp2_with (simp only [hcl])
 go_ret
 exact⟨rfl,HE.out,(Below.refl _ _).alloc (Nat.le_refl _) _⟩
theorem zix(b:Nat)(l:Lv)(w:World)(h:MpAt w b l):
  Calls Tryz.prog 250 #[.map (some b)] w fun e w'=>e= .returned (.map (some w.heap.size))∧MpAt w' w.heap.size l∧Below w.heap.size w w':=by
 go_enter Tryz.func250,Tryz.ntmps250
 go_wp2_with fail
 refine(zps b l w h).mono ?_
 rintro e w1 ⟨rfl,hm,hb⟩
 have HE:Hid (MpAt w1 w.heap.size l):=hm
 have HB:Hid (Below w.heap.size w w1):=hb
 clear hm hb h
 go_wp2
 go_ret
 exact⟨rfl,HE.out,HB.out⟩
theorem zsz(p b:Nat)(l:Lv)(w:World)(h:Blk w p #[.map (some b)] 187)(hm:MpAt w b l):
  Calls Tryz.prog 246 #[.pointer (some ⟨p,0,none⟩)] w fun e w'=>(∃q b',e= .returned (.iface 183 (.pointer (some ⟨q,0,none⟩)))∧w.heap.size<=q∧w.heap.size<=b'∧Blk w' q #[.map (some b')] 187∧MpAt w' b' l)∧Below w.heap.size w w':=by
 have c0:w.cell? ⟨p,0,none⟩=some (.map (some b)):=h.cell 0
 have HM:Hid (MpAt w b l):=hm
 clear h hm
 go_enter Tryz.func246,Tryz.ntmps246
 go_wp2_with fail
 refine(zix b l w HM.out).mono ?_
 rintro e w1 ⟨rfl,hm1,hb1⟩
 have hs1:=hb1.size
 have HE:Hid (MpAt (w1.alloc (.cells #[.map (some w.heap.size)] 187)) w.heap.size l):=hm1.below ((Below.refl _ _).alloc (Nat.le_refl _) _)
 have HK:Hid (Blk (w1.alloc (.cells #[.map (some w.heap.size)] 187)) w1.heap.size #[.map (some w.heap.size)] 187):=heap_alloc_new w1 _
 have HB:Hid (Below w.heap.size w (w1.alloc (.cells #[.map (some w.heap.size)] 187))):=hb1.alloc hs1 _
 have HS:Hid (w.heap.size<=w1.heap.size):=hs1
 clear hm1 hb1 hs1
 go_wp2
 go_ret
 exact⟨⟨_,_,rfl,HS.out,Nat.le_refl _,HK.out,HE.out⟩,HB.out⟩
theorem ztc(p b:Nat)(l:Lv)(w:World)(h:Blk w p #[.map (some b)] 189)(hm:MpAt w b l):
  Calls Tryz.prog 304 #[.pointer (some ⟨p,0,none⟩)] w fun e w'=>(∃q b',e= .returned (.iface 188 (.pointer (some ⟨q,0,none⟩)))∧w.heap.size<=q∧w.heap.size<=b'∧Blk w' q #[.map (some b')] 189∧MpAt w' b' l)∧Below w.heap.size w w':=by
 have c0:w.cell? ⟨p,0,none⟩=some (.map (some b)):=h.cell 0
 have HM:Hid (MpAt w b l):=hm
 clear h hm
 go_enter Tryz.func304,Tryz.ntmps304
 go_wp2_with fail
 refine(zix b l w HM.out).mono ?_
 rintro e w1 ⟨rfl,hm1,hb1⟩
 have hs1:=hb1.size
 have HE:Hid (MpAt (w1.alloc (.cells #[.map (some w.heap.size)] 189)) w.heap.size l):=hm1.below ((Below.refl _ _).alloc (Nat.le_refl _) _)
 have HK:Hid (Blk (w1.alloc (.cells #[.map (some w.heap.size)] 189)) w1.heap.size #[.map (some w.heap.size)] 189):=heap_alloc_new w1 _
 have HB:Hid (Below w.heap.size w (w1.alloc (.cells #[.map (some w.heap.size)] 189))):=hb1.alloc hs1 _
 have HS:Hid (w.heap.size<=w1.heap.size):=hs1
 clear hm1 hb1 hs1
 go_wp2
 go_ret
 exact⟨⟨_,_,rfl,HS.out,Nat.le_refl _,HK.out,HE.out⟩,HB.out⟩
end Go.Proofs.YtfmcngncaffloaaGreatDoor
namespace Go.Proofs.YtfmcngncaffloaaGreatDoor
open Go.RowKit
set_option maxRecDepth 100000
abbrev Clr:=Nat->Nat
def Ext(own own':Clr)(n:Nat):Prop:=∀b,b<n->own' b=own b
theorem Ext.refl(own:Clr)(n:Nat):Ext own own n:=fun _ _=>rfl
theorem Ext.trans{a b c:Clr}{n m:Nat}(h:Ext a b n)(h2:Ext b c m)(hm:n<=m):Ext a c n:=fun k hk=>(h2 k (by omega)).trans (h k hk)
def newTo(own:Clr)(n c:Nat):Clr:=fun b=>if b<n then own b else c
theorem zaf(own:Clr)(n c:Nat):Ext own (newTo own n c) n:=fun b hb=>by unfold newTo;rw [if_pos hb]
theorem zae(own:Clr)(n c b:Nat)(h:n<=b):newTo own n c b=c:=by unfold newTo;rw [if_neg (by omega)]
theorem zac(own:Clr)(n c b:Nat)(h:b<n):newTo own n c b=own b:=by unfold newTo;rw [if_pos h]
abbrev TchC (own:Clr) (c:Nat) (w w':World):Prop:=Tch (fun k=>own k=c) w w'
inductive Ob where
 | counter (n:Int)
 | set (m:Lv)
 | reg (m:Lv)
 | list (ls:List El)
def Ob.take:Ob->Stp->Wv.Ef->Ob
 | .counter n,_,e=> .counter (n+e.va)
 | .set m,s,e=> .set (takeS m s e)
 | .reg m,s,e=> .reg (takeR m s e)
 | .list ls,s,e=> .list (takeL ls s e)
def Ob.small:Ob->Prop
 | .counter n=> -1000000000<=n∧n<=1000000000
 | .list ls=>ls.length<=1000000
 | _=>True
def ObAt(w:World)(own:Clr)(c:Nat)(v:Value):Ob->Prop
 | .counter n=>∃p,v= .iface 180 (.pointer (some ⟨p,0,none⟩))∧own p=c∧Blk w p #[I n] 182
 | .set m=>∃p b,v= .iface 183 (.pointer (some ⟨p,0,none⟩))∧own p=c∧own b=c∧Blk w p #[.map (some b)] 187∧MpAt w b m
 | .reg m=>∃p b,v= .iface 188 (.pointer (some ⟨p,0,none⟩))∧own p=c∧own b=c∧Blk w p #[.map (some b)] 189∧MpAt w b m
 | .list ls=>∃p sv,v= .iface 190 (.pointer (some ⟨p,0,none⟩))∧own p=c∧(∀g,sv.ownBlock=some g->own g=c)∧LsOwn w p 0 sv ls
def Same(own:Clr)(c:Nat)(w w':World):Prop:=∀b,b<w.heap.size->own b=c->w'.heap[b]?=w.heap[b]?
theorem Tch.same{F:Nat->Prop}{own:Clr}{c:Nat}{w w':World}(h:Tch F w w')(hc:∀k,own k=c->¬F k):Same own c w w':=fun b hb ho=>h.block b hb (hc b ho)
theorem ObAt.keep{w w':World}{own own':Clr}{c:Nat}{v:Value}{o:Ob}(h:ObAt w own c v o)(hs:Same own c w w')(he:Ext own own' w.heap.size):ObAt w' own' c v o:=by
 cases o with
 | counter n=>
  obtain⟨p,e,hp,hb⟩:=h
  exact⟨p,e,(he p hb.lt).trans hp,(hs p hb.lt hp).trans hb⟩
 | set m=>
  obtain⟨p,b,e,hp,hb,h1,h2⟩:=h
  exact⟨p,b,e,(he p h1.lt).trans hp,(he b h2.lt).trans hb,(hs p h1.lt hp).trans h1,h2.same (hs b h2.lt hb)⟩
 | reg m=>
  obtain⟨p,b,e,hp,hb,h1,h2⟩:=h
  exact⟨p,b,e,(he p h1.lt).trans hp,(he b h2.lt).trans hb,(hs p h1.lt hp).trans h1,h2.same (hs b h2.lt hb)⟩
 | list ls=>
  obtain⟨p,sv,e,hp,hg,h1⟩:=h
  have hlt:∀g,sv.ownBlock=some g->g<w.heap.size:=fun g hgs=>(h1.row.lt g hgs).2
  exact⟨p,sv,e,(he p h1.blk.lt).trans hp,fun g hgs=>(he g (hlt g hgs)).trans (hg g hgs),⟨(hs p h1.blk.lt hp).trans h1.blk,zah h1.row (fun g hgs=>hs g (hlt g hgs) (hg g hgs)),h1.le⟩⟩
def zd6(own:Clr)(c:Nat)(v:Value)(o:Ob)(w:World)(e:Ending)(w':World):Prop:=e= .returned (.tuple #[])∧∃own',Ext own own' w.heap.size∧ObAt w' own' c v o∧TchC own c w w'
theorem zll{w:World}{own:Clr}{c p:Nat}{n:Int}(s:Stp)(m:Em)(h:ObAt w own c (.iface 180 (.pointer (some ⟨p,0,none⟩))) (.counter n))(hs:(Ob.counter n).small)(h1: -1000<=m.e.va)(h2:m.e.va<=1000):
  Calls Tryz.prog 244 #[.pointer (some ⟨p,0,none⟩),stV s,effV m] w fun e w'=>zd6 own c (.iface 180 (.pointer (some ⟨p,0,none⟩))) ((Ob.counter n).take s m.e) w e w':=by
 obtain⟨q,e,hp,hb⟩:=h
 cases e
 obtain⟨hs1,hs2⟩:=hs
 refine(zur p n s m w hb (by omega) (by omega)).mono ?_
 rintro e w' ⟨rfl,hb',hg⟩
 exact⟨rfl,newTo own w.heap.size c,zaf _ _ _,⟨p,rfl,(zac _ _ _ _ hb.lt).trans hp,hb'⟩,(Tch.grown hg).mono (fun k _ h=>by cases h;exact hp)⟩
theorem take_set{w:World}{own:Clr}{c p:Nat}{l:Lv}(s:Stp)(m:Em)(h:ObAt w own c (.iface 183 (.pointer (some ⟨p,0,none⟩))) (.set l))(hd:At w m.da (flat zab m.e.dots))(hl:m.e.dots.length<=1048576):
  Calls Tryz.prog 248 #[.pointer (some ⟨p,0,none⟩),stV s,effV m] w fun e w'=>zd6 own c (.iface 183 (.pointer (some ⟨p,0,none⟩))) ((Ob.set l).take s m.e) w e w':=by
 obtain⟨q,b,e,hp,hob,hb,hm⟩:=h
 cases e
 refine(zsu p b l s m w hb hm hd hl).mono ?_
 rintro e w' ⟨rfl,hm',hT⟩
 have hpb:p ≠ b:=by
  rintro rfl
  obtain⟨es,clock,hb2,_⟩:=hm
  cases hb.symm.trans hb2
 exact⟨rfl,newTo own w.heap.size c,zaf _ _ _,⟨p,b,rfl,(zac _ _ _ _ hb.lt).trans hp,(zac _ _ _ _ hm.lt).trans hob,hT.blk hb hpb,hm'⟩,hT.mono (fun k _ h=>by rw [h];exact hob)⟩
theorem zvi{w:World}{own:Clr}{c p:Nat}{l:Lv}(s:Stp)(m:Em)(h:ObAt w own c (.iface 188 (.pointer (some ⟨p,0,none⟩))) (.reg l))(hd:At w m.da (flat zab m.e.dots))(hl:m.e.dots.length<=1048576):
  Calls Tryz.prog 306 #[.pointer (some ⟨p,0,none⟩),stV s,effV m] w fun e w'=>zd6 own c (.iface 188 (.pointer (some ⟨p,0,none⟩))) ((Ob.reg l).take s m.e) w e w':=by
 obtain⟨q,b,e,hp,hob,hb,hm⟩:=h
 cases e
 refine(zs2 p b l s m w hb hm hd hl).mono ?_
 rintro e w' ⟨rfl,hm',hT⟩
 have hpb:p ≠ b:=by
  rintro rfl
  obtain⟨es,clock,hb2,_⟩:=hm
  cases hb.symm.trans hb2
 exact⟨rfl,newTo own w.heap.size c,zaf _ _ _,⟨p,b,rfl,(zac _ _ _ _ hb.lt).trans hp,(zac _ _ _ _ hm.lt).trans hob,hT.blk hb hpb,hm'⟩,hT.mono (fun k _ h=>by rw [h];exact hob)⟩
theorem zsm{w:World}{own:Clr}{c p:Nat}{ls:List El}(s:Stp)(m:Em)(h:ObAt w own c (.iface 190 (.pointer (some ⟨p,0,none⟩))) (.list ls))(hs:(Ob.list ls).small):
  Calls Tryz.prog 310 #[.pointer (some ⟨p,0,none⟩),stV s,effV m] w fun e w'=>zd6 own c (.iface 190 (.pointer (some ⟨p,0,none⟩))) ((Ob.list ls).take s m.e) w e w':=by
 obtain⟨q,sv,e,hp,hg,hL⟩:=h
 cases e
 have hs':ls.length<=1000000:=hs
 refine(zts p 0 sv s m ls w (Nat.zero_le _) hL (by omega)).mono ?_
 rintro e w' ⟨sv',rfl,hL',hT,hA⟩
 have hlt:∀g,sv.ownBlock=some g->g<w.heap.size:=fun g hgs=>(hL.row.lt g hgs).2
 refine⟨rfl,newTo own w.heap.size c,zaf _ _ _,⟨p,sv',rfl,(zac _ _ _ _ hL.blk.lt).trans hp,fun g hgs=> ?_,hL'⟩,hT.mono (fun k _ h=> ?_)⟩
 ·rcases hA with h | ⟨b,h,hb⟩
  ·rw [hgs] at h
   exact(zac _ _ _ _ (hlt g h.symm)).trans (hg g h.symm)
  ·rw [hgs] at h
   cases h
   exact zae _ _ _ _ hb
 ·rcases h with rfl | h
  ·exact hp
  ·exact hg k h
end Go.Proofs.YtfmcngncaffloaaGreatDoor
namespace Go.Proofs.YtfmcngncaffloaaGreatDoor
open Go.RowKit
set_option maxRecDepth 100000
structure Bm where
 b:Wv.Bt
 ca:Option Addr
 ea:Option Addr
 cc:Nat
 ec:Nat
 ms:List Em
def Bm.cells(m:Bm):List Value:= [I m.b.o,I m.b.s,I m.b.t, .slice m.ca m.b.clock.length m.cc, .slice m.ea m.b.effs.length m.ec]
theorem zbp(m:Bm):m.cells.length=5:=rfl
abbrev bmV (m:Bm):Value:=bV m.b m.ca m.ea m.cc m.ec
theorem zjl(ls:List Bm):∀u∈flat Bm.cells ls,u.oneCell'=true:=by
 induction ls with
 | nil=>intro u hu;simp [flat] at hu
 | cons m ls ih=>
  intro u hu
  simp only [flat,Bm.cells,List.mem_append,List.mem_cons,List.mem_nil_iff,or_false] at hu
  rcases hu with(rfl | rfl | rfl | rfl | rfl) | hu
  ·rfl
  ·rfl
  ·rfl
  ·rfl
  ·rfl
  ·exact ih u hu
def At0(w:World)(own:Clr)(a:Option Addr)(cs:List Value):Prop:=∀j u,cs[j]?=some u->∃b o,a=some ⟨b,o,none⟩∧own b=0∧w.cell? ⟨b,o+j,none⟩=some u
theorem At0.at{w:World}{own:Clr}{a:Option Addr}{cs:List Value}(h:At0 w own a cs):At w a cs:=fun j u hj=>by
 obtain⟨b,o,e,_,hc⟩:=h j u hj
 exact⟨b,o,e,hc⟩
theorem At0.keep{w w':World}{own own':Clr}{a:Option Addr}{cs:List Value}(h:At0 w own a cs)(hs:Same own 0 w w')(he:Ext own own' w.heap.size):At0 w' own' a cs:=fun j u hj=>by
 obtain⟨b,o,e,h0,hc⟩:=h j u hj
 exact⟨b,o,e,(he b (zag hc)).trans h0,zan hc (hs b (zag hc) h0)⟩
structure BatIn(w:World)(own:Clr)(m:Bm):Prop where
 clock:At0 w own m.ca (m.b.clock.map I)
 effs:m.b.effs=m.ms.map (·.e)
 cells:At0 w own m.ea (flat Em.cells m.ms)
 dots:∀x∈m.ms,At0 w own x.da (flat zab x.e.dots)
theorem BatIn.at{w:World}{own:Clr}{m:Bm}(h:BatIn w own m):BatAt w m.b m.ca m.ea m.ms:=⟨h.clock.at,h.effs,h.cells.at,fun x hx=>(h.dots x hx).at⟩
theorem BatIn.keep{w w':World}{own own':Clr}{m:Bm}(h:BatIn w own m)(hs:Same own 0 w w')(he:Ext own own' w.heap.size):BatIn w' own' m:=
 ⟨h.clock.keep hs he,h.effs,h.cells.keep hs he,fun x hx=>(h.dots x hx).keep hs he⟩
def zbd(a b:Wv.Bt):Bool:=decide (orI (cmpI a.t b.t) (cmpI a.o b.o) (cmpI a.s b.s)<0)
theorem zhs(x y:Bm)(w:World):
  Calls Tryz.prog 62 #[bmV x,bmV y] w fun e w'=>e= .returned (.bool (zbd x.b y.b))∧Below w.heap.size w w':=by
 obtain⟨a,ca,ea,cc,ec,ms⟩:=x
 obtain⟨b,da,fa,dc,fc,ns⟩:=y
 have k0:Hid (((((w.alloc (.cells #[I a.o,I a.s,I a.t, .slice ca a.clock.length cc, .slice ea a.effs.length ec] 124)).alloc (.cells #[I b.o,I b.s,I b.t, .slice da b.clock.length dc, .slice fa b.effs.length fc] 124)).alloc (.cells #[I (cmpI a.t b.t),I (cmpI a.o b.o),I (cmpI a.s b.s)] 3)).drew).cell? ⟨w.heap.size+1+1,0,none⟩=some (I (cmpI a.t b.t))):=zc9 _ _ _ _ _ (by simp)
 have k1:Hid (((((w.alloc (.cells #[I a.o,I a.s,I a.t, .slice ca a.clock.length cc, .slice ea a.effs.length ec] 124)).alloc (.cells #[I b.o,I b.s,I b.t, .slice da b.clock.length dc, .slice fa b.effs.length fc] 124)).alloc (.cells #[I (cmpI a.t b.t),I (cmpI a.o b.o),I (cmpI a.s b.s)] 3)).drew).cell? ⟨w.heap.size+1+1,1,none⟩=some (I (cmpI a.o b.o))):=zc9 _ _ _ _ _ (by simp)
 have k2:Hid (((((w.alloc (.cells #[I a.o,I a.s,I a.t, .slice ca a.clock.length cc, .slice ea a.effs.length ec] 124)).alloc (.cells #[I b.o,I b.s,I b.t, .slice da b.clock.length dc, .slice fa b.effs.length fc] 124)).alloc (.cells #[I (cmpI a.t b.t),I (cmpI a.o b.o),I (cmpI a.s b.s)] 3)).drew).cell? ⟨w.heap.size+1+1,2,none⟩=some (I (cmpI a.s b.s))):=zc9 _ _ _ _ _ (by simp)
 go_enter Tryz.func62,Tryz.ntmps62
 go_wp2_with fail
 go_region_held3 (fun w'=>w'.cell? ⟨w.heap.size,0,none⟩=some (I a.o)∧w'.cell? ⟨w.heap.size,1,none⟩=some (I a.s)∧w'.cell? ⟨w.heap.size,2,none⟩=some (I a.t)∧w'.cell? ⟨w.heap.size+1,0,none⟩=some (I b.o)∧w'.cell? ⟨w.heap.size+1,1,none⟩=some (I b.s)∧w'.cell? ⟨w.heap.size+1,2,none⟩=some (I b.t)) (go_keep)
  (first | (go_at_call 113;refine(zd2 _ _ _).mono ?_;rintro e w' ⟨rfl,h⟩;subst h) | (go_at_call 112;refine(zlu (cmpI a.t b.t) (cmpI a.o b.o) (cmpI a.s b.s) _ _ ?_ ?_ ?_).mono ?_;exact k0.out;exact k1.out;exact k2.out;rintro e w' ⟨rfl,h⟩;subst h))
 go_wp2
 go_ret
 exact⟨rfl,(((((Below.refl _ _).alloc (Nat.le_refl _) _).alloc (by simp) _)).alloc (by simp;omega) _).drew⟩
end Go.Proofs.YtfmcngncaffloaaGreatDoor
namespace Go.Proofs.YtfmcngncaffloaaGreatDoor
open Go.RowKit
set_option maxRecDepth 100000
def OmAt(w:World)(b:Nat)(vs:List Value):Prop:=∃es clock,w.heap[b]?=some (.map es clock)∧es.toList.map (fun e=>(e.key,e.val))=vs.mapIdx (fun i v=>(I i,v))
theorem OmAt.lt{w:World}{b:Nat}{vs:List Value}(h:OmAt w b vs):b<w.heap.size:=by
 obtain⟨es,clock,hb,_⟩:=h
 exact(Array.getElem?_eq_some_iff.1 hb).1
theorem OmAt.same{w w':World}{b:Nat}{vs:List Value}(h:OmAt w b vs)(hb:w'.heap[b]?=w.heap[b]?):OmAt w' b vs:=by
 obtain⟨es,clock,h1,h2⟩:=h
 exact⟨es,clock,hb.trans h1,h2⟩
theorem zhr(k:Int):∀(es:List MapEntry) (vs:List Value) (a i:Nat),es.map (fun e=>(e.key,e.val))=vs.mapIdx (fun j v=>(I ((a+j:Nat):Int),v))->
  Instr.findNow (.int .i64) (I k) es i=some (if h:(a:Int)<=k∧k<a+vs.length then some (i+(k - a).toNat,vs[(k - a).toNat]'(by omega)) else none)
 | [], [],a,i,_=>by
  rw [dif_neg (by simp)]
  rfl
 | [],_::_,_,_,h=>by simp at h
 | _::_, [],_,_,h=>by simp at h
 | e::es,v::vs,a,i,h=>by
  simp only [List.map_cons,List.mapIdx_cons,List.cons.injEq,Prod.mk.injEq,Nat.add_zero] at h
  obtain⟨⟨h1,h2⟩,h3⟩:=h
  have h3':es.map (fun e=>(e.key,e.val))=vs.mapIdx (fun j v=>(I ((a+1+j:Nat):Int),v)):=by
   rw [h3]
   congr 1
   funext j v
   congr 3
   omega
  have ih:=zhr k es vs (a+1) (i+1) h3'
  unfold Instr.findNow
  rw [h1]
  simp only [Instr.sameNow]
  by_cases hq:k=(a:Int)
  ·subst hq
   simp [h2]
   omega
  ·have hb:(k==(a:Int))=false:=by simp [hq]
   simp only [if_true,hb,ih]
   by_cases hr:(a:Int)<=k∧k<a+(v::vs).length
   ·rw [dif_pos hr,dif_pos (by simp at hr ⊢;omega)]
    have e1:(k - (a:Int)).toNat=(k - ((a+1:Nat):Int)).toNat+1:=by omega
    simp only [Option.some.injEq,Prod.mk.injEq]
    refine⟨by omega, ?_⟩
    simp only [e1,List.getElem_cons_succ]
   ·rw [dif_neg hr,dif_neg (by simp at hr ⊢;omega)]
theorem zcc(k:Int)(b:Bool)(w:World):(Instr.checkKey b 10000 3 (I k)).run Tryz.prog w= .ok () w:=by
 show(Instr.checkKey b (9999+1) 3 (.int .i64 k)).run Tryz.prog w=_
 rw [Instr.checkKey,Sem.run_bind,run_underlying Tryz.underlying3]
 simp
theorem zci(k:Int)(w:World)(es:List MapEntry)(vs:List Value)(h:es.map (fun e=>(e.key,e.val))=vs.mapIdx (fun i v=>(I i,v))):
  (Instr.findKey 3 (I k) es).run Tryz.prog w= .ok (if h:0<=k∧k<vs.length then some (k.toNat,vs[k.toNat]'(by omega)) else none) w:=by
 have hf:=zhr k es vs 0 0 (by rw [h];congr 1;funext j v;simp)
 unfold Instr.findKey
 rw [Sem.run_bind,run_underlying Tryz.underlying3]
 simp only [Result.andThen_ok]
 rw [hf]
 simp
theorem zd4(k:Int)(w:World)(b:Nat)(vs:List Value)(h:OmAt w b vs)(hk:0<=k∧k<vs.length):(Instr.lookup 120 (.map (some b)) (I k) false).run Tryz.prog w= .ok (vs[k.toNat]'(by omega)) w:=by
 obtain⟨es,clock,hb,he⟩:=h
 unfold Instr.lookup
 simp only [Sem.run_bind,run_underlying Tryz.underlying120,Result.andThen_ok,MapKept.run_getObj_map hb,Sem.run_pure,zcc,zci k w es.toList vs he]
 rw [dif_pos hk]
 simp
theorem zf0(k:Int)(w:World)(b:Nat)(vs:List Value)(h:OmAt w b vs)(hk:0<=k∧k<vs.length):(Instr.lookup 120 (.map (some b)) (I k) true).run Tryz.prog w= .ok (.tuple #[vs[k.toNat]'(by omega), .bool true]) w:=by
 obtain⟨es,clock,hb,he⟩:=h
 unfold Instr.lookup
 simp only [Sem.run_bind,run_underlying Tryz.underlying120,Result.andThen_ok,MapKept.run_getObj_map hb,Sem.run_pure,zcc,zci k w es.toList vs he]
 rw [dif_pos hk]
 simp
theorem zf1(k:Int)(w:World)(b:Nat)(vs:List Value)(h:OmAt w b vs)(hk:¬(0<=k∧k<vs.length)):(Instr.lookup 120 (.map (some b)) (I k) true).run Tryz.prog w= .ok (.tuple #[.nilIface, .bool false]) w:=by
 obtain⟨es,clock,hb,he⟩:=h
 have hz:(zeroValue 132).run Tryz.prog w= .ok .nilIface w:=Tryz.zeroValue132 w
 unfold Instr.lookup
 simp only [Sem.run_bind,run_underlying Tryz.underlying120,Result.andThen_ok,MapKept.run_getObj_map hb,Sem.run_pure,zcc,zci k w es.toList vs he]
 rw [dif_neg hk]
 simp [hz]
theorem zjr(v:Value)(w:World)(b:Nat)(vs:List Value)(h:OmAt w b vs):∃w',(Instr.mapUpdate 120 (.map (some b)) (I vs.length) v).run Tryz.prog w= .ok () w'∧OmAt w' b (vs++ [v])∧w.grownBy w' (some b):=by
 have hlt:=h.lt
 obtain⟨es,clock,hb,he⟩:=h
 have hset:∀o:Obj,(setObj b o).run Tryz.prog w= .ok () (setM w b o):=fun o=>MapKept.run_setObj_map o hb
 unfold Instr.mapUpdate
 simp only [Sem.run_bind,run_underlying Tryz.underlying120,Result.andThen_ok,MapKept.run_getObj_map hb,zcc,zci _ w es.toList vs he]
 rw [dif_neg (by omega)]
 simp only [hset]
 refine⟨_,rfl,⟨_,_,zgd hlt _, ?_⟩,zdh w b _⟩
 rw [Array.toList_push,List.map_append,he,List.mapIdx_append]
 simp
end Go.Proofs.YtfmcngncaffloaaGreatDoor
namespace Go.Proofs.YtfmcngncaffloaaGreatDoor
open Go.RowKit
set_option maxRecDepth 100000
theorem zh3(b:Wv.Bt)(p q:Nat)(cc:Nat)(ev:Value)(w:World)(eb ef:Addr)(hI:zay)(g:Gl w eb ef)(hpw:Pw w)(h:Hid (∀j u,(b.clock.map I)[j]?=some u->w.cell? ⟨p,q+j,none⟩=some u))(hp:p<w.heap.size)(hl:b.clock.length<=4)(hs:1<=b.s)(hs':b.s<=30):
  Calls Tryz.prog 202 #[batV b (some ⟨p,q,none⟩) cc ev] w fun e w'=>zb9 (Wv.clkOk b) eb e∧Below w.heap.size w w':=by
 have hE:=g.errBatch
 have hz:=zag hE
 have hpw':Hid (Pw w):=hpw
 clear g hpw
 go_enter Tryz.func202,Tryz.ntmps202
 go_wp2_with fail
 go_loop [8] (fun i=>∃k:Nat,k<=b.clock.length∧i=I k∧Hid (Wv.clkTo b k=true)) (fun i=>b.clock.length - (intOf i).toNat)
 case atStart=>exact⟨0,Nat.zero_le _,rfl,rfl⟩
 case round=>
  obtain⟨k,hk,rfl,hto⟩:=hrel
  by_cases hlt:k<b.clock.length
  ·have hc:w.cell? ⟨p,q+k,none⟩=some (I (b.clock.getD k 0)):=h.out k _ (by simp [hlt])
   have HC:Hid (Wv.cOk b k=(decide (0<=b.clock.getD k 0) && decide (b.clock.getD k 0<=30) && (!((k:Int)==b.o) || (b.clock.getD k 0==b.s - 1)))):=rfl
   generalize b.clock.getD k 0=z at hc HC
   cases hin:(decide (0<=z) && decide (z<=30))
   ·have HF:Hid (Wv.clkOk b=false):=Wv.clkTo_no b _ k hlt (by rw [HC.out,hin];rfl)
    go_wp2_with (first | (go_at_call 115;refine(zai _ _ _ _).mono ?_;rintro e w' ⟨rfl,h⟩;subst h))
    go_region_held3 (fun w'=>w'.cell? ⟨0,0,none⟩=some (Sent eb)) (first | go_keep | (refine zaa hb ?_;go_keep))
     (first | (go_at_call 182;refine(hI k _ (by omega) ?_).mono ?_;exact hpw'.out.kept ((Below.refl _ _).alloc (Nat.le_refl _) _).drew;rintro e w' ⟨⟨st,hst,rfl⟩,hb⟩;have hcat:¬9223372036854775807<9+st.size:=by omega))
    go_wp2
    go_ret
    exact⟨zbl HF.out,((Below.refl _ _).alloc (Nat.le_refl _) _).drew.trans (hb.mono (by simp))⟩
   ·cases hko:((k:Int)==b.o)
    ·have HT:Hid (Wv.clkTo b (k+1)=true):=by show(Wv.clkTo b k && Wv.cOk b k)=true;rw [hto.out,HC.out,hin,hko];rfl
     go_wp2_with (first | (go_at_call 115;refine(zai _ _ _ _).mono ?_;rintro e w' ⟨rfl,h⟩;subst h))
     exact⟨⟨k+1,by omega,by go_num,HT⟩,by simp [intOf];omega⟩
    ·cases hzs:(z==b.s - 1)
     ·have hzs':(z !=b.s - 1)=true:=by simpa using hzs
      have HF:Hid (Wv.clkOk b=false):=Wv.clkTo_no b _ k hlt (by rw [HC.out,hin,hko,hzs];rfl)
      go_wp2_with (first | (go_at_call 115;refine(zai _ _ _ _).mono ?_;rintro e w' ⟨rfl,h⟩;subst h))
      go_region_held3 (fun w'=>w'.cell? ⟨0,0,none⟩=some (Sent eb)) (first | go_keep | (refine zaa hb ?_;go_keep))
       (first | (go_at_call 182;refine(hI k _ (by omega) ?_).mono ?_;exact hpw'.out.kept ((Below.refl _ _).alloc (Nat.le_refl _) _).drew;rintro e w' ⟨⟨st,hst,rfl⟩,hb⟩;have hcat:¬9223372036854775807<9+st.size:=by omega))
      go_wp2
      go_ret
      exact⟨zbl HF.out,((Below.refl _ _).alloc (Nat.le_refl _) _).drew.trans (hb.mono (by simp))⟩
     ·have hzs':(z !=b.s - 1)=false:=by simpa using hzs
      have HT:Hid (Wv.clkTo b (k+1)=true):=by show(Wv.clkTo b k && Wv.cOk b k)=true;rw [hto.out,HC.out,hin,hko,hzs];rfl
      go_wp2_with (first | (go_at_call 115;refine(zai _ _ _ _).mono ?_;rintro e w' ⟨rfl,h⟩;subst h))
      exact⟨⟨k+1,by omega,by go_num,HT⟩,by simp [intOf];omega⟩
  ·obtain rfl:k=b.clock.length:=by omega
   go_wp2
   go_ret
   exact⟨zdo hto.out,(Below.refl _ _).alloc (Nat.le_refl _) _⟩
theorem zjj(b:Wv.Bt)(ca:Option Addr)(cc:Nat)(ev:Value)(w:World)(eb ef:Addr)(hI:zay)(g:Gl w eb ef)(hp:Pw w)(h:At w ca (b.clock.map I))(hl:b.clock.length<=4)(h2:2<=b.clock.length)(hs:1<=b.s)(hs':b.s<=30):
  Calls Tryz.prog 202 #[batV b ca cc ev] w fun e w'=>zb9 (Wv.clkOk b) eb e∧Below w.heap.size w w':=by
 obtain⟨p,q,rfl,hlt,hc⟩:=h.first (by simp;omega)
 exact zh3 b p q cc ev w eb ef hI g hp hc hlt hl hs hs'
end Go.Proofs.YtfmcngncaffloaaGreatDoor
namespace Go.Proofs.YtfmcngncaffloaaGreatDoor
open Go.RowKit
set_option maxRecDepth 100000
def cmpD(a b:Wv.Dt):Int:=orI (cmpI a.o b.o) (cmpI a.s b.s) (cmpI a.i b.i)
theorem zux(a b:Wv.Dt):(decide (cmpD a b<0))=Wv.lessD a b:=zru a b
theorem zjd(a b:Wv.Dt)(w:World):
  Calls Tryz.prog 214 #[dotV a,dotV b] w fun e w'=>e= .returned (I (cmpD a b))∧∃q os',w'=Sort.grow (w.drewN q) os':=by
 have k0:Hid (((((w.alloc (.cells #[I a.o,I a.s,I a.i] 146)).alloc (.cells #[I b.o,I b.s,I b.i] 146)).alloc (.cells #[I (cmpI a.o b.o),I (cmpI a.s b.s),I (cmpI a.i b.i)] 3)).drew).cell? ⟨w.heap.size+1+1,0,none⟩=some (I (cmpI a.o b.o))):=zc9 _ _ _ _ _ (by simp)
 have k1:Hid (((((w.alloc (.cells #[I a.o,I a.s,I a.i] 146)).alloc (.cells #[I b.o,I b.s,I b.i] 146)).alloc (.cells #[I (cmpI a.o b.o),I (cmpI a.s b.s),I (cmpI a.i b.i)] 3)).drew).cell? ⟨w.heap.size+1+1,1,none⟩=some (I (cmpI a.s b.s))):=zc9 _ _ _ _ _ (by simp)
 have k2:Hid (((((w.alloc (.cells #[I a.o,I a.s,I a.i] 146)).alloc (.cells #[I b.o,I b.s,I b.i] 146)).alloc (.cells #[I (cmpI a.o b.o),I (cmpI a.s b.s),I (cmpI a.i b.i)] 3)).drew).cell? ⟨w.heap.size+1+1,2,none⟩=some (I (cmpI a.i b.i))):=zc9 _ _ _ _ _ (by simp)
 go_enter Tryz.func214,Tryz.ntmps214
 go_wp2_with fail
 go_region_held3 (fun w'=>w'.cell? ⟨w.heap.size,0,none⟩=some (I a.o)∧w'.cell? ⟨w.heap.size,1,none⟩=some (I a.s)∧w'.cell? ⟨w.heap.size,2,none⟩=some (I a.i)∧w'.cell? ⟨w.heap.size+1,0,none⟩=some (I b.o)∧w'.cell? ⟨w.heap.size+1,1,none⟩=some (I b.s)∧w'.cell? ⟨w.heap.size+1,2,none⟩=some (I b.i)) (go_keep)
  (first | (go_at_call 113;refine(zd2 _ _ _).mono ?_;rintro e w' ⟨rfl,h⟩;subst h) | (go_at_call 112;refine(zlu (cmpI a.o b.o) (cmpI a.s b.s) (cmpI a.i b.i) _ _ ?_ ?_ ?_).mono ?_;exact k0.out;exact k1.out;exact k2.out;rintro e w' ⟨rfl,h⟩;subst h))
 go_wp2
 go_ret
 exact⟨rfl,1,_,by rw [Sort.alloc_eq_grow,Sort.alloc_eq_grow,Sort.alloc_eq_grow,Sort.grow_grow,Sort.grow_grow];rfl⟩
end Go.Proofs.YtfmcngncaffloaaGreatDoor
namespace Go.Proofs
open Go.Shelf
def Tryz.sortDot_ren:Go.Shelf.Ren:=⟨fun | 6=>272 | 15=>270 | 14=>285 | 28=>283 | 29=>221 | 20=>291 | 21=>292 | 22=>293 | 23=>294 | 24=>295 | 25=>296 | 26=>297 | 27=>298 | 46=>300 | 47=>287 | 48=>288 | 49=>301 | 50=>302 | 57=>303 | n=>n,fun | 22=>147 | 24=>146 | 25=>293 | 3=>3 | 39=>265 | 0=>0 | 53=>273 | 55=>296 | 4=>4 | 46=>345 | 45=>344 | 50=>350 | 5=>5 | 9=>9 | 66=>354 | 70=>358 | 76=>365 | 77=>366 | n=>n,fun | n=>n⟩
theorem Tryz.sortDot:Go.Proofs.SlLaysF0.n6 Tryz.prog Tryz.sortDot_ren:={
 mixed:=by kernel_rfl
 f6:=⟨Tryz.f272.name,by decide,Tryz.func272.trans (congrArg some (by kernel_rfl))⟩
 f14:=⟨Tryz.f285.name,by decide,Tryz.func285.trans (congrArg some (by kernel_rfl))⟩
 f15:=Tryz.func270.trans (congrArg some (by kernel_rfl))
 f20:=⟨Tryz.f291.name,by decide,Tryz.func291.trans (congrArg some (by kernel_rfl))⟩
 f21:=⟨Tryz.f292.name,by decide,Tryz.func292.trans (congrArg some (by kernel_rfl))⟩
 f22:=⟨Tryz.f293.name,by decide,Tryz.func293.trans (congrArg some (by kernel_rfl))⟩
 f23:=⟨Tryz.f294.name,by decide,Tryz.func294.trans (congrArg some (by kernel_rfl))⟩
 f24:=⟨Tryz.f295.name,by decide,Tryz.func295.trans (congrArg some (by kernel_rfl))⟩
 f25:=⟨Tryz.f296.name,by decide,Tryz.func296.trans (congrArg some (by kernel_rfl))⟩
 f26:=⟨Tryz.f297.name,by decide,Tryz.func297.trans (congrArg some (by kernel_rfl))⟩
 f27:=⟨Tryz.f298.name,by decide,Tryz.func298.trans (congrArg some (by kernel_rfl))⟩
 f28:=Tryz.func283.trans (congrArg some (by kernel_rfl))
 f29:=Tryz.func221.trans (congrArg some (by kernel_rfl))
 f46:=⟨Tryz.f300.name,by decide,Tryz.func300.trans (congrArg some (by kernel_rfl))⟩
 f47:=Tryz.func287.trans (congrArg some (by kernel_rfl))
 f48:=Tryz.func288.trans (congrArg some (by kernel_rfl))
 f49:=⟨Tryz.f301.name,by decide,Tryz.func301.trans (congrArg some (by kernel_rfl))⟩
 f50:=⟨Tryz.f302.name,by decide,Tryz.func302.trans (congrArg some (by kernel_rfl))⟩
 f57:=⟨Tryz.f303.name,by decide,Tryz.func303.trans (congrArg some (by kernel_rfl))⟩
 t0:=Tryz.underlying0
 a0:=Tryz.isAgg0
 z0:=Tryz.sizeOf0
 v0:=Tryz.zeroValue0
 t3:=Tryz.underlying3
 a3:=Tryz.isAgg3
 z3:=Tryz.sizeOf3
 v3:=Tryz.zeroValue3
 t4:=Tryz.underlying4
 a4:=Tryz.isAgg4
 z4:=Tryz.sizeOf4
 v4:=Tryz.zeroValue4
 t5:=Tryz.underlying5
 a5:=Tryz.isAgg5
 z5:=Tryz.sizeOf5
 v5:=Tryz.zeroValue5
 t9:=Tryz.underlying9
 a9:=Tryz.isAgg9
 z9:=Tryz.sizeOf9
 v9:=Tryz.zeroValue9
 t22:=Tryz.underlying147
 a22:=Tryz.isAgg147
 z22:=Tryz.sizeOf147
 v22:=Tryz.zeroValue147
 t25:=Tryz.underlying293
 a25:=Tryz.isAgg293
 z25:=Tryz.sizeOf293
 v25:=Tryz.zeroValue293
 t39:=Tryz.underlying265
 a39:=Tryz.isAgg265
 z39:=Tryz.sizeOf265
 v39:=Tryz.zeroValue265
 t45:=Tryz.underlying344
 a45:=Tryz.isAgg344
 z45:=Tryz.sizeOf344
 v45:=Tryz.zeroValue344
 t46:=Tryz.underlying345
 a46:=Tryz.isAgg345
 z46:=Tryz.sizeOf345
 v46:=Tryz.zeroValue345
 t50:=Tryz.underlying350
 a50:=Tryz.isAgg350
 z50:=Tryz.sizeOf350
 v50:=Tryz.zeroValue350
 t53:=Tryz.underlying273
 a53:=Tryz.isAgg273
 z53:=Tryz.sizeOf273
 v53:=Tryz.zeroValue273
 t55:=Tryz.underlying296
 a55:=Tryz.isAgg296
 z55:=Tryz.sizeOf296
 v55:=Tryz.zeroValue296
 t66:=Tryz.underlying354
 a66:=Tryz.isAgg354
 z66:=Tryz.sizeOf354
 v66:=Tryz.zeroValue354
 t70:=Tryz.underlying358
 a70:=Tryz.isAgg358
 z70:=Tryz.sizeOf358
 v70:=Tryz.zeroValue358
 t76:=Tryz.underlying365
 a76:=Tryz.isAgg365
 z76:=Tryz.sizeOf365
 v76:=Tryz.zeroValue365
 t77:=Tryz.underlying366
 a77:=Tryz.isAgg366
 z77:=Tryz.sizeOf366
 v77:=Tryz.zeroValue366}
def Tryz.sortedI_ren:Go.Shelf.Ren:=⟨fun | 6=>255 | 8=>261 | 9=>262 | 11=>268 | 13=>270 | 12=>269 | 23=>283 | 24=>221 | 14=>274 | 15=>275 | 16=>276 | 17=>277 | 18=>278 | 19=>279 | 20=>280 | 21=>281 | 22=>282 | 25=>286 | 26=>287 | 27=>288 | 28=>289 | 29=>290 | 30=>155 | 31=>299 | n=>n,fun | 26=>3 | 28=>327 | 24=>34 | 0=>0 | 3=>3 | 37=>265 | 48=>273 | 50=>296 | 4=>4 | 40=>345 | 39=>344 | 45=>350 | 5=>5 | 9=>9 | 51=>354 | 55=>358 | 57=>365 | 58=>366 | 33=>159 | n=>n,fun | n=>n⟩
theorem Tryz.sortedI:Go.Proofs.SlLaysZI.n6 Tryz.prog Tryz.sortedI_ren:={
 mixed:=by kernel_rfl
 f6:=⟨Tryz.f255.name,by decide,Tryz.func255.trans (congrArg some (by kernel_rfl))⟩
 f8:=⟨Tryz.f261.name,by decide,Tryz.func261.trans (congrArg some (by kernel_rfl))⟩
 f11:=⟨Tryz.f268.name,by decide,Tryz.func268.trans (congrArg some (by kernel_rfl))⟩
 t0:=Tryz.underlying0
 a0:=Tryz.isAgg0
 z0:=Tryz.sizeOf0
 v0:=Tryz.zeroValue0
 t24:=Tryz.underlying34
 a24:=Tryz.isAgg34
 z24:=Tryz.sizeOf34
 v24:=Tryz.zeroValue34
 t26:=Tryz.underlying3
 a26:=Tryz.isAgg3
 z26:=Tryz.sizeOf3
 v26:=Tryz.zeroValue3
 t28:=Tryz.underlying327
 a28:=Tryz.isAgg327
 z28:=Tryz.sizeOf327
 v28:=Tryz.zeroValue327
 i26:=by kernel_rfl}
def Tryz.sortI_ren:Go.Shelf.Ren:=⟨fun | 5=>262 | 8=>270 | 7=>269 | 19=>283 | 20=>221 | 10=>274 | 11=>275 | 12=>276 | 13=>277 | 14=>278 | 15=>279 | 16=>280 | 17=>281 | 18=>282 | 30=>286 | 31=>287 | 32=>288 | 33=>289 | 34=>290 | 35=>155 | 40=>299 | n=>n,fun | 23=>34 | 25=>3 | 3=>3 | 32=>265 | 22=>34 | 0=>0 | 44=>273 | 46=>296 | 4=>4 | 36=>345 | 35=>344 | 41=>350 | 5=>5 | 9=>9 | 53=>354 | 57=>358 | 63=>365 | 64=>366 | n=>n,fun | n=>n⟩
theorem Tryz.sortI:Go.Proofs.SlLaysM.n5 Tryz.prog Tryz.sortI_ren:={
 mixed:=by kernel_rfl
 f5:=⟨Tryz.f262.name,by decide,Tryz.func262.trans (congrArg some (by kernel_rfl))⟩
 f7:=⟨Tryz.f269.name,by decide,Tryz.func269.trans (congrArg some (by kernel_rfl))⟩
 f8:=Tryz.func270.trans (congrArg some (by kernel_rfl))
 f10:=⟨Tryz.f274.name,by decide,Tryz.func274.trans (congrArg some (by kernel_rfl))⟩
 f11:=⟨Tryz.f275.name,by decide,Tryz.func275.trans (congrArg some (by kernel_rfl))⟩
 f12:=⟨Tryz.f276.name,by decide,Tryz.func276.trans (congrArg some (by kernel_rfl))⟩
 f13:=⟨Tryz.f277.name,by decide,Tryz.func277.trans (congrArg some (by kernel_rfl))⟩
 f14:=⟨Tryz.f278.name,by decide,Tryz.func278.trans (congrArg some (by kernel_rfl))⟩
 f15:=⟨Tryz.f279.name,by decide,Tryz.func279.trans (congrArg some (by kernel_rfl))⟩
 f16:=⟨Tryz.f280.name,by decide,Tryz.func280.trans (congrArg some (by kernel_rfl))⟩
 f17:=⟨Tryz.f281.name,by decide,Tryz.func281.trans (congrArg some (by kernel_rfl))⟩
 f18:=⟨Tryz.f282.name,by decide,Tryz.func282.trans (congrArg some (by kernel_rfl))⟩
 f19:=Tryz.func283.trans (congrArg some (by kernel_rfl))
 f20:=Tryz.func221.trans (congrArg some (by kernel_rfl))
 f30:=⟨Tryz.f286.name,by decide,Tryz.func286.trans (congrArg some (by kernel_rfl))⟩
 f31:=Tryz.func287.trans (congrArg some (by kernel_rfl))
 f32:=Tryz.func288.trans (congrArg some (by kernel_rfl))
 f33:=⟨Tryz.f289.name,by decide,Tryz.func289.trans (congrArg some (by kernel_rfl))⟩
 f34:=⟨Tryz.f290.name,by decide,Tryz.func290.trans (congrArg some (by kernel_rfl))⟩
 f35:=⟨Tryz.f155.name,by decide,Tryz.func155.trans (congrArg some (by kernel_rfl))⟩
 f40:=⟨Tryz.f299.name,by decide,Tryz.func299.trans (congrArg some (by kernel_rfl))⟩
 t0:=Tryz.underlying0
 a0:=Tryz.isAgg0
 z0:=Tryz.sizeOf0
 v0:=Tryz.zeroValue0
 t3:=Tryz.underlying3
 a3:=Tryz.isAgg3
 z3:=Tryz.sizeOf3
 v3:=Tryz.zeroValue3
 t4:=Tryz.underlying4
 a4:=Tryz.isAgg4
 z4:=Tryz.sizeOf4
 v4:=Tryz.zeroValue4
 t5:=Tryz.underlying5
 a5:=Tryz.isAgg5
 z5:=Tryz.sizeOf5
 v5:=Tryz.zeroValue5
 t9:=Tryz.underlying9
 a9:=Tryz.isAgg9
 z9:=Tryz.sizeOf9
 v9:=Tryz.zeroValue9
 t22:=Tryz.underlying34
 a22:=Tryz.isAgg34
 z22:=Tryz.sizeOf34
 v22:=Tryz.zeroValue34
 t23:=Tryz.underlying34
 a23:=Tryz.isAgg34
 z23:=Tryz.sizeOf34
 v23:=Tryz.zeroValue34
 t25:=Tryz.underlying3
 a25:=Tryz.isAgg3
 z25:=Tryz.sizeOf3
 v25:=Tryz.zeroValue3
 t32:=Tryz.underlying265
 a32:=Tryz.isAgg265
 z32:=Tryz.sizeOf265
 v32:=Tryz.zeroValue265
 t35:=Tryz.underlying344
 a35:=Tryz.isAgg344
 z35:=Tryz.sizeOf344
 v35:=Tryz.zeroValue344
 t36:=Tryz.underlying345
 a36:=Tryz.isAgg345
 z36:=Tryz.sizeOf345
 v36:=Tryz.zeroValue345
 t41:=Tryz.underlying350
 a41:=Tryz.isAgg350
 z41:=Tryz.sizeOf350
 v41:=Tryz.zeroValue350
 t44:=Tryz.underlying273
 a44:=Tryz.isAgg273
 z44:=Tryz.sizeOf273
 v44:=Tryz.zeroValue273
 t46:=Tryz.underlying296
 a46:=Tryz.isAgg296
 z46:=Tryz.sizeOf296
 v46:=Tryz.zeroValue296
 t53:=Tryz.underlying354
 a53:=Tryz.isAgg354
 z53:=Tryz.sizeOf354
 v53:=Tryz.zeroValue354
 t57:=Tryz.underlying358
 a57:=Tryz.isAgg358
 z57:=Tryz.sizeOf358
 v57:=Tryz.zeroValue358
 t63:=Tryz.underlying365
 a63:=Tryz.isAgg365
 z63:=Tryz.sizeOf365
 v63:=Tryz.zeroValue365
 t64:=Tryz.underlying366
 a64:=Tryz.isAgg366
 z64:=Tryz.sizeOf366
 v64:=Tryz.zeroValue366}
def Tryz.compactI_ren:Go.Shelf.Ren:=⟨fun | 20=>254 | n=>n,fun | 22=>34 | 3=>3 | 4=>4 | 0=>0 | n=>n,fun | n=>n⟩
theorem Tryz.compactI:Go.Proofs.Lays2.n20 Tryz.prog Tryz.compactI_ren:={
 mixed:=by kernel_rfl
 f20:=Tryz.func254.trans (congrArg some (by kernel_rfl))
 t0:=Tryz.underlying0
 a0:=Tryz.isAgg0
 z0:=Tryz.sizeOf0
 v0:=Tryz.zeroValue0
 t3:=Tryz.underlying3
 a3:=Tryz.isAgg3
 z3:=Tryz.sizeOf3
 v3:=Tryz.zeroValue3
 t4:=Tryz.underlying4
 a4:=Tryz.isAgg4
 z4:=Tryz.sizeOf4
 v4:=Tryz.zeroValue4
 t22:=Tryz.underlying34
 a22:=Tryz.isAgg34
 z22:=Tryz.sizeOf34
 v22:=Tryz.zeroValue34
 i3:=by kernel_rfl}
end Go.Proofs
namespace Go.Proofs.YtfmcngncaffloaaGreatDoor
open Go.RowKit
set_option maxRecDepth 100000
instance:Inhabited Wv.Dt:=⟨⟨0,0,0⟩⟩
theorem ltD(a b:Wv.Dt):ltOf cmpD a b=Wv.lessD a b:=zux a b
theorem zef(a b:Wv.Dt):Wv.lessD a b=true↔a.o<b.o∨(a.o=b.o∧(a.s<b.s∨(a.s=b.s∧a.i<b.i))):=by
 unfold Wv.lessD
 split<;>simp<;>omega
theorem zb3(a b:Wv.Dt):Wv.lessD a b=false↔b.o<a.o∨(a.o=b.o∧(b.s<a.s∨(a.s=b.s∧b.i<=a.i))):=by
 rw [←Bool.not_eq_true,zef]
 omega
theorem swoD:Sort.SWO (ltOf cmpD) where
 irrefl x:=by rw [ltD,zb3];omega
 trans x y z h1 h2:=by rw [ltD,zef] at *;omega
 ntrans x y z h1 h2:=by rw [ltD,zb3] at *;omega
theorem totD(x y:Wv.Dt)(h1:ltOf cmpD x y=false)(h2:ltOf cmpD y x=false):x=y:=by
 rw [ltD,zb3] at h1 h2
 cases x;cases y
 simp at *
 omega
def insD(x:Wv.Dt):List Wv.Dt->List Wv.Dt
 | []=> [x]
 | y::r=>if Wv.lessD y x then y::insD x r else x::y::r
def sortD(l:List Wv.Dt):List Wv.Dt:=l.foldr insD []
theorem zg6(x:Wv.Dt):∀l,(insD x l).Perm (x::l)
 | []=>by simp [insD]
 | y::r=>by
  unfold insD
  split
  ·exact((zg6 x r).cons y).trans (List.Perm.swap x y r)
  ·exact List.Perm.refl _
theorem zcm:∀l,(sortD l).Perm l
 | []=>List.Perm.refl _
 | x::r=>(zg6 x _).trans ((zcm r).cons x)
theorem zfo(l:List Wv.Dt):(sortD l).length=l.length:=(zcm l).length_eq
theorem zhp(x:Wv.Dt):∀l,l.Pairwise (fun a b=>(!Wv.lessD b a)=true)->(insD x l).Pairwise (fun a b=>(!Wv.lessD b a)=true)
 | [],_=>by simp [insD]
 | y::r,h=>by
  obtain⟨h1,h2⟩:=List.pairwise_cons.1 h
  unfold insD
  split
  ·rename_i hy
   refine List.pairwise_cons.2 ⟨fun z hz=> ?_,zhp x r h2⟩
   rcases List.mem_cons.1 ((zg6 x r).mem_iff.1 hz) with rfl | hz'
   ·simp only [Bool.not_eq_true',zb3]
    rw [zef] at hy
    omega
   ·exact h1 z hz'
  ·rename_i hy
   refine List.pairwise_cons.2 ⟨fun z hz=> ?_,h⟩
   have hy':Wv.lessD y x=false:=by simpa using hy
   rcases List.mem_cons.1 hz with rfl | hz'
   ·simp [hy']
   ·have h3:=h1 z hz'
    simp only [Bool.not_eq_true',zb3] at h3 ⊢
    rw [zb3] at hy'
    omega
theorem zdb:∀l,(sortD l).Pairwise (fun a b=>(!Wv.lessD b a)=true)
 | []=>List.Pairwise.nil
 | x::r=>zhp x _ (zdb r)
theorem zn2{l r:List Wv.Dt}(hp:l.Perm r)(hs:l.Pairwise (fun a b=>(!Wv.lessD b a)=true)):l=sortD r:=by
 refine List.Perm.eq_of_pairwise (le:=fun a b=>(!Wv.lessD b a)=true) (fun a b _ _ h1 h2=> ?_) hs (zdb r) (hp.trans (zcm r).symm)
 simp only [Bool.not_eq_true'] at h1 h2
 exact totD a b (by rw [ltD];exact h2) (by rw [ltD];exact h1)
theorem zm8(l:List Wv.Dt):l.mergeSort (fun x y=> !(ltOf cmpD) y x)=sortD l:=by
 refine zn2 (List.mergeSort_perm _ _) ?_
 have h:=List.pairwise_mergeSort (le:=fun x y=> !(ltOf cmpD) y x) (fun a b c h1 h2=>by
  simp only [ltD,Bool.not_eq_true',zb3] at *;omega) (fun a b=>by
  simp only [ltD,Bool.or_eq_true,Bool.not_eq_true',zb3];omega) l
 simpa only [ltD] using h
def insI(x:Int):List Int->List Int
 | []=> [x]
 | y::r=>if y<x then y::insI x r else x::y::r
def sortI(l:List Int):List Int:=l.foldr insI []
theorem zg5(x:Int):∀l,(insI x l).Perm (x::l)
 | []=>by simp [insI]
 | y::r=>by
  unfold insI
  split
  ·exact((zg5 x r).cons y).trans (List.Perm.swap x y r)
  ·exact List.Perm.refl _
theorem zeo:∀l,(sortI l).Perm l
 | []=>List.Perm.refl _
 | x::r=>(zg5 x _).trans ((zeo r).cons x)
theorem zho(x:Int):∀l,l.Pairwise (fun a b=>a<=b)->(insI x l).Pairwise (fun a b=>a<=b)
 | [],_=>by simp [insI]
 | y::r,h=>by
  obtain⟨h1,h2⟩:=List.pairwise_cons.1 h
  unfold insI
  split
  ·refine List.pairwise_cons.2 ⟨fun z hz=> ?_,zho x r h2⟩
   rcases List.mem_cons.1 ((zg5 x r).mem_iff.1 hz) with rfl | hz'
   ·omega
   ·exact h1 z hz'
  ·refine List.pairwise_cons.2 ⟨fun z hz=> ?_,h⟩
   rcases List.mem_cons.1 hz with rfl | hz'
   ·omega
   ·have h3:=h1 z hz'
    omega
theorem zen:∀l,(sortI l).Pairwise (fun a b=>a<=b)
 | []=>List.Pairwise.nil
 | x::r=>zho x _ (zen r)
theorem zxp{l r:List Int}(hp:l.Perm r)(hs:l.Pairwise (fun a b=>a<=b)):l=sortI r:=
 List.Perm.eq_of_pairwise (le:=fun a b=>a<=b) (fun a b _ _ h1 h2=>by omega) hs (zen r) (hp.trans (zeo r).symm)
theorem zm7{l r:List Int}(hp:l.Perm r):l.mergeSort (fun x y=>decide (x<=y))=sortI r:=by
 refine zxp ((List.mergeSort_perm _ _).trans hp) ?_
 have h:=List.pairwise_mergeSort (le:=fun x y:Int=>decide (x<=y)) (fun a b c h1 h2=>by simp at *;omega) (fun a b=>by simp;omega) l
 exact h.imp (fun h=>by simpa using h)
end Go.Proofs.YtfmcngncaffloaaGreatDoor
namespace Go.Proofs.YtfmcngncaffloaaGreatDoor
open Go.RowKit
set_option maxRecDepth 100000
attribute [local go_sem ↓] za9 zbo
theorem zo6(a1 a2:Option Addr)(n1 n2:Nat)(w:World):
  Calls Tryz.prog 88 #[.slice a1 0 n1, .slice a2 0 n2] w fun e w'=>e= .returned (.bool true)∧Below w.heap.size w w':=by
 go_enter Tryz.func88,Tryz.ntmps88
 go_wp2_with fail
 go_rounds 1
 go_ret
 exact⟨rfl,Below.refl _ _⟩
theorem zo5(zs:List Int)(p1 q1 p2 q2:Nat)(n1 n2:Nat)(w:World)(h1:Hid (∀j u,(zs.map I)[j]?=some u->w.cell? ⟨p1,q1+j,none⟩=some u))(h2:Hid (∀j u,(zs.map I)[j]?=some u->w.cell? ⟨p2,q2+j,none⟩=some u))(hl:zs.length<=4611686018427387904):
  Calls Tryz.prog 88 #[.slice (some ⟨p1,q1,none⟩) zs.length n1, .slice (some ⟨p2,q2,none⟩) zs.length n2] w fun e w'=>e= .returned (.bool true)∧Below w.heap.size w w':=by
 go_enter Tryz.func88,Tryz.ntmps88
 go_wp2_with fail
 go_loopw [5] (fun x wr=>∃k:Nat,k<=zs.length∧x=I k∧Hid (Below w.heap.size w wr)) (fun x _=>zs.length - (intOf x).toNat)
 case atStart=>exact⟨0,Nat.zero_le _,rfl,Below.refl _ _⟩
 case round=>
  obtain⟨k,hk,rfl,hb⟩:=hrel
  by_cases hlt:k<zs.length
  ·have c1:wr.cell? ⟨p1,q1+k,none⟩=some (I zs[k]):=zaa hb.out (h1.out k _ (by simp [hlt]))
   have c2:wr.cell? ⟨p2,q2+k,none⟩=some (I zs[k]):=zaa hb.out (h2.out k _ (by simp [hlt]))
   generalize zs[k]=z at c1 c2
   have hki:(k:Int)<(zs.length:Int):=by omega
   have hzz:(z !=z)=false:=by simp
   go_wp2_with fail
   go_quiet (fail)
   go_wp2
   exact⟨⟨k+1,by omega,by go_num,zal hb.out _⟩,by simp [intOf];omega⟩
  ·obtain rfl:k=zs.length:=by omega
   go_wp2
   go_ret
   exact⟨rfl,hb.out⟩
theorem zs0(zs:List Int)(a1 a2:Option Addr)(n1 n2:Nat)(w:World)(h1:At w a1 (zs.map I))(h2:At w a2 (zs.map I))(hl:zs.length<=4611686018427387904):
  Calls Tryz.prog 88 #[.slice a1 zs.length n1, .slice a2 zs.length n2] w fun e w'=>e= .returned (.bool true)∧Below w.heap.size w w':=by
 rcases Nat.eq_zero_or_pos zs.length with hz | hz
 ·obtain rfl:=List.eq_nil_of_length_eq_zero hz
  exact zo6 a1 a2 n1 n2 w
 ·obtain⟨p1,q1,rfl,_,c1⟩:=h1.first (by simpa using hz)
  obtain⟨p2,q2,rfl,_,c2⟩:=h2.first (by simpa using hz)
  exact zo5 zs p1 q1 p2 q2 n1 n2 w c1 c2 hl
end Go.Proofs.YtfmcngncaffloaaGreatDoor
