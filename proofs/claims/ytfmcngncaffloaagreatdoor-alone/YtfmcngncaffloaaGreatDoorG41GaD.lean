import Derived.Test.YtfmcngncaffloaaGreatDoorG33OwP
import Derived.Test.YtfmcngncaffloaaGreatDoorG40REnc2
set_option maxHeartbeats 6400000
namespace Go.Proofs.YtfmcngncaffloaaGreatDoor
open Go.RowKit
set_option maxRecDepth 100000
theorem RrOk.addb{w wE w7:World}{own:Clr}{c p g7 cap7:Nat}{x:Rr}{dv ev:Value}(h:RrIn w own c p x dv ev)(hc:0<c)(m:Bm)(hm:BatIn w own m)(lg:List UInt8)(hb:Below w.heap.size w wE)(hT7:Tch (fun k=>dv.ownBlock=some k) wE w7)
  (hO7:w7.ownsRow 0 124 5 (.slice (some ⟨g7,0,none⟩) (x.bs.length+1) cap7) (x.bs.length+1) (flat Bm.cells x.bs++m.cells)) (hA7:dv.ownBlock=some g7∨wE.heap.size<=g7):
  RrOk w own c p {x with bs:=x.bs++ [m],log:=lg} (((w7.setCell ⟨p,1,none⟩ (.slice (some ⟨g7,0,none⟩) (x.bs.length+1) cap7)).setCell ⟨p,3,none⟩ (.string ⟨lg.toArray⟩)).setCell ⟨p,2,none⟩ (.slice none 0 0)):=by
 obtain⟨n1,n2,n3⟩:=h.nep
 have hsz:=hb.size
 have hpl:=h.blk.lt
 have hel:∀g,dv.ownBlock=some g->g<w.heap.size:=fun g e=>(h.done.lt g e).2
 have hlen:(x.bs++ [m]).length=x.bs.length+1:=by simp
 obtain⟨W,hW⟩:∃W,W=((w7.setCell ⟨p,1,none⟩ (.slice (some ⟨g7,0,none⟩) (x.bs.length+1) cap7)).setCell ⟨p,3,none⟩ (.string ⟨lg.toArray⟩)).setCell ⟨p,2,none⟩ (.slice none 0 0):=⟨_,rfl⟩
 have hT8:Tch (fun k=>dv.ownBlock=some k∨k=p) wE W:=by
  have key:∀(W:World) (o:Nat) (v:Value),Tch (fun k=>dv.ownBlock=some k∨k=p) wE W->Tch (fun k=>dv.ownBlock=some k∨k=p) wE (W.setCell ⟨p,o,none⟩ v):=fun W o v h=>Tch.setCell (F:=fun k=>dv.ownBlock=some k∨k=p) h ⟨p,o,none⟩ v (.inl (.inr rfl))
  rw [hW]
  exact key _ _ _ (key _ _ _ (key _ _ _ (hT7.mono (fun _ _ e=> .inl e))))
 have hTw:Tch (fun k=>dv.ownBlock=some k∨k=p) w W:=(Tch.below hb).trans hT8 (fun _ _ h=>h) (fun _ _ h=>h)
 have hTc:Tch (fun k=>own k=c) w W:=hTw.mono (fun k _ e=>by
  rcases e with e | e
  ·exact h.own2 k e
  ·rw [e];exact h.own1)
 have hgp:g7 ≠ p:=by
  rcases hA7 with e | e
  ·exact n1 g7 e
  ·omega
 have hK:Kp (fun d=>d=0) own (fun b=>if b<w.heap.size then own b else if b=g7 then c else 0) w W:=fun b hl hz=>⟨hTc.block b hl (by rw [hz];omega),by show(if b<w.heap.size then own b else _)=_;rw [if_pos hl]⟩
 rw [←hW]
 refine⟨fun b=>if b<w.heap.size then own b else if b=g7 then c else 0,fun b hl _=> ?_,fun b hl=> ?_,fun b hl e=> ?_,⟨.slice (some ⟨g7,0,none⟩) (x.bs.length+1) cap7,ev, ?_, ?_, ?_, ?_, ?_, ?_⟩,hTc⟩
 ·show(if b<w.heap.size then own b else _)=_
  rw [if_pos hl]
 ·show(if b<w.heap.size then own b else if b=g7 then c else 0)=0∨(if b<w.heap.size then own b else if b=g7 then c else 0)=c
  rw [if_neg (by omega)]
  by_cases e:b=g7
  ·rw [if_pos e];exact .inr rfl
  ·rw [if_neg e];exact .inl rfl
 ·show(if b<w.heap.size then own b else if b=g7 then c else 0)=0∨(if b<w.heap.size then own b else if b=g7 then c else 0)=c
  rw [if_pos hl];exact .inr e
 ·rw [hW]
  exact(((hT7.blk (h.blk.kept hb hpl) (fun e=>n1 p e rfl)).set 1 (.slice (some ⟨g7,0,none⟩) (x.bs.length+1) cap7)).set 3 (.string ⟨lg.toArray⟩)).set 2 (.slice none 0 0)
 ·show(if p<w.heap.size then own p else _)=_
  rw [if_pos hpl];exact h.own1
 ·show W.ownsRow 0 124 5 _ (x.bs++ [m]).length (flat Bm.cells (x.bs++ [m]))
  rw [hlen,zez,hW]
  exact zah hO7 (fun b e=>by cases e;rw [heap_setCell_other _ ⟨p,2,none⟩ g7 _ hgp,heap_setCell_other _ ⟨p,3,none⟩ g7 _ hgp,heap_setCell_other _ ⟨p,1,none⟩ g7 _ hgp])
 ·intro g e
  cases e
  show(if g7<w.heap.size then own g7 else if g7=g7 then c else 0)=c
  by_cases hq:g7<w.heap.size
  ·rw [if_pos hq]
   rcases hA7 with e | e
   ·exact h.own2 g7 e
   ·omega
  ·rw [if_neg hq,if_pos rfl]
 ·intro b hq
  rcases List.mem_append.1 hq with hq | hq
  ·exact(h.bats b hq).kp hK rfl
  ·rw [List.mem_singleton.1 hq];exact hm.kp hK rfl
 ·refine⟨zah h.effs.row (fun g e=>hTw.block g (h.effs.row.lt g e).2 (fun q=> ?_)),fun g e=> ?_,fun y hy=>(h.effs.dots y hy).kp hK rfl⟩
  ·rcases q with q | q
   ·exact n3 g g q e rfl
   ·exact n2 g e q
  ·show(if g<w.heap.size then own g else _)=_
   rw [if_pos (h.effs.row.lt g e).2];exact h.effs.own2 g e
theorem RrIn.sync{w:World}{own:Clr}{c p:Nat}{x:Rr}{dv ev:Value}(h:RrIn w own c p x dv ev)(hc:0<c)(z:Int):RrOk w own c p {x with sy:=z} (w.setCell ⟨p,4,none⟩ (I z)):=by
 have hT:Tch (fun k=>k=p) w (w.setCell ⟨p,4,none⟩ (I z)):=Tch.setCell (F:=fun k=>k=p) (Tch.refl _ w) ⟨p,4,none⟩ _ (.inl rfl)
 have hT2:Tch (fun k=>own k=c) w (w.setCell ⟨p,4,none⟩ (I z)):=hT.mono (fun k _ e=>by rw [e];exact h.own1)
 obtain⟨n1,n2,n3⟩:=h.nep
 have hK:=zp0 (own:=own) (c:=c) hT2
 refine RrOk.mk ⟨dv,ev,h.blk.set 4 (I z),(zac _ _ _ _ h.blk.lt).trans h.own1,zah h.done (fun g e=>hT.block g (h.done.lt g e).2 (n1 g e)),fun g e=>(zac _ _ _ _ (h.done.lt g e).2).trans (h.own2 g e),fun m hm=>(h.bats m hm).kp hK (by show 0 ≠ c;omega),⟨zah h.effs.row (fun g e=>hT.block g (h.effs.row.lt g e).2 (n2 g e)),fun g e=>(zac _ _ _ _ (h.effs.row.lt g e).2).trans (h.effs.own2 g e),fun y hy=>(h.effs.dots y hy).kp hK (by show 0 ≠ c;omega)⟩⟩ hT2
theorem RrIn.sync2{w:World}{own:Clr}{c p:Nat}{x:Rr}{dv ev:Value}(h:RrIn w own c p x dv ev)(hc:0<c)(z:Int):RrIn (w.setCell ⟨p,4,none⟩ (I z)) (newTo own w.heap.size 0) c p {x with sy:=z} dv ev∧Tch (fun k=>k=p) w (w.setCell ⟨p,4,none⟩ (I z)):=by
 have hT:Tch (fun k=>k=p) w (w.setCell ⟨p,4,none⟩ (I z)):=Tch.setCell (F:=fun k=>k=p) (Tch.refl _ w) ⟨p,4,none⟩ _ (.inl rfl)
 have hT2:Tch (fun k=>own k=c) w (w.setCell ⟨p,4,none⟩ (I z)):=hT.mono (fun k _ e=>by rw [e];exact h.own1)
 obtain⟨n1,n2,n3⟩:=h.nep
 have hK:=zp0 (own:=own) (c:=c) hT2
 exact⟨⟨h.blk.set 4 (I z),(zac _ _ _ _ h.blk.lt).trans h.own1,zah h.done (fun g e=>hT.block g (h.done.lt g e).2 (n1 g e)),fun g e=>(zac _ _ _ _ (h.done.lt g e).2).trans (h.own2 g e),fun m hm=>(h.bats m hm).kp hK (by show 0 ≠ c;omega),⟨zah h.effs.row (fun g e=>hT.block g (h.effs.row.lt g e).2 (n2 g e)),fun g e=>(zac _ _ _ _ (h.effs.row.lt g e).2).trans (h.effs.own2 g e),fun y hy=>(h.effs.dots y hy).kp hK (by show 0 ≠ c;omega)⟩⟩,hT⟩
theorem RrIn.froze{w w1:World}{own:Clr}{c p:Nat}{x:Rr}{dv:Value}{ea:Option Addr}{ec n r g:Nat}(h:RrIn w own c p x dv (.slice ea x.es.length ec))(hc:0<c)(hb:Below w.heap.size w w1)(hg:w.heap.size<=g)(hk:Blk w1 g ((cntK x.bs n).map I).toArray 3):
  ∃own',(∀b,b<w.heap.size->own b ≠ c->own' b=own b)∧(∀b,w.heap.size<=b->own' b=0)∧(∀b,b<w.heap.size->own b=c->own' b=0∨own' b=c)∧
   RrIn ((w1.setCell ⟨p,5,none⟩ (.bool false)).setCell ⟨p,6,none⟩ (.slice none 0 0)) own' c p {x with op:=false,es:= []} dv (.slice none 0 0)∧BatIn ((w1.setCell ⟨p,5,none⟩ (.bool false)).setCell ⟨p,6,none⟩ (.slice none 0 0)) own' (zbi x n r g ea ec)∧
   Tch (fun k=>own k=c) w ((w1.setCell ⟨p,5,none⟩ (.bool false)).setCell ⟨p,6,none⟩ (.slice none 0 0)):=by
 obtain⟨n1,n2,n3⟩:=h.nep
 have hsz:=hb.size
 have hpl:=h.blk.lt
 obtain⟨W,hW⟩:∃W,W=(w1.setCell ⟨p,5,none⟩ (.bool false)).setCell ⟨p,6,none⟩ (.slice none 0 0):=⟨_,rfl⟩
 have hT1:Tch (fun k=>k=p) w1 W:=by
  rw [hW]
  exact Tch.setCell (F:=fun k=>k=p) (Tch.setCell (F:=fun k=>k=p) (Tch.refl _ w1) ⟨p,5,none⟩ _ (.inl rfl)) ⟨p,6,none⟩ _ (.inl rfl)
 have hTw:Tch (fun k=>k=p) w W:=(Tch.below hb).trans hT1 (fun _ _ h=>h) (fun _ _ h=>h)
 have hp0:own p=c:=h.own1
 let own':Clr:=fun b=>if b<w.heap.size then(if (Value.slice ea x.es.length ec).ownBlock=some b then 0 else own b) else 0
 have o1:∀b,b<w.heap.size->(Value.slice ea x.es.length ec).ownBlock ≠ some b->own' b=own b:=fun b hl hn=>by show(if b<w.heap.size then(if _=some b then 0 else own b) else 0)=_;rw [if_pos hl,if_neg hn]
 have o2:∀b,(Value.slice ea x.es.length ec).ownBlock=some b->own' b=0:=fun b e=>by
  show(if b<w.heap.size then(if _=some b then 0 else own b) else 0)=_
  rw [if_pos (h.effs.row.lt b e).2,if_pos e]
 have o3:∀b,w.heap.size<=b->own' b=0:=fun b hl=>by show(if b<w.heap.size then _ else 0)=_;rw [if_neg (by omega)]
 have hK:Kp (fun d=>d=0) own own' w W:=fun b hl hz=>⟨hTw.block b hl (fun e=>by rw [e] at hz;omega),o1 b hl (fun e=>by have:=h.effs.own2 b e;omega)⟩
 rw [←hW]
 refine⟨own',fun b hl hn=>o1 b hl (fun e=>hn (h.effs.own2 b e)),fun b hl=>o3 b hl,fun b hl e=> ?_,⟨?_, ?_, ?_, ?_, ?_,EffsAt.none _ _ _⟩,⟨?_,rfl, ?_, ?_⟩,hTw.mono (fun k _ e=>by rw [e];exact h.own1)⟩
 ·by_cases q:(Value.slice ea x.es.length ec).ownBlock=some b
  ·exact .inl (o2 b q)
  ·exact .inr ((o1 b hl q).trans e)
 ·rw [hW]
  exact((h.blk.kept hb hpl).set 5 (.bool false)).set 6 (.slice none 0 0)
 ·exact(o1 p hpl (fun e=>n2 p e rfl)).trans h.own1
 ·exact zah h.done (fun g e=>hTw.block g (h.done.lt g e).2 (n1 g e))
 ·exact fun g e=>(o1 g (h.done.lt g e).2 (fun q=>n3 g g e q rfl)).trans (h.own2 g e)
 ·exact fun b hq=>(h.bats b hq).kp hK rfl
 ·intro j u hj
  have hj:((cntK x.bs n).map I)[j]?=some u:=hj
  refine⟨g,0,rfl,o3 g hg, ?_⟩
  have hgp:g ≠ p:=by omega
  have hk2:Blk W g ((cntK x.bs n).map I).toArray 3:=hT1.blk hk hgp
  rw [Nat.zero_add,hk2.cell]
  simpa using hj
 ·intro j u hj
  obtain⟨b,o,e,hcl⟩:=zaw h.effs.row j u hj
  have hbo:(Value.slice ea x.es.length ec).ownBlock=some b:=by rw [e];rfl
  exact⟨b,o,e,o2 b hbo,zan hcl (hTw.block b (zag hcl) (n2 b hbo))⟩
 ·exact fun y hy=>(h.effs.dots y hy).kp hK rfl
section
variable {w : World} {own : Clr} {c p : Nat} {x : Rr} {dv ev : Value}
theorem zlo(m:Bm)(h:RrIn w own c p x dv ev)(hc:0<c)(hm:BatIn w own m)(hbl:x.bs.length<=1000000)(hll:x.log.length+(Wv.frameB m.b).length<=100000000)
  (hEnc:∀w',Below w.heap.size w w'->Calls Tryz.prog 173 #[bmV m] w' fun e w''=>e= .returned (.tuple #[.string ⟨(Wv.frameB m.b).toArray⟩,I 0])∧Below w'.heap.size w' w''):
  Calls Tryz.prog 135 #[.pointer (some ⟨p,0,none⟩),bmV m] w fun e w'=>e= .returned (.string ⟨(Wv.frameB m.b).toArray⟩)∧RrOk w own c p {x with bs:=x.bs++ [m],log:=x.log++Wv.frameB m.b} w':=by
 obtain⟨i1,HI1⟩:∃i,Hid (Tryz.prog.info? 124=some i∧i.zero=some (.agg #[.int .i64 0, .int .i64 0, .int .i64 0, .slice none 0 0, .slice none 0 0])∧i.size=5∧i.bytes=72):=by obtain⟨i,h⟩:=info_parts zlx;exact⟨i,h⟩
 obtain⟨da,dc,rfl⟩:=zar h.done
 obtain⟨wA,hwA⟩:∃wA,wA=w.alloc (.cells (bmC m) 124):=⟨_,rfl⟩
 have HX:Hid (Blk wA w.heap.size (bmC m) 124):=by rw [hwA];exact heap_alloc_new w _
 have HBA:Hid (Below w.heap.size w wA):=by rw [hwA];exact(Below.refl _ _).alloc (Nat.le_refl _) _
 have HR:Hid (RrIn w own c p x (.slice da x.bs.length dc) ev):=h
 have HM:Hid (BatIn w own m):=hm
 have HE1:Hid (Calls Tryz.prog 173 #[bmV m] wA fun e w''=>e= .returned (.tuple #[.string ⟨(Wv.frameB m.b).toArray⟩,I 0])∧Below wA.heap.size wA w''):=hEnc wA HBA.out
 have hpd:(Value.slice da x.bs.length dc).ownBlock ≠ some p:=fun e=>h.nep.1 p e rfl
 have hpl:p<w.heap.size:=h.blk.lt
 have hone:∀u∈m.cells,u.oneCell'=true:=by have:=zjl [m];simpa [flat] using this
 have HLG:=zgq x.log (Wv.frameB m.b)
 generalize hfr:Wv.frameB m.b=fr at *
 have y0:wA.cell? ⟨w.heap.size,0,none⟩=some (I m.b.o):=HX.out.cell 0
 have y1:wA.cell? ⟨w.heap.size,1,none⟩=some (I m.b.s):=HX.out.cell 1
 have y2:wA.cell? ⟨w.heap.size,2,none⟩=some (I m.b.t):=HX.out.cell 2
 have y3:wA.cell? ⟨w.heap.size,3,none⟩=some (.slice m.ca m.b.clock.length m.cc):=HX.out.cell 3
 have y4:wA.cell? ⟨w.heap.size,4,none⟩=some (.slice m.ea m.b.effs.length m.ec):=HX.out.cell 4
 clear h hm hEnc
 go_enter Tryz.func135,Tryz.ntmps135
 go_upto_region 1 with fail
 change Code.wp _ _ _ _ (w.alloc (.cells (bmC m) 124))
 rw [←hwA]
 clear hwA
 go_wp2_with fail
 refine HE1.out.mono ?_
 rintro e wE ⟨rfl,hbE⟩
 have hsA:w.heap.size<wA.heap.size:=HX.out.lt
 have HBE:Hid (Below w.heap.size w wE):=HBA.out.trans (hbE.mono (by omega))
 have HXE:Hid (Blk wE w.heap.size (bmC m) 124):=HX.out.kept hbE hsA
 clear hbE HE1 HX HBA y0 y1 y2 y3 y4
 have HRE:Hid (wE.ownsRow 0 124 5 (.slice da x.bs.length dc) x.bs.length (flat Bm.cells x.bs)):=za6 HR.out.done HBE.out
 have HPE:Hid (Blk wE p #[.bool true, .slice da x.bs.length dc, .slice none 0 0, .string ⟨x.log.toArray⟩,I x.sy, .bool x.op,ev, .slice none 0 0] 111):=HR.out.blk.kept HBE.out hpl
 have d1:wE.cell? ⟨p,1,none⟩=some (.slice da x.bs.length dc):=HPE.out.cell 1
 have x0:wE.cell? ⟨w.heap.size,0,none⟩=some (I m.b.o):=HXE.out.cell 0
 have x1:wE.cell? ⟨w.heap.size,1,none⟩=some (I m.b.s):=HXE.out.cell 1
 have x2:wE.cell? ⟨w.heap.size,2,none⟩=some (I m.b.t):=HXE.out.cell 2
 have x3:wE.cell? ⟨w.heap.size,3,none⟩=some (.slice m.ca m.b.clock.length m.cc):=HXE.out.cell 3
 have x4:wE.cell? ⟨w.heap.size,4,none⟩=some (.slice m.ea m.b.effs.length m.ec):=HXE.out.cell 4
 have e1:(wE.alloc (.cells (bmC m) 124)).cell? ⟨p,1,none⟩=some (.slice da x.bs.length dc):=zaa ((Below.refl _ _).alloc (Nat.le_refl _) _) d1
 have hszE:w.heap.size<=wE.heap.size:=HBE.out.size
 go_wp2_with fail
 go_cut [5] (fun v5 wx=>v5= .string ⟨fr.toArray⟩∧∃g7 cap7 w7,wx=w7.setCell ⟨p,1,none⟩ (.slice (some ⟨g7,0,none⟩) (x.bs.length+1) cap7)∧Hid (Tch (fun k=>(Value.slice da x.bs.length dc).ownBlock=some k) wE w7∧w7.ownsRow 0 124 5 (.slice (some ⟨g7,0,none⟩) (x.bs.length+1) cap7) (x.bs.length+1) (flat Bm.cells x.bs++m.cells)∧((Value.slice da x.bs.length dc).ownBlock=some g7∨wE.heap.size<=g7)))
 case first=>
  go_region_law ((refine step_append_lies _ (by rfl) _ _ _ (by rfl) 0 124 i1 (.agg #[.int .i64 0, .int .i64 0, .int .i64 0, .slice none 0 0, .slice none 0 0]) 5 72 Tryz.underlying108 HI1.out.1 HI1.out.2.1 HI1.out.2.2.1 HI1.out.2.2.2 (by rfl) (by omega) (.slice da x.bs.length dc) x.bs.length (flat Bm.cells x.bs) (by rfl) (by first | exact HRE.out.alloc _ | exact(HRE.out.alloc _).drew | exact(HRE.out.drew).alloc _) ⟨wE.heap.size,0,none⟩ 1 1 m.cells (by rfl) (by rfl) (by first | exact zas wE _ _ | exact zb2 wE _ _) hone (by omega) (by unfold maxLen;omega) (by omega) (by omega) (wE.heap.size+1) (by simp) ?_;intro g7 cap7 w7 hown7 hgrow7 hat7 hlt7;have HT7:Hid (Tch (fun k=>(Value.slice da x.bs.length dc).ownBlock=some k) wE w7):=(by first | exact((Tch.refl _ wE).drew.alloc _).then (Tch.grown hgrow7) | exact((Tch.refl _ wE).alloc _).then (Tch.grown hgrow7));have HO7:Hid (w7.ownsRow 0 124 5 (.slice (some ⟨g7,0,none⟩) (x.bs.length+1) cap7) (x.bs.length+1) (flat Bm.cells x.bs++m.cells)):=hown7;have HA7:Hid ((Value.slice da x.bs.length dc).ownBlock=some g7∨g7=wE.heap.size+1):=hat7;have f1:w7.cell? ⟨p,1,none⟩=some (.slice da x.bs.length dc):=zb0 HT7.out d1 hpd;have z1:w7.frozen? ⟨p,1,none⟩=false:=(HT7.out.blk HPE.out hpd).frozen 1;clear hown7 hgrow7 hat7 hlt7))
  all_goals
   (go_wp2_with fail
    go_meet
    exact⟨rfl,g7,cap7,w7,rfl,HT7.out,HO7.out,HA7.out.imp id (fun e=>by omega)⟩)
 case rest=>
  obtain⟨rfl,g7,cap7,w7,rfl,HX7⟩:=hcut
  have HP7:Hid (Blk (w7.setCell ⟨p,1,none⟩ (.slice (some ⟨g7,0,none⟩) (x.bs.length+1) cap7)) p #[.bool true, .slice (some ⟨g7,0,none⟩) (x.bs.length+1) cap7, .slice none 0 0, .string ⟨x.log.toArray⟩,I x.sy, .bool x.op,ev, .slice none 0 0] 111):=(HX7.out.1.blk HPE.out hpd).set 1 _
  have HEND:Hid (RrOk w own c p {x with bs:=x.bs++ [m],log:=x.log++fr} (((w7.setCell ⟨p,1,none⟩ (.slice (some ⟨g7,0,none⟩) (x.bs.length+1) cap7)).setCell ⟨p,3,none⟩ (.string ⟨(x.log++fr).toArray⟩)).setCell ⟨p,2,none⟩ (.slice none 0 0))):=RrOk.addb HR.out hc m HM.out (x.log++fr) HBE.out HX7.out.1 HX7.out.2.1 HX7.out.2.2
  clear HX7 HR HM HRE HXE HPE x0 x1 x2 x3 x4 d1 e1 HBE
  generalize w7.setCell ⟨p,1,none⟩ (.slice (some ⟨g7,0,none⟩) (x.bs.length+1) cap7)=w8 at *
  have k3:w8.cell? ⟨p,3,none⟩=some (.string ⟨x.log.toArray⟩):=HP7.out.cell 3
  have z3:w8.frozen? ⟨p,3,none⟩=false:=HP7.out.frozen 3
  have k2:(w8.setCell ⟨p,3,none⟩ (.string ⟨(x.log++fr).toArray⟩)).cell? ⟨p,2,none⟩=some (.slice none 0 0):=(HP7.out.set 3 _).cell 2
  have z2:(w8.setCell ⟨p,3,none⟩ (.string ⟨(x.log++fr).toArray⟩)).frozen? ⟨p,2,none⟩=false:=(HP7.out.set 3 _).frozen 2
  clear HP7
  go_wp2_with fail
  go_rounds 1
  go_ret
  exact⟨rfl,HEND.out⟩
end
theorem RsIn.swap{w w':World}{own own':Clr}{c q rg cc:Nat}{S:Rs}{wv:Value}{prs:List Nat}(h:RsIn w own c q S rg cc wv prs)(hc:0<c)(r:Nat)(hr:r<prs.length){x:Rr}(h1:∀b,b<w.heap.size->own b ≠ c+1+r->own' b=own b)(h4:RrAt w' own' (c+1+r) prs[r] x)(h5:Tch (fun k=>own k=c+1+r) w w'):RsAt w' own' c q {S with reps:=S.reps.set r x}:=by
 have hm:=h.most
 have hl:=h.len
 have hK:Kp (fun d=>d ≠ c+1+r) own own' w w':=fun b hb hd=>⟨h5.block b hb hd,h1 b hb hd⟩
 refine⟨rg,cc,wv,prs, ?_⟩
 have hrg:=hK rg h.rlt (by show own rg ≠ _;rw [h.own2];omega)
 have hq:=hK q h.blk.lt (by show own q ≠ _;rw [h.own1];omega)
 have hww:=zcn h.way h.ownw hK (by show c+6 ≠ _;omega)
 refine⟨by show Blk w' q #[.slice (some ⟨rg,0,none⟩) (S.reps.set r x).length cc,wv] 106;rw [List.length_set];exact hq.1.trans h.blk,hq.2.trans h.own1,fun k hk=>zan (h.row k hk) hrg.1,hrg.2.trans h.own2,by show prs.length=(S.reps.set r x).length;rw [List.length_set];exact hl,by show(S.reps.set r x).length<=4;rw [List.length_set];exact hm,by show 2<=(S.reps.set r x).length;rw [List.length_set];exact h.least,fun k k1 k2=> ?_,hww.1,h.room,hww.2⟩
 show RrAt w' own' (c+1+k) prs[k] (S.reps.set r x)[k]
 by_cases hk:r=k
 ·subst hk
  rw [List.getElem_set_self]
  exact h4
 ·rw [List.getElem_set_ne hk]
  exact(h.reps k k1 (by have k2:k<(S.reps.set r x).length:=k2;rw [List.length_set] at k2;exact k2)).kp hK (by show 0 ≠ _;omega) (by show c+1+k ≠ _;omega)
def RsMid(w:World)(own:Clr)(c q:Nat)(S:Rs)(B:Nat)(cs:Array Value)(w':World):Prop:=∃own',(∀b,b<w.heap.size->¬(c<=own b∧own b<=c+6)->own' b=own b)∧(∀b,w.heap.size<=b->own' b=0∨(c<=own' b∧own' b<=c+6))∧(∀b,b<w.heap.size->c<=own b->own b<=c+6->own' b=0∨(c<=own' b∧own' b<=c+6))∧RsAt w' own' c q S∧Tch (fun k=>c<=own k∧own k<=c+6) w w'∧own' B=0∧Blk w' B cs 124
theorem RsMid.ok{w w':World}{own:Clr}{c q B:Nat}{S:Rs}{cs:Array Value}(h:RsMid w own c q S B cs w'):RsOk w own c q S w':=by
 obtain⟨own',h1,h2,h3,h4,h5,_⟩:=h
 exact⟨own',h1,h2,h3,h4,h5⟩
theorem zpq{w1 w4 w5:World}{own own1 own2:Clr}{c q rg cc r p B:Nat}{S:Rs}{wv:Value}{prs:List Nat}{x:Rr}{dv ev:Value}{cs:Array Value}{z:Int}(h:RsIn w1 own c q S rg cc wv prs)(hc:0<c)(hr:r<prs.length)(hp:prs[r]=p)(hpl:p<w1.heap.size)(hop:own p=c+1+r)
  (p1:∀b,b<w1.heap.size->own b ≠ c+1+r->own1 b=own b) (p2:∀b,w1.heap.size<=b->own1 b=0) (p3:∀b,b<w1.heap.size->own b=c+1+r->own1 b=0∨own1 b=c+1+r) (hT4:Tch (fun k=>own k=c+1+r) w1 w4)
  (q1:∀b,b<w4.heap.size->own1 b ≠ c+1+r->own2 b=own1 b) (q2:∀b,w4.heap.size<=b->own2 b=0∨own2 b=c+1+r) (q3:∀b,b<w4.heap.size->own1 b=c+1+r->own2 b=0∨own2 b=c+1+r) (hT5:Tch (fun k=>own1 k=c+1+r) w4 w5)
  (hR5:RrIn w5 own2 (c+1+r) p x dv ev) (hB:own2 B=0) (hX:Blk w5 B cs 124) (hm:S.reps.length<=4):RsMid w1 own c q {S with reps:=S.reps.set r {x with sy:=z}} B cs (w5.setCell ⟨p,4,none⟩ (I z)):=by
 obtain⟨hR6,hT6⟩:=hR5.sync2 (by omega) z
 have s4:=hT4.size
 have s5:=hT5.size
 have hl:=h.len
 have P1:∀b,b<w1.heap.size->own b ≠ c+1+r->newTo own2 w5.heap.size 0 b=own b:=fun b hl hn=>by
  have e:=p1 b hl hn
  rw [zac _ _ _ _ (by omega),q1 b (by omega) (by rw [e];exact hn),e]
 have P2:∀b,w1.heap.size<=b->newTo own2 w5.heap.size 0 b=0∨newTo own2 w5.heap.size 0 b=c+1+r:=fun b hl=>by
  by_cases h5:b<w5.heap.size
  ·rw [zac _ _ _ _ h5]
   by_cases h4:b<w4.heap.size
   ·have e:=p2 b hl
    rw [q1 b h4 (by rw [e];omega)];exact .inl e
   ·exact q2 b (by omega)
  ·rw [zae _ _ _ _ (by omega)];exact .inl rfl
 have P3:∀b,b<w1.heap.size->own b=c+1+r->newTo own2 w5.heap.size 0 b=0∨newTo own2 w5.heap.size 0 b=c+1+r:=fun b hl e=>by
  rw [zac _ _ _ _ (by omega)]
  rcases p3 b hl e with e | e
  ·rw [q1 b (by omega) (by rw [e];omega)];exact .inl e
  ·exact q3 b (by omega) e
 have hT:Tch (fun k=>own k=c+1+r) w1 (w5.setCell ⟨p,4,none⟩ (I z)):=by
  refine(hT4.trans hT5 (fun _ _ h=>h) (fun k hk e=> ?_)).trans hT6 (fun _ _ h=>h) (fun k hk e=>by rw [e];exact hop)
  by_cases hn:own k=c+1+r
  ·exact hn
  ·rw [p1 k hk hn] at e;exact e
 have hBl:=hX.lt
 have hBp:B ≠ p:=by
  rintro rfl
  have:=hR5.own1
  omega
 have hAt:=h.swap hc r hr (x:={x with sy:=z}) P1 (by rw [hp];exact⟨dv,ev,hR6⟩) hT
 refine⟨newTo own2 w5.heap.size 0,fun b hl hn=>P1 b hl (by omega),fun b hl=> ?_,fun b hl e1 e2=> ?_,hAt,hT.mono (fun k _ e=>by rw [e];omega),(zac _ _ _ _ hBl).trans hB,hT6.blk hX hBp⟩
 ·rcases P2 b hl with e | e
  ·exact .inl e
  ·exact .inr (by rw [e];omega)
 ·by_cases e:own b=c+1+r
  ·rcases P3 b hl e with e | e
   ·exact .inl e
   ·exact .inr (by rw [e];omega)
  ·exact .inr (by rw [P1 b hl e];exact⟨e1,e2⟩)
def sprL(ls:List Lt)(r:Nat)(fr:List UInt8):Nat->List Lt
 | 0=>ls
 | t+1=>if t=r then sprL ls r fr t else addL (sprL ls r fr t) ⟨1,r,t,fr,false⟩
def zfb(x:Rr)(n r g:Nat)(ea:Option Addr)(ec:Nat):Rr:=⟨x.bs++ [zbi x n r g ea ec],false, [],x.log++Wv.frameB (zao x n r),((x.log++Wv.frameB (zao x n r)).length:Nat)⟩
theorem enc_ok{w:World}{own:Clr}{m:Bm}(h:BatIn w own m)(hb:Wv.isB m.b=true):∀w',Below w.heap.size w w'->Calls Tryz.prog 173 #[bmV m] w' fun e w''=>e= .returned (.tuple #[.string ⟨(Wv.frameB m.b).toArray⟩,I 0])∧Below w'.heap.size w' w'':=by
 intro w' hbl
 obtain⟨b,ca,ea,cc,ec,ms⟩:=m
 have hB:BatAt w' b ca ea ms:=h.at.kept hbl
 have hH:Wv.headOk b=true:=by simp only [Wv.isB,Bool.and_eq_true] at hb;exact hb.1
 have hcl:2<=b.clock.length∧b.clock.length<=4:=by
  simp only [Wv.headOk,Bool.and_eq_true,decide_eq_true_eq] at hH
  exact hH.1.1.1.1.1
 have hel:1<=b.effs.length∧b.effs.length<=5:=by
  simp only [Wv.headOk,Bool.and_eq_true,decide_eq_true_eq] at hH
  exact hH.1.2
 have hml:ms.length=b.effs.length:=by rw [hB.effs];simp
 obtain⟨p,q,rfl,hp0,hc0⟩:=hB.clock.first (by simp;omega)
 obtain⟨p2,q2,rfl,hp2,hc2⟩:=ze0 hB.cells (by omega)
 exact zpc b cc ec p q p2 q2 ms w' hB hb hcl.2 hel hc0 hc2
section
variable {w : World} {own : Clr} {c q rg cc : Nat} {S : Rs} {wv : Value} {prs : List Nat}
def CmtOk(w:World)(own:Clr)(c q:Nat)(S:Rs)(r:Nat)(x:Rr)(n:Nat)(ea:Option Addr)(ec:Nat)(e:Ending)(w':World):Prop:=
 (x.es= []∧e= .returned (.tuple #[I 0,I 0])∧RsOk w own c q {S with reps:=S.reps.set r {x with op:=false,es:= []}} w')∨
 (x.es ≠ []∧∃g,e= .returned (.tuple #[I (zao x n r).s,I 0])∧RsOk w own c q ⟨S.reps.set r (zfb x n r g ea ec),sprL S.way r (Wv.frameB (zao x n r)) n⟩ w')
theorem zpd(r:Nat)(x:Rr)(h:RsIn w own c q S rg cc wv prs)(hc:0<c)(hx:S.reps[r]?=some x)(hb:BsOk x.bs S.reps.length)(hop:x.op=true)(dv:Value)(ea:Option Addr)(ec:Nat)(hr:r<prs.length)(hrr:RrIn w own (c+1+r) prs[r] x dv (.slice ea x.es.length ec))(hisb:x.es ≠ []->Wv.isB (zao x S.reps.length r)=true)(hll:x.log.length<=10000000):
  Calls Tryz.prog 86 #[.pointer (some ⟨q,0,none⟩),I r] w fun e w'=>CmtOk w own c q S r x S.reps.length ea ec e w':=by
 have HOP:=zeb r x h hx
 rw [hop] at HOP
 have HDR:=zkl r x h hb dv ea ec hr hrr
 have hm:=h.most
 have hrn:r<S.reps.length:=by have:=h.len;omega
 have hri:(r:Int)<(S.reps.length:Int):=by omega
 have c0:w.cell? ⟨q,0,none⟩=some (.slice (some ⟨rg,0,none⟩) S.reps.length cc):=h.blk.cell 0
 have c1:w.cell? ⟨rg,r,none⟩=some (.pointer (some ⟨prs[r],0,none⟩)):=h.row r hr
 have HR:Hid (RrIn w own (c+1+r) prs[r] x dv (.slice ea x.es.length ec)):=hrr
 have HSI:Hid (RsIn w own c q S rg cc wv prs):=h
 have hpl:prs[r]<w.heap.size:=hrr.blk.lt
 have HBL:Hid (x.bs.length<=1000000):=hb.len
 have HIB:Hid (x.es ≠ []->Wv.isB (zao x S.reps.length r)=true):=hisb
 have HRP:Hid (∀y w',RrOk w own (c+1+r) prs[r] y w'->RsOk w own c q {S with reps:=S.reps.set r y} w'):=fun y w' ho=>RsOk.rep h hc r hr ho
 have HLL:Hid (x.log.length<=10000000):=hll
 have HSE:Hid ({S with reps:=S.reps.set r x}=S):=Rs.set_self hx
 clear h hx hb hop hrr hisb hll
 have HP:Hid (∃h:r<prs.length,prs[r]=prs[r]):=⟨hr,rfl⟩
 generalize hpp:prs[r]=p at *
 generalize hnn:S.reps.length=n at *
 generalize hbsq:(zao x n r).s=bsq at *
 generalize hbt:(zao x n r).t=bt at *
 go_enter Tryz.func86,Tryz.ntmps86
 go_wp2_with fail
 refine HOP.mono ?_
 rintro e w1 ⟨rfl,hw1⟩
 subst hw1
 clear HOP
 go_wp2_with fail
 refine HDR.mono ?_
 rintro e w2 ⟨g,rfl,hg2,hk2,hb2⟩
 have HB2:Hid (Below w1.heap.size w1 w2):=hb2
 have HK2:Hid (Blk w2 g ((cntK x.bs n).map I).toArray 3):=hk2
 have HG2:Hid (w1.heap.size<=g):=hg2
 have hs2:w1.heap.size<=w2.heap.size:=hb2.size
 clear hg2 hk2 hb2 HDR
 go_upto_region 6 with fail
 obtain⟨w3,hw3⟩:∃w3,w3=w2.alloc (.cells #[I r,I bsq,I bt, .slice (some ⟨g,0,none⟩) n n, .slice ea x.es.length ec] 124):=⟨_,rfl⟩
 have HX3:Hid (Blk w3 w2.heap.size #[I r,I bsq,I bt, .slice (some ⟨g,0,none⟩) n n, .slice ea x.es.length ec] 124):=by rw [hw3];exact heap_alloc_new w2 _
 have HB3:Hid (Below w1.heap.size w1 w3):=by rw [hw3];exact HB2.out.alloc HB2.out.size _
 have HK3:Hid (Blk w3 g ((cntK x.bs n).map I).toArray 3):=by rw [hw3];exact HK2.out.alloc _
 change Code.wp _ _ _ _ (w2.alloc (.cells #[I r,I bsq,I bt, .slice (some ⟨g,0,none⟩) n n, .slice ea x.es.length ec] 124))
 rw [←hw3]
 clear hw3 HK2 HB2
 have HP3:Hid (Blk w3 p #[.bool true,dv, .slice none 0 0, .string ⟨x.log.toArray⟩,I x.sy, .bool x.op, .slice ea x.es.length ec, .slice none 0 0] 111):=HR.out.blk.kept HB3.out hpl
 have k5:w3.cell? ⟨p,5,none⟩=some (.bool x.op):=HP3.out.cell 5
 have z5:w3.frozen? ⟨p,5,none⟩=false:=HP3.out.frozen 5
 have k6:(w3.setCell ⟨p,5,none⟩ (.bool false)).cell? ⟨p,6,none⟩=some (.slice ea x.es.length ec):=(HP3.out.set 5 _).cell 6
 have z6:(w3.setCell ⟨p,5,none⟩ (.bool false)).frozen? ⟨p,6,none⟩=false:=(HP3.out.set 5 _).frozen 6
 obtain⟨own1,p1,p2,p3,hR4,hM4,hT4⟩:=HR.out.froze (n:=n) (r:=r) (g:=g) (by omega) HB3.out HG2.out HK3.out
 go_upto_region 8 with fail
 obtain⟨w4,hw4⟩:∃w4,w4=(w3.setCell ⟨p,5,none⟩ (.bool false)).setCell ⟨p,6,none⟩ (.slice none 0 0):=⟨_,rfl⟩
 have hB2p:w2.heap.size ≠ p:=by omega
 have HX4:Hid (Blk w4 w2.heap.size #[I r,I bsq,I bt, .slice (some ⟨g,0,none⟩) n n, .slice ea x.es.length ec] 124):=by rw [hw4];exact(HX3.out.other hB2p _).other hB2p _
 change Code.wp _ _ _ _ ((w3.setCell ⟨p,5,none⟩ (.bool false)).setCell ⟨p,6,none⟩ (.slice none 0 0))
 rw [←hw4] at hR4 hM4 hT4 ⊢
 clear hw4 k5 z5 k6 z6 HP3 HX3 HK3
 have HR4:Hid (RrIn w4 own1 (c+1+r) p {x with op:=false,es:= []} dv (.slice none 0 0)):=hR4
 have HM4:Hid (BatIn w4 own1 (zbi x n r g ea ec)):=hM4
 have HP123:Hid ((∀b,b<w1.heap.size->own b ≠ c+1+r->own1 b=own b)∧(∀b,w1.heap.size<=b->own1 b=0)∧(∀b,b<w1.heap.size->own b=c+1+r->own1 b=0∨own1 b=c+1+r)∧Tch (fun k=>own k=c+1+r) w1 w4):=⟨p1,p2,p3,hT4⟩
 clear p1 p2 p3 hR4 hM4 hT4
 have x4:w4.cell? ⟨w2.heap.size,4,none⟩=some (.slice ea x.es.length ec):=HX4.out.cell 4
 by_cases hes:x.es= []
 ·have hz:x.es.length=0:=by rw [hes];rfl
  have HEND:Hid (RsOk w1 own c q {S with reps:=S.reps.set r {x with op:=false,es:= []}} w4):=HRP.out _ _ ⟨own1,HP123.out.1,(fun b hl=> .inl (HP123.out.2.1 b hl)),HP123.out.2.2.1,⟨dv,_,HR4.out⟩,HP123.out.2.2.2⟩
  have HES:Hid (x.es= []):=hes
  rw [hz] at x4
  clear HP123 HR4 HM4 HX4 HRP HR HSI HIB HSE HP hes hz
  go_wp2
  go_ret2
  exact .inl ⟨HES.out,rfl,HEND.out⟩
 ·have hpos:0<x.es.length:=List.length_pos_iff.2 hes
  have hne:¬(x.es.length:Int)=0:=by omega
  have HES:Hid (x.es ≠ []):=hes
  obtain⟨m,HMD⟩:∃m,Hid (zbi x n r g ea ec=m):=⟨_,rfl⟩
  have HMB:Hid (m.b=zao x n r):=by show m.b=_;rw [←HMD.out];rfl
  have HMV:Hid (bmV m= .agg #[I r,I bsq,I bt, .slice (some ⟨g,0,none⟩) n n, .slice ea x.es.length ec]):=by
   show bmV m=_
   rw [←HMD.out,←hbsq,←hbt]
   have h1:(zao x n r).clock.length=n:=zfi _ _
   have h2:(zao x n r).effs.length=x.es.length:=List.length_map ..
   show Value.agg #[I r,I (zao x n r).s,I (zao x n r).t, .slice (some ⟨g,0,none⟩) (zao x n r).clock.length n, .slice ea (zao x n r).effs.length ec]=_
   rw [h1,h2]
  have hisb:Wv.isB m.b=true:=by rw [HMB.out];exact HIB.out hes
  have hM:=HM4.out
  rw [HMD.out] at hM
  have hfl:=zey hisb
  have HW:=zlo m HR4.out (by omega) hM HBL.out (by show x.log.length+_<=_;have:=HLL.out;omega) (enc_ok hM hisb)
  rw [HMV.out] at HW
  obtain⟨fr,HFR⟩:∃fr,Hid (Wv.frameB (zao x n r)=fr):=⟨_,rfl⟩
  have hfr:Wv.frameB m.b=fr:=by rw [HMB.out];exact HFR.out
  rw [hfr] at HW hfl
  have y0:w4.cell? ⟨w2.heap.size,0,none⟩=some (I r):=HX4.out.cell 0
  have y1:w4.cell? ⟨w2.heap.size,1,none⟩=some (I bsq):=HX4.out.cell 1
  have y2:w4.cell? ⟨w2.heap.size,2,none⟩=some (I bt):=HX4.out.cell 2
  have y3:w4.cell? ⟨w2.heap.size,3,none⟩=some (.slice (some ⟨g,0,none⟩) n n):=HX4.out.cell 3
  clear hM hes hpos
  go_wp2_with fail
  refine HW.mono ?_
  rintro e w5 ⟨rfl,own2,q1,q2,q3,⟨dv5,ev5,hR5⟩,hT5⟩
  clear HW
  have HB2z:Hid (own1 w2.heap.size=0):=HP123.out.2.1 _ hs2
  have HX5:Hid (Blk w5 w2.heap.size #[I r,I bsq,I bt, .slice (some ⟨g,0,none⟩) n n, .slice ea x.es.length ec] 124):=hT5.blk HX4.out (by rw [HB2z.out];omega)
  have hB4:w2.heap.size<w4.heap.size:=HX4.out.lt
  have HO2:Hid (own2 w2.heap.size=0):=(q1 _ hB4 (by rw [HB2z.out];omega)).trans HB2z.out
  have HR5:Hid (RrIn w5 own2 (c+1+r) p {x with op:=false,es:= [],bs:=x.bs++ [m],log:=x.log++fr} dv5 ev5):=hR5
  have HQ5:Hid ((∀b,b<w4.heap.size->own1 b ≠ c+1+r->own2 b=own1 b)∧(∀b,w4.heap.size<=b->own2 b=0∨own2 b=c+1+r)∧(∀b,b<w4.heap.size->own1 b=c+1+r->own2 b=0∨own2 b=c+1+r)∧Tch (fun k=>own1 k=c+1+r) w4 w5):=⟨q1,q2,q3,hT5⟩
  have k3:w5.cell? ⟨p,3,none⟩=some (.string ⟨(x.log++fr).toArray⟩):=hR5.blk.cell 3
  have k4:w5.cell? ⟨p,4,none⟩=some (I x.sy):=hR5.blk.cell 4
  have z4:w5.frozen? ⟨p,4,none⟩=false:=hR5.blk.frozen 4
  clear q1 q2 q3 hR5 hT5 y0 y1 y2 y3 x4 HX4
  go_upto_region 12 with fail
  have HLEN:Hid (((x.log.length:Int)+(fr.length:Int))=(((x.log++fr).length:Nat):Int)):=by show _=_;rw [List.length_append];omega
  have HMID:Hid (RsMid w1 own c q {S with reps:=S.reps.set r (zfb x n r g ea ec)} w2.heap.size #[I r,I bsq,I bt, .slice (some ⟨g,0,none⟩) n n, .slice ea x.es.length ec] (w5.setCell ⟨p,4,none⟩ (I ((x.log.length:Int)+(fr.length:Int))))):=by
   have:=zpq (z:=(x.log.length:Int)+(fr.length:Int)) HSI.out hc hr hpp hpl HR.out.own1 HP123.out.1 HP123.out.2.1 HP123.out.2.2.1 HP123.out.2.2.2 HQ5.out.1 HQ5.out.2.1 HQ5.out.2.2.1 HQ5.out.2.2.2 HR5.out HO2.out HX5.out (by rw [hnn];exact hm)
   have e:(⟨x.bs++ [m],false, [],x.log++fr,(x.log.length:Int)+(fr.length:Int)⟩:Rr)=zfb x n r g ea ec:=by
    unfold zfb
    rw [HMD.out,HFR.out,HLEN.out]
   rw [←e]
   exact this
  obtain⟨R',HR'⟩:∃R',Hid (S.reps.set r (zfb x n r g ea ec)=R'):=⟨_,rfl⟩
  have HRL:Hid (R'.length=n):=by show _=_;rw [←HR'.out,List.length_set];exact hnn
  rw [HR'.out] at HMID
  obtain⟨w6,hw6⟩:∃w6,w6=w5.setCell ⟨p,4,none⟩ (I ((x.log.length:Int)+(fr.length:Int))):=⟨_,rfl⟩
  rw [←hw6] at HMID
  change Code.wp _ _ _ _ (w5.setCell ⟨p,4,none⟩ (I ((x.log.length:Int)+(fr.length:Int))))
  rw [←hw6]
  clear hw6 k3 k4 z4 HR5 HQ5 HP123 HR4 HM4 HX5 HO2 HB2z HR HSI HRP HSE HP HLEN c0 c1
  go_wp2_with fail
  go_loopw [10] (fun y wr=>∃(i:Nat),i<=n∧y=I i∧Hid (RsMid w1 own c q ⟨R',sprL S.way r fr i⟩ w2.heap.size #[I r,I bsq,I bt, .slice (some ⟨g,0,none⟩) n n, .slice ea x.es.length ec] wr)) (fun y _=>n - (intOf y).toNat)
  case atStart=>exact⟨0,by omega,rfl,HMID⟩
  case round=>
   obtain⟨i,hi,rfl,HMI⟩:=hrel
   obtain⟨own3,r1,r2,r3,⟨rg3,cc3,wv3,prs3,hS3⟩,hT3,hB3,hX3⟩:=HMI.out
   have d0:wr.cell? ⟨q,0,none⟩=some (.slice (some ⟨rg3,0,none⟩) R'.length cc3):=hS3.blk.cell 0
   rw [HRL.out] at d0
   have e1:wr.cell? ⟨w2.heap.size,1,none⟩=some (I bsq):=hX3.cell 1
   by_cases hlt:i<n
   ·have hii:(i:Int)<(n:Int):=by omega
    by_cases hir:i=r
    ·subst hir
     have HN:Hid (sprL S.way i fr (i+1)=sprL S.way i fr i):=by show _=_;rw [sprL,if_pos rfl]
     clear hS3 hT3 hB3 hX3 r1 r2 r3 e1
     go_wp2_with fail
     go_roundw
     case rel=>exact⟨i+1,by omega,by go_num,by rw [HN.out];exact HMI⟩
     case measure=>simp [intOf];omega
    ·have hiri:¬(i:Int)=(r:Int):=by omega
     have HN:Hid (sprL S.way r fr (i+1)=addL (sprL S.way r fr i) ⟨1,r,i,fr,false⟩):=by show _=_;rw [sprL,if_neg hir]
     have HSN:=zo7 1 r i fr hS3 hc
     have HMK:Hid (∀w',RsOk wr own3 c q ⟨R',addL (sprL S.way r fr i) ⟨1,r,i,fr,false⟩⟩ w'->RsMid w1 own c q ⟨R',sprL S.way r fr (i+1)⟩ w2.heap.size #[I r,I bsq,I bt, .slice (some ⟨g,0,none⟩) n n, .slice ea x.es.length ec] w'):=by
      intro w' ho
      rw [HN.out]
      obtain⟨own4,t1,t2,t3,t4,t5⟩:=ho
      have hBl:=hX3.lt
      have hB4:own4 w2.heap.size=0:=(t1 _ hBl (by rw [hB3];omega)).trans hB3
      have hs:=hT3.size
      refine⟨own4,fun b hl hn=> ?_,fun b hl=> ?_,fun b hl e1 e2=> ?_,t4,hT3.trans t5 (fun _ _ h=>h) (fun k hk h=> ?_),hB4,t5.blk hX3 (by rw [hB3];omega)⟩
      ·have e:=r1 b hl hn
       rw [t1 b (by omega) (by rw [e];exact hn),e]
      ·by_cases hq:b<wr.heap.size
       ·rcases r2 b hl with e | e
        ·rw [t1 b hq (by rw [e];omega)];exact .inl e
        ·exact t3 b hq e.1 e.2
       ·exact t2 b (by omega)
      ·rcases r3 b hl e1 e2 with e | e
       ·rw [t1 b (by omega) (by rw [e];omega)];exact .inl e
       ·exact t3 b (by omega) e.1 e.2
      ·by_cases hn:c<=own k∧own k<=c+6
       ·exact hn
       ·rw [r1 k hk hn] at h;exact h
     clear hS3 hT3 hB3 hX3 r1 r2 r3 e1 HMI
     go_wp2_with fail
     refine HSN.mono ?_
     rintro e w7 ⟨rfl,h7⟩
     have HM7:=HMK.out w7 h7
     have HM8:Hid (RsMid w1 own c q ⟨R',sprL S.way r fr (i+1)⟩ w2.heap.size #[I r,I bsq,I bt, .slice (some ⟨g,0,none⟩) n n, .slice ea x.es.length ec] w7):=HM7
     clear HM7 h7 HSN HMK d0
     go_wp2_with fail
     go_roundw
     case rel=>exact⟨i+1,by omega,by go_num,HM8⟩
     case measure=>simp [intOf];omega
   ·have hii:¬(i:Int)<(n:Int):=by omega
    obtain rfl:i=n:=by omega
    have HEND:=HMI.out.ok
    have HE2:Hid (RsOk w1 own c q ⟨R',sprL S.way r fr i⟩ wr):=HEND
    clear hS3 hT3 hB3 hX3 r1 r2 r3 HEND HMI
    go_wp2
    go_ret2
    exact .inr ⟨HES.out,g,by rw [hbsq];rfl,by rw [HFR.out,HR'.out];exact HE2.out⟩
end
theorem infoPq:(Tryz.prog.info? 107).map (fun i=>(i.zero,i.size,i.bytes))=some (some (.pointer none),1,8):=by kernel_rfl
abbrev newRC:Array Value:= #[.bool true, .slice none 0 0, .slice none 0 0, .string ⟨#[]⟩, .int .i64 0, .bool false, .slice none 0 0, .slice none 0 0]
structure NqAt(w wr:World)(q:Nat)(rv:Value)(prs:List Nat):Prop where
 bel:Below w.heap.size w wr
 blk:Blk wr q #[rv, .slice none 0 0] 106
 lq:w.heap.size<=q
 row:wr.ownsRow w.heap.size 107 1 rv prs.length (prs.map ptrV)
 reps:∀p∈prs,Blk wr p newRC 111∧w.heap.size<=p
 nd:prs.Nodup
theorem NqAt.ne{w wr:World}{q:Nat}{rv:Value}{prs:List Nat}(h:NqAt w wr q rv prs):(¬rv.ownBlock=some q)∧(∀p∈prs,¬rv.ownBlock=some p)∧∀p∈prs,p ≠ q:=by
 have hty:∀g,rv.ownBlock=some g->∃cs,wr.heap[g]?=some (.cells cs 107):=by
  intro g e
  rcases h.row.2 with⟨rfl,_⟩ | ⟨g',cap,cur,rfl,_,hg,_⟩
  ·cases e
  ·cases e;exact⟨_,hg⟩
 have hq:wr.heap[q]?=some (.cells #[rv, .slice none 0 0] 106):=h.blk
 refine⟨fun e=> ?_,fun p hp e=> ?_,fun p hp e=> ?_⟩
 ·obtain⟨cs,h1⟩:=hty q e
  rw [hq] at h1
  cases h1
 ·obtain⟨cs,h1⟩:=hty p e
  have h2:wr.heap[p]?=some (.cells newRC 111):=(h.reps p hp).1
  rw [h2] at h1
  cases h1
 ·have h2:wr.heap[p]?=some (.cells newRC 111):=(h.reps p hp).1
  rw [e,hq] at h2
  cases h2
theorem NqAt.step{w wr w7:World}{q g7 cap7:Nat}{rv:Value}{prs:List Nat}(h:NqAt w wr q rv prs)(o:Obj)(hg:((wr.alloc (.cells newRC 111)).alloc o).grownBy w7 rv.ownBlock)(ho:w7.ownsRow w.heap.size 107 1 (.slice (some ⟨g7,0,none⟩) (prs.length+1) cap7) (prs.length+1) (prs.map ptrV++ [ptrV wr.heap.size]))(ha:rv.ownBlock=some g7∨wr.heap.size+1<=g7):
  NqAt w (w7.setCell ⟨q,0,none⟩ (.slice (some ⟨g7,0,none⟩) (prs.length+1) cap7)) q (.slice (some ⟨g7,0,none⟩) (prs.length+1) cap7) (prs++ [wr.heap.size]):=by
 obtain⟨n1,n2,n3⟩:=h.ne
 have hql:=h.blk.lt
 have hb2:Below wr.heap.size wr ((wr.alloc (.cells newRC 111)).alloc o):=((Below.refl _ _).alloc (Nat.le_refl _) _).alloc (by simp) _
 have hT7:Tch (fun k=>rv.ownBlock=some k) ((wr.alloc (.cells newRC 111)).alloc o) w7:=Tch.grown hg
 have hT8:Tch (fun k=>rv.ownBlock=some k∨k=q) ((wr.alloc (.cells newRC 111)).alloc o) (w7.setCell ⟨q,0,none⟩ (.slice (some ⟨g7,0,none⟩) (prs.length+1) cap7)):=Tch.setCell (F:=fun k=>rv.ownBlock=some k∨k=q) (hT7.mono (fun _ _ h=>Or.inl h)) ⟨q,0,none⟩ _ (Or.inl (Or.inr rfl))
 have hTw:Tch (fun k=>rv.ownBlock=some k∨k=q) wr (w7.setCell ⟨q,0,none⟩ (.slice (some ⟨g7,0,none⟩) (prs.length+1) cap7)):=(Tch.below hb2).trans hT8 (fun _ _ h=>h) (fun _ _ h=>h)
 have hnew:Blk ((wr.alloc (.cells newRC 111)).alloc o) wr.heap.size newRC 111:=Blk.alloc (heap_alloc_new wr _) _
 have hgl:rv.ownBlock ≠ some wr.heap.size:=fun e=>by have:=(h.row.lt _ e).2;omega
 have hlen:(prs++ [wr.heap.size]).length=prs.length+1:=by simp
 have hbs:=h.bel.size
 have hgq:g7 ≠ q:=by
  rcases ha with e | e
  ·rintro rfl;exact n1 e
  ·omega
 refine⟨?_,(hT7.blk (h.blk.kept hb2 hql) n1).set 0 _,h.lq, ?_,fun p hp=> ?_, ?_⟩
 ·refine zka hTw h.bel h.bel.size (fun k hk e=> ?_)
  have:=h.lq
  rcases e with e | e
  ·have:=(h.row.lt k e).1;omega
  ·omega
 ·rw [hlen,List.map_append]
  exact zah ho (fun b e=>heap_setCell_other _ ⟨q,0,none⟩ b _ (by cases e;exact hgq))
 ·rcases List.mem_append.1 hp with hp | hp
  ·obtain⟨h1,h2⟩:=h.reps p hp
   refine⟨hTw.blk h1 (fun e=> ?_),h2⟩
   rcases e with e | e
   ·exact n2 p hp e
   ·exact n3 p hp e
  ·rw [List.mem_singleton.1 hp]
   refine⟨hT8.blk hnew (fun e=> ?_),hbs⟩
   rcases e with e | e
   ·exact hgl e
   ·omega
 ·rw [List.nodup_append]
  refine⟨h.nd,by simp,fun a ha b hb=> ?_⟩
  rw [List.mem_singleton.1 hb]
  have:=(h.reps a ha).1.lt
  omega
def newQ(n:Nat):Rs:=⟨List.replicate n ⟨[],false, [], [],0⟩, []⟩
def RnewQ(w:World)(own:Clr)(c n:Nat)(e:Ending)(w':World):Prop:=∃q own',e= .returned (.tuple #[.pointer (some ⟨q,0,none⟩),I 0])∧Below w.heap.size w w'∧Ext own own' w.heap.size∧(∀b,w.heap.size<=b->own' b=0∨(c<=own' b∧own' b<=c+6))∧RsAt w' own' c q (newQ n)
theorem NqAt.fin{w wr:World}{own:Clr}{c q n:Nat}{rv:Value}{prs:List Nat}(h:NqAt w wr q rv prs)(hl:prs.length=n)(hn2:2<=n)(hn4:n<=4):∃own',Ext own own' w.heap.size∧(∀b,w.heap.size<=b->own' b=0∨(c<=own' b∧own' b<=c+6))∧RsAt wr own' c q (newQ n):=by
 obtain⟨n1,n2,n3⟩:=h.ne
 obtain⟨g,cp,rfl⟩:=zij h.row (by omega)
 have hgw:=(h.row.lt g rfl).1
 have hgq:g ≠ q:=fun e=>n1 (by rw [←e];rfl)
 have hgp:g∉prs:=fun e=>n2 g e rfl
 have e:(newQ n).reps.length=n:=by simp [newQ]
 refine⟨fun b=>if b<w.heap.size then own b else if b=q then c else if b∈prs then c+1+prs.idxOf b else 0,fun b hb=> ?_,fun b hb=> ?_,g,cp, .slice none 0 0,prs, ?_, ?_,fun r hr=> ?_, ?_,by rw [e,hl],by rw [e];exact hn4,by rw [e];exact hn2,fun r h1 h2=> ?_,⟨rfl, .inl ⟨rfl,rfl⟩⟩,by show 0<=40;omega,fun g e=>(by cases e)⟩
 ·show(if b<w.heap.size then own b else _)=_
  rw [if_pos hb]
 ·show(if b<w.heap.size then own b else if b=q then c else if b∈prs then c+1+prs.idxOf b else 0)=0∨(c<=(if b<w.heap.size then own b else if b=q then c else if b∈prs then c+1+prs.idxOf b else 0)∧(if b<w.heap.size then own b else if b=q then c else if b∈prs then c+1+prs.idxOf b else 0)<=c+6)
  rw [if_neg (by omega)]
  by_cases e1:b=q
  ·rw [if_pos e1];exact .inr (by omega)
  ·rw [if_neg e1]
   by_cases e2:b∈prs
   ·rw [if_pos e2]
    have:=List.idxOf_lt_length_of_mem e2
    exact .inr (by omega)
   ·rw [if_neg e2];exact .inl rfl
 ·rw [e,←hl];exact h.blk
 ·show(if q<w.heap.size then own q else if q=q then c else _)=c
  rw [if_neg (by have:=h.lq;omega),if_pos rfl]
 ·have:=h.row.cells (g:=g) rfl r (ptrV prs[r]) (by simp [hr])
  rw [Addr.add_lit,Nat.zero_add] at this
  exact this
 ·show(if g<w.heap.size then own g else if g=q then c else if g∈prs then _ else 0)=0
  rw [if_neg (by omega),if_neg hgq,if_neg hgp]
 ·have hm:prs[r]∈prs:=List.getElem_mem h1
  obtain⟨k1,k2⟩:=h.reps _ hm
  have e2:(newQ n).reps[r]=⟨[],false, [], [],0⟩:=by simp [newQ]
  rw [e2]
  refine⟨.slice none 0 0, .slice none 0 0,k1, ?_,⟨rfl, .inl ⟨rfl,rfl⟩⟩,fun g e=>(by cases e),fun b hb=>(by cases hb),EffsAt.none _ _ _⟩
  show(if prs[r]<w.heap.size then own _ else if prs[r]=q then c else if prs[r]∈prs then c+1+prs.idxOf prs[r] else 0)=c+1+r
  rw [if_neg (by omega),if_neg (n3 _ hm),if_pos hm,h.nd.idxOf_getElem r h1]
theorem zyo(own:Clr)(c n:Nat)(w:World)(hn2:2<=n)(hn4:n<=4):
  Calls Tryz.prog 33 #[I n] w fun e w'=>RnewQ w own c n e w':=by
 have hni:¬(n:Int)<2:=by omega
 have hnj:¬(4:Int)<(n:Int):=by omega
 obtain⟨ii,HI⟩:∃i,Hid (Tryz.prog.info? 107=some i∧i.zero=some (.pointer none)∧i.size=1∧i.bytes=8):=by obtain⟨i,h⟩:=info_parts infoPq;exact⟨i,h⟩
 have HST:Hid (NqAt w (w.alloc (.cells #[.slice none 0 0, .slice none 0 0] 106)) w.heap.size (.slice none 0 0) []):=⟨(Below.refl _ _).alloc (Nat.le_refl _) _,heap_alloc_new w _,Nat.le_refl _,⟨rfl, .inl ⟨rfl,rfl⟩⟩,fun p hp=>(by cases hp),by simp⟩
 go_enter Tryz.func33,Tryz.ntmps33
 go_wp2_with fail
 go_loopw [5] (fun y wr=>∃(prs:List Nat) (ra:Option Addr) (rc:Nat),prs.length<=n∧y=I prs.length∧Hid (NqAt w wr w.heap.size (.slice ra prs.length rc) prs)) (fun y _=>n - (intOf y).toNat)
 case atStart=>exact⟨[],none,0,by simp,rfl,HST⟩
 case round=>
  obtain⟨prs,ra,rc,hl,rfl,HN⟩:=hrel
  by_cases hlt:prs.length<n
  ·have hii:(prs.length:Int)<(n:Int):=by omega
   have c0:wr.cell? ⟨w.heap.size,0,none⟩=some (.slice ra prs.length rc):=HN.out.blk.cell 0
   have hwl:w.heap.size<wr.heap.size:=HN.out.blk.lt
   have HRW:Hid ((wr.alloc (.cells newRC 111)).ownsRow w.heap.size 107 1 (.slice ra prs.length rc) prs.length (prs.map ptrV)):=HN.out.row.alloc _
   have hone:∀u∈ [ptrV wr.heap.size],u.oneCell'=true:=by intro u hu;rw [List.mem_singleton.1 hu];rfl
   go_wp2_with (first | (at_builtin;refine wpList_append_lies _ rfl _ _ _ rfl w.heap.size 107 ii (.pointer none) 1 8 Tryz.underlying103 HI.out.1 HI.out.2.1 HI.out.2.2.1 HI.out.2.2.2 rfl (by omega) (.slice ra prs.length rc) prs.length (prs.map ptrV) rfl (HRW.out.alloc _) ⟨wr.heap.size+1,0,none⟩ 1 1 [ptrV wr.heap.size] rfl rfl (by have:=zas (wr.alloc (.cells newRC 111)) [ptrV wr.heap.size] 107;rwa [show(wr.alloc (.cells newRC 111)).heap.size=wr.heap.size+1 by simp] at this) hone (by omega) (by unfold maxLen;omega) (by omega) (by simp;omega) (wr.heap.size+2) (by simp) ?_;intro g7 cap7 w7 hown7 hgrow7 hat7 hlt7;have HG7:Hid (((wr.alloc (.cells newRC 111)).alloc (.cells #[ptrV wr.heap.size] 107)).grownBy w7 (Value.slice ra prs.length rc).ownBlock):=hgrow7;have HO7:Hid (w7.ownsRow w.heap.size 107 1 (.slice (some ⟨g7,0,none⟩) (prs.length+1) cap7) (prs.length+1) (prs.map ptrV++ [ptrV wr.heap.size])):=hown7;have HA7:Hid ((Value.slice ra prs.length rc).ownBlock=some g7∨wr.heap.size+1<=g7):=hat7.imp id (fun e=>by omega);have HK7:Hid (Blk w7 w.heap.size #[.slice ra prs.length rc, .slice none 0 0] 106):=(Tch.grown HG7.out).blk ((HN.out.blk.alloc _).alloc _) HN.out.ne.1;have c7:w7.cell? ⟨w.heap.size,0,none⟩=some (.slice ra prs.length rc):=HK7.out.cell 0;have z7:w7.frozen? ⟨w.heap.size,0,none⟩=false:=HK7.out.frozen 0;clear hown7 hgrow7 hat7 hlt7))
   have hlen:(prs++ [wr.heap.size]).length=prs.length+1:=by simp
   have LN:Hid (NqAt w (w7.setCell ⟨w.heap.size,0,none⟩ (.slice (some ⟨g7,0,none⟩) (prs.length+1) cap7)) w.heap.size (.slice (some ⟨g7,0,none⟩) (prs++ [wr.heap.size]).length cap7) (prs++ [wr.heap.size])):=by
    show NqAt _ _ _ _ _
    rw [hlen]
    exact HN.out.step _ HG7.out HO7.out HA7.out
   exact⟨⟨prs++ [wr.heap.size],some ⟨g7,0,none⟩,cap7,by rw [hlen];omega,by rw [hlen];rfl,LN⟩,by simp [intOf];omega⟩
  ·have hii:¬(prs.length:Int)<(n:Int):=by omega
   have HE:Hid (∃own',Ext own own' w.heap.size∧(∀b,w.heap.size<=b->own' b=0∨(c<=own' b∧own' b<=c+6))∧RsAt wr own' c w.heap.size (newQ n)):=HN.out.fin (by omega) hn2 hn4
   have HBL:Hid (Below w.heap.size w wr):=HN.out.bel
   clear HN
   go_wp2
   go_ret2
   obtain⟨own',h1,h2,h3⟩:=HE.out
   exact⟨w.heap.size,own',rfl,HBL.out,h1,h2,h3⟩
structure Ent where
 s:Nat
 S:Sto
 q:Nat
 Q:Rs
def EntAt(w0 w:World)(eb ef:Addr)(own lw:Clr)(c:Nat)(e:Ent):Prop:=(∃rg cc pp ch pv prs,StIn w own e.s rg cc pp ch pv prs e.S)∧Env w0 w own eb ef∧RsAt w lw c e.q e.Q
theorem StIn.kp{w w':World}{own own':Clr}{s rg cc pp ch:Nat}{pv:Value}{prs:List Nat}{S:Sto}(hS:StIn w own s rg cc pp ch pv prs S)(hSm:∀d,d ≠ 700->Same own d w w')(he:Ext own own' w.heap.size):StIn w' own' s rg cc pp ch pv prs S:=by
 have hr:=hS.rlt
 exact⟨(hSm 900 (by omega) s hS.blk.lt hS.own1).trans hS.blk,fun r h1=>zan (hS.row r h1) (hSm 900 (by omega) rg hr hS.own2),hS.len,hS.most,hS.least,(he s hS.blk.lt).trans hS.own1,(he rg hr).trans hS.own2,fun r h1 h2=>(hS.reps r h1 h2).keep (hSm 0 (by omega)) (fun d hd1 hd2=>hSm d (by have:=hS.most;have:=hS.len;omega)) he,hS.post.keep (hSm 100 (by omega)) he⟩
structure GaW(w0 w:World)(eb ef:Addr)(owns:Nat->Clr)(lw:Clr)(ents:List (Option Ent)):Prop where
 st:∀i e,ents[i]?=some (some e)->EntAt w0 w eb ef (owns i) lw (10+10*i) e
 dis:∀i j b,i ≠ j->b<w.heap.size->1<=owns i b->owns i b<=100->owns j b=700
 law:∀i b,b<w.heap.size->lw b ≠ 2->¬(1<=owns i b∧owns i b<=100)
 prg:∀i b,b<w.heap.size->owns i b ≠ 700->lw b=0∨lw b=2
 env:∀i,Env w0 w (owns i) eb ef
theorem Env.tch2{F:Nat->Prop}{w0 w w':World}{own own':Clr}{eb ef:Addr}(h:Env w0 w own eb ef)(hT:Tch F w w')(hF:∀k,k<w.heap.size->own k=0->¬F k)(hE:Ext own own' w.heap.size):Env w0 w' own' eb ef:=
 ⟨h.gl,h.pw,h.bel.trans (hT.toBelow h.bel.size (fun k hk=>hF k (Nat.lt_of_lt_of_le hk h.bel.size) (h.own0 k hk))),fun b hb=>(hE b (Nat.lt_of_lt_of_le hb h.bel.size)).trans (h.own0 b hb)⟩
section
variable {w0 w w' : World} {eb ef : Addr} {owns : Nat -> Clr} {lw : Clr} {ents : List (Option Ent)}
theorem EntAt.kp{own own' lw':Clr}{c:Nat}{e:Ent}{D:Nat->Prop}(h:EntAt w0 w eb ef own lw c e)(hSm:∀d,d ≠ 700->Same own d w w')(he:Ext own own' w.heap.size)(hen:Env w0 w' own' eb ef)(hK:Kp D lw lw' w w')(h0:D 0)(hc:∀d,c<=d->d<=c+6->D d):EntAt w0 w' eb ef own' lw' c e:=by
 obtain⟨⟨rg,cc,pp,ch,pv,prs,hS⟩,_,hR⟩:=h
 exact⟨⟨rg,cc,pp,ch,pv,prs,hS.kp hSm he⟩,hen,hR.kp hK h0 hc⟩
theorem GaW.prog(h:GaW w0 w eb ef owns lw ents)(i:Nat)(e:Ent)(he:ents[i]?=some (some e))(S':Sto)(ho:StOk w0 w (owns i) e.s S' eb ef w'):
  ∃owns' lw',GaW w0 w' eb ef owns' lw' (ents.set i (some {e with S:=S'}))∧(∀b,b<w.heap.size->lw' b=lw b∧(lw b ≠ 2->w'.heap[b]?=w.heap[b]?))∧w.heap.size<=w'.heap.size:=by
 obtain⟨own',rg,cc,pp,ch,pv,prs,hE,hS,hen,hT⟩:=ho
 have hsz:=hT.size
 have hlaw:∀b,b<w.heap.size->lw b ≠ 2->w'.heap[b]?=w.heap[b]?:=fun b hb hn=>hT.block b hb (h.law i b hb hn)
 have hK:Kp (fun d=>d ≠ 2) lw (newTo lw w.heap.size 2) w w':=fun b hb hd=>⟨hlaw b hb hd,zac _ _ _ _ hb⟩
 have hil:=(List.getElem?_eq_some_iff.1 he).1
 obtain⟨owns',oi,oj⟩:∃owns':Nat->Clr,owns' i=own'∧∀j,j ≠ i->owns' j=newTo (owns j) w.heap.size 700:=⟨fun j=>if j=i then own' else newTo (owns j) w.heap.size 700,if_pos rfl,fun j hj=>if_neg hj⟩
 have hO:∀j b,b<w.heap.size->owns' j b=owns j b:=fun j b hb=>by
  by_cases hj:j=i
  ·rw [hj,oi];exact hE b hb
  ·rw [oj j hj];exact zac _ _ _ _ hb
 have hen':∀j,Env w0 w' (owns' j) eb ef:=fun j=>by
  by_cases hj:j=i
  ·rw [hj,oi];exact hen
  ·exact(h.env j).tch2 hT (fun k hk q q2=>by have:=h.dis i j k (fun q=>hj q.symm) hk q2.1 q2.2;omega) (fun b hb=>hO j b hb)
 refine⟨owns',newTo lw w.heap.size 2,⟨fun j e' he'=> ?_,fun j k b hjk hb h1 h2=> ?_,fun j b hb hn=> ?_,fun j b hb hn=> ?_,hen'⟩,fun b hb=>⟨zac _ _ _ _ hb,hlaw b hb⟩,hsz⟩
 ·by_cases hj:j=i
  ·subst hj
   rw [List.getElem?_set_self hil] at he'
   cases he'
   rw [oi]
   exact⟨⟨rg,cc,pp,ch,pv,prs,hS⟩,hen,(h.st j e he).2.2.kp hK (by show 0 ≠ 2;omega) (fun d h1 h2=>by show d ≠ 2;omega)⟩
  ·rw [List.getElem?_set_ne (fun q=>hj q.symm)] at he'
   have hSm:∀d,d ≠ 700->Same (owns j) d w w':=fun d hd b hb hbd=>hT.block b hb (fun q=>hd (by rw [←hbd];exact h.dis i j b (fun q=>hj q.symm) hb q.1 q.2))
   exact(h.st j e' he').kp hSm (fun b hb=>hO j b hb) (hen' j) hK (by show 0 ≠ 2;omega) (fun d h1 h2=>by show d ≠ 2;omega)
 ·by_cases hbo:b<w.heap.size
  ·rw [hO j b hbo] at h1 h2
   rw [hO k b hbo]
   exact h.dis j k b hjk hbo h1 h2
  ·by_cases hk:k=i
   ·exfalso
    have hj:j ≠ i:=fun q=>hjk (q.trans hk.symm)
    rw [oj j hj,zae _ _ _ _ (by omega)] at h2
    omega
   ·rw [oj k hk];exact zae _ _ _ _ (by omega)
 ·by_cases hbo:b<w.heap.size
  ·rw [zac _ _ _ _ hbo] at hn
   rw [hO j b hbo]
   exact h.law j b hbo hn
  ·exact absurd (zae _ _ _ _ (by omega)) hn
 ·by_cases hbo:b<w.heap.size
  ·rw [zac _ _ _ _ hbo]
   exact h.prg j b hbo (by rw [←hO j b hbo];exact hn)
  ·exact .inr (zae _ _ _ _ (by omega))
theorem GaW.lawc(h:GaW w0 w eb ef owns lw ents)(F:Nat->Prop)(hF0:¬F 0)(hF2:¬F 2)(lw':Clr)(hT:Tch (fun k=>F (lw k)) w w')(hl:∀b,b<w.heap.size->¬F (lw b)->lw' b=lw b)(ents':List (Option Ent))(hst:∀i e,ents'[i]?=some (some e)->RsAt w' lw' (10+10*i) e.q e.Q∧∃e0,ents[i]?=some (some e0)∧e0.s=e.s∧e0.S=e.S):
  ∃owns',GaW w0 w' eb ef owns' lw' ents':=by
 have hO:∀j b,b<w.heap.size->newTo (owns j) w.heap.size 700 b=owns j b:=fun j b hb=>zac _ _ _ _ hb
 have hun:∀j b,b<w.heap.size->owns j b ≠ 700->¬F (lw b):=fun j b hb hn=>by
  rcases h.prg j b hb hn with e | e
  ·rw [e];exact hF0
  ·rw [e];exact hF2
 have hen':∀j,Env w0 w' (newTo (owns j) w.heap.size 700) eb ef:=fun j=>(h.env j).tch2 hT (fun k hk q=>hun j k hk (by rw [q];omega)) (zaf _ _ _)
 refine⟨fun j=>newTo (owns j) w.heap.size 700,fun j e' he'=> ?_,fun j k b hjk hb h1 h2=> ?_,fun j b hb hn=> ?_,fun j b hb hn=> ?_,hen'⟩
 ·obtain⟨hR,e0,he0,e1,e2⟩:=hst j e' he'
  obtain⟨⟨rg,cc,pp,ch,pv,prs,hS⟩,_,_⟩:=h.st j e0 he0
  rw [e1,e2] at hS
  have hSm:∀d,d ≠ 700->Same (owns j) d w w':=fun d hd b hb hbd=>hT.block b hb (hun j b hb (by rw [hbd];exact hd))
  exact⟨⟨rg,cc,pp,ch,pv,prs,hS.kp hSm (zaf _ _ _)⟩,hen' j,hR⟩
 ·have h1:1<=newTo (owns j) w.heap.size 700 b:=h1
  have h2:newTo (owns j) w.heap.size 700 b<=100:=h2
  show newTo (owns k) w.heap.size 700 b=700
  by_cases hbo:b<w.heap.size
  ·rw [hO j b hbo] at h1 h2
   rw [hO k b hbo]
   exact h.dis j k b hjk hbo h1 h2
  ·exact zae _ _ _ _ (by omega)
 ·show¬(1<=newTo (owns j) w.heap.size 700 b∧newTo (owns j) w.heap.size 700 b<=100)
  by_cases hbo:b<w.heap.size
  ·rw [hO j b hbo]
   intro q
   have hu:=hun j b hbo (by omega)
   exact h.law j b hbo (by rw [←hl b hbo hu];exact hn) q
  ·rw [zae _ _ _ _ (by omega)];omega
 ·have hn:newTo (owns j) w.heap.size 700 b ≠ 700:=hn
  by_cases hbo:b<w.heap.size
  ·rw [hO j b hbo] at hn
   rw [hl b hbo (hun j b hbo hn)]
   exact h.prg j b hbo hn
  ·exact absurd (zae _ _ _ _ (by omega)) hn
theorem GaW.refc(h:GaW w0 w eb ef owns lw ents)(i:Nat)(e:Ent)(he:ents[i]?=some (some e))(Q':Rs)(ho:RsOk w lw (10+10*i) e.q Q' w'):
  ∃owns' lw',GaW w0 w' eb ef owns' lw' (ents.set i (some {e with Q:=Q'}))∧(∀b,b<w.heap.size->(lw b=0∨lw b=1∨lw b=2)->lw' b=lw b∧w'.heap[b]?=w.heap[b]?)∧w.heap.size<=w'.heap.size:=by
 obtain⟨lw',h1,_,_,h4,h5⟩:=ho
 have hil:=(List.getElem?_eq_some_iff.1 he).1
 obtain⟨owns',hg⟩:=h.lawc (fun d=>10+10*i<=d∧d<=10+10*i+6) (by omega) (by omega) lw' h5 h1 (ents.set i (some {e with Q:=Q'})) (fun j e' he'=>by
  by_cases hj:j=i
  ·subst hj
   rw [List.getElem?_set_self hil] at he'
   cases he'
   exact⟨h4,e,he,rfl,rfl⟩
  ·rw [List.getElem?_set_ne (fun q=>hj q.symm)] at he'
   have hK:Kp (fun d=>¬(10+10*i<=d∧d<=10+10*i+6)) lw lw' w w':=fun b hb hd=>⟨h5.block b hb hd,h1 b hb hd⟩
   exact⟨(h.st j e' he').2.2.kp hK (by omega) (fun d d1 d2=>by omega),e',he',rfl,rfl⟩)
 exact⟨owns',lw',hg,fun b hb hc=>⟨h1 b hb (by omega),h5.block b hb (by omega)⟩,h5.size⟩
theorem GaW.mine(h:GaW w0 w eb ef owns lw ents)(lw':Clr)(hT:Tch (fun k=>lw k=1) w w')(hl:∀b,b<w.heap.size->lw b ≠ 1->lw' b=lw b):∃owns',GaW w0 w' eb ef owns' lw' ents:=
 h.lawc (fun d=>d=1) (by omega) (by omega) lw' hT hl ents (fun j e' he'=>by
  have hK:Kp (fun d=>d ≠ 1) lw lw' w w':=fun b hb hd=>⟨hT.block b hb hd,hl b hb hd⟩
  exact⟨(h.st j e' he').2.2.kp hK (by omega) (fun d d1 d2=>by omega),e',he',rfl,rfl⟩)
theorem GaW.news(h:GaW w0 w eb ef owns lw ents)(hb:Below w.heap.size w w')(c:Nat):∃owns',GaW w0 w' eb ef owns' (newTo lw w.heap.size c) ents:=
 h.mine _ (Tch.below hb) (fun _ hl _=>zac _ _ _ _ hl)
end
end Go.Proofs.YtfmcngncaffloaaGreatDoor
