import Derived.Test.YtfmcngncaffloaaGreatDoorG21RpH
set_option maxHeartbeats 3200000
namespace Go.Proofs.YtfmcngncaffloaaGreatDoor
open Go.RowKit
set_option maxRecDepth 100000
theorem zls{w:World}{base base':Nat}{e:TypeId}{size n:Nat}{v:Value}{xs:List Value}(h:w.ownsRow base e size v n xs)(hb:base'<=base):w.ownsRow base' e size v n xs:=by
 obtain⟨h1,h2⟩:=h
 refine⟨h1, ?_⟩
 rcases h2 with h2 | ⟨g,cap,cur,e1,hg,rest⟩
 ·exact Or.inl h2
 ·exact Or.inr ⟨g,cap,cur,e1,by omega,rest⟩
theorem zrt{w:World}{base:Nat}{e:TypeId}{size n c:Nat}{a:Option Addr}{xs:List Value}(h:w.ownsRow base e size (.slice a n c) n xs)(hz:n=0->xs= []):At w a xs:=by
 rcases h.2 with⟨e1,hn⟩ | ⟨g,cap,cur,e1,_⟩
 ·rw [hz hn]
  intro j u hj
  simp at hj
 ·cases e1
  exact zwn h
theorem mCopyC (v : Value) (w : World) : (method 492 180 v "Copy").run Tryz.prog w = .ok (242, v) w := by kernel_rfl
theorem mCopyS (v : Value) (w : World) : (method 492 183 v "Copy").run Tryz.prog w = .ok (246, v) w := by kernel_rfl
theorem mCopyR (v : Value) (w : World) : (method 492 188 v "Copy").run Tryz.prog w = .ok (304, v) w := by kernel_rfl
theorem mCopyL (v : Value) (w : World) : (method 492 190 v "Copy").run Tryz.prog w = .ok (308, v) w := by kernel_rfl
def CpOk(own:Clr)(ob:Ob)(w:World)(e:Ending)(w':World):Prop:=∃v,e= .returned v∧(∀d,ObAt w' (newTo own w.heap.size d) d v ob)∧Below w.heap.size w w'
theorem zh9{o:Oper}{a:Act}{w:World}{K:Act->World->Prop}{Q:Exit->Act->World->Prop}(x:Operand)(ats:Array TypeId)
    (hop : o.op = .call { callee := .invoke x "Copy", args := #[], argTypes := ats }) (v : Value) (ob : Ob) (own : Clr) (c : Nat) (hx : a.eval x = v)
    (hob:ObAt w own c v ob) (hsm:ob.small)
    (hK:∀v' w',CpOk own ob w (.returned v') w'->K (a.put o.dst v') w'):Oper.wp Tryz.prog o a w K Q:=by
  have hex : ∀ t q f, v = .iface t q -> (∀ w', (method 492 t q "Copy").run Tryz.prog w' = .ok (f, q) w') -> (callFunc f #[q]).run Tryz.prog w = .ok (.enter f #[q]) w -> (Calls Tryz.prog f #[q] w fun e w' => CpOk own ob w e w') -> Oper.wp Tryz.prog o a w K Q := by
    intro t q f hv hm hcf hcalls
    have hrun:(execOp a.eval o).run Tryz.prog w= .ok (.enter f #[q]) w:=by
      unfold execOp
      simp only [hop]
      simp only [resolve,invoke,Sem.run_bind,Sem.run_pure,Result.andThen_ok,List.map_toArray,List.map_nil,hx,hv]
      show (callMethod (.iface t q) "Copy" #[]).run Tryz.prog w = _
      unfold callMethod
      simp [Made.depth,hm,hcf]
    unfold Oper.wp
    rw [hrun,Oper.upon_enter]
    refine hcalls.mono ?_
    intro e w' hT
    obtain⟨v',he,h2,h3⟩:=hT
    subst he
    exact hK v' w' ⟨v',rfl,h2,h3⟩
  cases ob with
  | counter n=>
    obtain⟨pp,hveq,hp,hb⟩:=hob
    refine hex _ _ _ hveq (fun w'=>mCopyC _ w') (by kernel_rfl) ?_
    refine(zu3 pp n w hb).mono ?_
    rintro e w' ⟨⟨q,rfl,hq,hk⟩,hB⟩
    exact⟨_,rfl,fun d=>⟨q,rfl,zae _ _ _ _ hq,hk⟩,hB⟩
  | set l=>
    obtain⟨pp,b,hveq,hp,hob,hb,hm⟩:=hob
    refine hex _ _ _ hveq (fun w'=>mCopyS _ w') (by kernel_rfl) ?_
    refine(zsz pp b l w hb hm).mono ?_
    rintro e w' ⟨⟨q,b',rfl,hq,hq2,hk,hk2⟩,hB⟩
    exact⟨_,rfl,fun d=>⟨q,b',rfl,zae _ _ _ _ hq,zae _ _ _ _ hq2,hk,hk2⟩,hB⟩
  | reg l=>
    obtain⟨pp,b,hveq,hp,hob,hb,hm⟩:=hob
    refine hex _ _ _ hveq (fun w'=>mCopyR _ w') (by kernel_rfl) ?_
    refine(ztc pp b l w hb hm).mono ?_
    rintro e w' ⟨⟨q,b',rfl,hq,hq2,hk,hk2⟩,hB⟩
    exact⟨_,rfl,fun d=>⟨q,b',rfl,zae _ _ _ _ hq,zae _ _ _ _ hq2,hk,hk2⟩,hB⟩
  | list ls=>
    obtain⟨pp,sv,hveq,hp,hg,hL⟩:=hob
    have hs':ls.length<=1000000:=hsm
    refine hex _ _ _ hveq (fun w'=>mCopyL _ w') (by kernel_rfl) ?_
    refine(zty pp 0 sv ls w hL (by omega)).mono ?_
    rintro e w' ⟨⟨q,sv',rfl,hL'⟩,hB⟩
    exact⟨_,rfl,fun d=>⟨q,sv',rfl,zae _ _ _ _ hL'.le,fun g hgs=>zae _ _ _ _ (hL'.row.lt g hgs).1,⟨hL'.blk,zls hL'.row (Nat.zero_le _),Nat.zero_le _⟩⟩,hB⟩
theorem zf2{ops:Array Oper}{rest:List Oper}{o:Oper}{a:Act}{w:World}{Q:Exit->Act->World->Prop}(hgd:o.guard=none)(x:Operand)(ats:Array TypeId)
    (hop : o.op = .call { callee := .invoke x "Copy", args := #[], argTypes := ats }) (v : Value) (ob : Ob) (own : Clr) (c : Nat) (hx : a.eval x = v)
    (hob:ObAt w own c v ob) (hsm:ob.small)
    (hh:∀v' w',CpOk own ob w (.returned v') w'->wpList Tryz.prog ops Q rest (a.put o.dst v') w'):
    wpList Tryz.prog ops Q (o::rest) a w:=by
  refine wpList_plain hgd fun K hK=> ?_
  exact zh9 x ats hop v ob own c hx hob hsm (fun v' w' h=>hK _ _ (hh v' w' h))
def pendB(R:Rp):Wv.Bt:=⟨R.n,R.clock.getD R.n.toNat 0+1,R.time+1,R.clock,R.effs⟩
def PendOk(own:Clr)(c:Nat)(R:Rp)(es:List Em)(w:World)(e:Ending)(w':World):Prop:=∃x:Bm,e= .returned (bmV x)∧x.b=pendB R∧x.ms=es∧Below w.heap.size w w'∧BatK (fun d=>d=0∨d=c+10) w' (newTo own w.heap.size 0) x
theorem zwh{own:Clr}{c p:Nat}{R:Rp}{cg cc hp:Nat}{mv hv:Value}{hs:List Bm}{es:List Em}{w w':World}{ea ca:Option Addr}{ec cc':Nat}(h:RpIn w own c p R cg cc hp mv hv (.slice ea R.effs.length ec) hs es)(hB:Below w.heap.size w w')
  (ho:w'.ownsRow w.heap.size 3 1 (.slice ca R.clock.length cc') R.clock.length (R.clock.map I)):BatK (fun d=>d=0∨d=c+10) w' (newTo own w.heap.size 0) ⟨pendB R,ca,ea,cc',ec,es⟩:=by
 have hE:=h.effs.keep (fun b hb _=>hB.block b hb) (fun b hb _=>hB.block b hb) (zaf own w.heap.size 0)
 have hl:es.length=R.effs.length:=by rw [h.effsE,List.length_map]
 refine⟨fun j u hj=> ?_,h.effsE,fun j u hj=> ?_,fun x hx j u hj=> ?_⟩
 ·obtain⟨b,o,e,hc⟩:=zrt ho (fun hz=>by rw [List.eq_nil_of_length_eq_zero hz];rfl) j u hj
  have e2:ca=some ⟨b,o,none⟩:=e
  have hb:w.heap.size<=b:=(ho.lt b (by rw [e2];rfl)).1
  exact⟨b,o,e,Or.inl (zae _ _ _ _ hb),hc⟩
 ·have hr:=hE.row
  rw [hl] at hr
  obtain⟨b,o,e,hc⟩:=zrt hr (fun hz=>by rw [List.eq_nil_of_length_eq_zero (hl.trans hz)];rfl) j u hj
  have e2:ea=some ⟨b,o,none⟩:=e
  exact⟨b,o,e,Or.inr (hE.own2 b (by rw [e2];rfl)),hc⟩
 ·obtain⟨b,o,e,h0,hc⟩:=hE.dots x hx j u hj
  exact⟨b,o,e,Or.inl h0,hc⟩
theorem zfd(own:Clr)(c p:Nat)(R:Rp)(cg cc hp:Nat)(mv hv ev:Value)(hs:List Bm)(es:List Em)(w:World)(h:RpIn w own c p R cg cc hp mv hv ev hs es)(hl:R.clock.length<=1000)(hn0:0<=R.n)(hn1:R.n<R.clock.length)(hs0:∀z∈R.clock,0<=z∧z<=1000000)(ht0:0<=R.time)(ht1:R.time<=1000000000):
  Calls Tryz.prog 70 #[.pointer (some ⟨p,0,none⟩)] w fun e w'=>PendOk own c R es w e w':=by
 obtain⟨ea,en,ec,rfl⟩:=zcp h.effs.row
 obtain rfl:en=R.effs.length:=by
  rw [h.effsE,List.length_map]
  rcases h.effs.row.2 with⟨e,hz⟩ | ⟨g,cap,cur,e,_⟩
  ·cases e;exact hz.symm
  ·cases e;rfl
 have c0:w.cell? ⟨p,0,none⟩=some (I R.n):=h.blk.cell 0
 have c2:w.cell? ⟨p,2,none⟩=some (.slice (some ⟨cg,0,none⟩) R.clock.length cc):=h.blk.cell 2
 have c3:w.cell? ⟨p,3,none⟩=some (I R.time):=h.blk.cell 3
 have c8:w.cell? ⟨p,8,none⟩=some (.slice ea R.effs.length ec):=h.blk.cell 8
 obtain⟨n,HN⟩:∃n:Nat,R.n=n:=⟨R.n.toNat,by omega⟩
 have hnl:n<R.clock.length:=by omega
 have cn:w.cell? ⟨cg,n,none⟩=some (I R.clock[n]):=h.clkAt.row n hnl
 obtain⟨hz0,hz1⟩:=hs0 _ (List.getElem_mem hnl)
 have HPB:Hid (pendB R=⟨n,R.clock[n]+1,R.time+1,R.clock,R.effs⟩):=by
  show _=_
  unfold pendB
  rw [HN,Int.toNat_natCast]
  simp [hnl]
 rw [HN] at c0
 have hnl2:(n:Int)<R.clock.length:=by omega
 have HNN:Hid (R.n=n):=HN
 clear HN hn0 hn1
 have HRW:Hid (RpIn w own c p R cg cc hp mv hv (.slice ea R.effs.length ec) hs es):=h
 clear h hs0
 generalize R.clock[n]=z at *
 go_enter Tryz.func70,Tryz.ntmps70
 go_wp2_with fail
 obtain⟨wA,hwA⟩:∃wA,wA=w.alloc (.cells #[.int .i64 0, .int .i64 0, .int .i64 0, .slice none 0 0, .slice none 0 0] 124):=⟨_,rfl⟩
 change Code.wp _ _ _ _ (w.alloc (.cells #[.int .i64 0, .int .i64 0, .int .i64 0, .slice none 0 0, .slice none 0 0] 124))
 rw [←hwA]
 have HBA:Hid (Below w.heap.size w wA):=by rw [hwA];exact(Below.refl _ _).alloc (Nat.le_refl _) _
 have hpw:p<w.heap.size:=HRW.out.blk.lt
 have hcw:cg<w.heap.size:=HRW.out.clk.lt
 have HAN:Hid (Blk wA w.heap.size #[.int .i64 0, .int .i64 0, .int .i64 0, .slice none 0 0, .slice none 0 0] 124):=by rw [hwA];exact heap_alloc_new w _
 clear hwA
 have HRD:Hid (RpIn wA.drew own c p R cg cc hp mv hv (.slice ea R.effs.length ec) hs es):=HRW.out.keep (fun b hb _=>HBA.out.block b hb) (fun d _ _ b hb _=>HBA.out.block b hb) (Ext.refl _ _)
 have d0:wA.drew.cell? ⟨p,0,none⟩=some (I n):=zaa HBA.out c0
 have d2:wA.drew.cell? ⟨p,2,none⟩=some (.slice (some ⟨cg,0,none⟩) R.clock.length cc):=zaa HBA.out c2
 have d3:wA.drew.cell? ⟨p,3,none⟩=some (I R.time):=zaa HBA.out c3
 have d8:wA.drew.cell? ⟨p,8,none⟩=some (.slice ea R.effs.length ec):=zaa HBA.out c8
 have dn:wA.drew.cell? ⟨cg,n,none⟩=some (I z):=zaa HBA.out cn
 go_region_held_law (fun w'=>w'.cell? ⟨p,0,none⟩=some (I n)∧w'.cell? ⟨p,2,none⟩=some (.slice (some ⟨cg,0,none⟩) R.clock.length cc)∧w'.cell? ⟨p,3,none⟩=some (I R.time)∧w'.cell? ⟨p,8,none⟩=some (.slice ea R.effs.length ec)∧w'.cell? ⟨cg,n,none⟩=some (I z)) (first | exact⟨by with_reducible assumption,by with_reducible assumption,by with_reducible assumption,by with_reducible assumption,by with_reducible assumption⟩)
  (first | (go_at_call 49;refine(zin own c p R cg cc hp mv hv _ hs es _ HRD.out hl).mono ?_;rintro e w3 ⟨v3,rfl,ho3,hb3⟩;obtain⟨ca,cm,cp,rfl⟩:=zcp ho3;have HO3:Hid (w3.ownsRow wA.heap.size 3 1 (.slice ca cm cp) R.clock.length (R.clock.map I)):=ho3;have HB3:Hid (Below wA.heap.size wA w3):=(Below.refl _ _).drew.trans hb3;clear ho3 hb3;have f0:w3.cell? ⟨p,0,none⟩=some (I n):=zaa HB3.out d0;have f2:w3.cell? ⟨p,2,none⟩=some (.slice (some ⟨cg,0,none⟩) R.clock.length cc):=zaa HB3.out d2;have f3:w3.cell? ⟨p,3,none⟩=some (I R.time):=zaa HB3.out d3;have f8:w3.cell? ⟨p,8,none⟩=some (.slice ea R.effs.length ec):=zaa HB3.out d8;have fn:w3.cell? ⟨cg,n,none⟩=some (I z):=zaa HB3.out dn;have HAN3:Hid (Blk w3 w.heap.size #[.int .i64 0, .int .i64 0, .int .i64 0, .slice none 0 0, .slice none 0 0] 124):=HAN.out.kept HB3.out HAN.out.lt;have a0:w3.cell? ⟨w.heap.size,0,none⟩=some (.int .i64 0):=HAN3.out.cell 0;have z0:=HAN3.out.frozen 0;have a1:w3.cell? ⟨w.heap.size,1,none⟩=some (.int .i64 0):=HAN3.out.cell 1;have z1:=HAN3.out.frozen 1;have a2:w3.cell? ⟨w.heap.size,2,none⟩=some (.int .i64 0):=HAN3.out.cell 2;have z2:=HAN3.out.frozen 2;have a3:w3.cell? ⟨w.heap.size,3,none⟩=some (.slice none 0 0):=HAN3.out.cell 3;have z3:=HAN3.out.frozen 3;have a4:w3.cell? ⟨w.heap.size,4,none⟩=some (.slice none 0 0):=HAN3.out.cell 4;have z4:=HAN3.out.frozen 4;obtain rfl:cm=R.clock.length:=(by rcases HO3.out.2 with⟨e,hz⟩ | ⟨g,cap,cur,e,_⟩<;>cases e<;>first | exact hz.symm | rfl);have HT3:Hid (Tch (fun k=>k=w.heap.size) w3 (((((w3.setCell ⟨w.heap.size,0,none⟩ (I n)).setCell ⟨w.heap.size,1,none⟩ (I (IntKind.i64.wrap (z+1)))).setCell ⟨w.heap.size,2,none⟩ (I (IntKind.i64.wrap (R.time+1)))).setCell ⟨w.heap.size,3,none⟩ (.slice ca R.clock.length cp)).setCell ⟨w.heap.size,4,none⟩ (.slice ea R.effs.length ec))):=zbn (zbn (zbn (zbn (zbn (Tch.refl _ _) _ _) _ _) _ _) _ _) _ _;have hf0:(((((w3.setCell ⟨w.heap.size,0,none⟩ (I n)).setCell ⟨w.heap.size,1,none⟩ (I (IntKind.i64.wrap (z+1)))).setCell ⟨w.heap.size,2,none⟩ (I (IntKind.i64.wrap (R.time+1)))).setCell ⟨w.heap.size,3,none⟩ (.slice ca R.clock.length cp)).setCell ⟨w.heap.size,4,none⟩ (.slice ea R.effs.length ec)).cell? ⟨p,0,none⟩=some (I n):=HT3.out.cell f0 (by show¬_=_;omega);have hf2:(((((w3.setCell ⟨w.heap.size,0,none⟩ (I n)).setCell ⟨w.heap.size,1,none⟩ (I (IntKind.i64.wrap (z+1)))).setCell ⟨w.heap.size,2,none⟩ (I (IntKind.i64.wrap (R.time+1)))).setCell ⟨w.heap.size,3,none⟩ (.slice ca R.clock.length cp)).setCell ⟨w.heap.size,4,none⟩ (.slice ea R.effs.length ec)).cell? ⟨p,2,none⟩=some (.slice (some ⟨cg,0,none⟩) R.clock.length cc):=HT3.out.cell f2 (by show¬_=_;omega);have hf3:(((((w3.setCell ⟨w.heap.size,0,none⟩ (I n)).setCell ⟨w.heap.size,1,none⟩ (I (IntKind.i64.wrap (z+1)))).setCell ⟨w.heap.size,2,none⟩ (I (IntKind.i64.wrap (R.time+1)))).setCell ⟨w.heap.size,3,none⟩ (.slice ca R.clock.length cp)).setCell ⟨w.heap.size,4,none⟩ (.slice ea R.effs.length ec)).cell? ⟨p,3,none⟩=some (I R.time):=HT3.out.cell f3 (by show¬_=_;omega);have hf8:(((((w3.setCell ⟨w.heap.size,0,none⟩ (I n)).setCell ⟨w.heap.size,1,none⟩ (I (IntKind.i64.wrap (z+1)))).setCell ⟨w.heap.size,2,none⟩ (I (IntKind.i64.wrap (R.time+1)))).setCell ⟨w.heap.size,3,none⟩ (.slice ca R.clock.length cp)).setCell ⟨w.heap.size,4,none⟩ (.slice ea R.effs.length ec)).cell? ⟨p,8,none⟩=some (.slice ea R.effs.length ec):=HT3.out.cell f8 (by show¬_=_;omega);have hfn:(((((w3.setCell ⟨w.heap.size,0,none⟩ (I n)).setCell ⟨w.heap.size,1,none⟩ (I (IntKind.i64.wrap (z+1)))).setCell ⟨w.heap.size,2,none⟩ (I (IntKind.i64.wrap (R.time+1)))).setCell ⟨w.heap.size,3,none⟩ (.slice ca R.clock.length cp)).setCell ⟨w.heap.size,4,none⟩ (.slice ea R.effs.length ec)).cell? ⟨cg,n,none⟩=some (I z):=HT3.out.cell fn (by show¬_=_;omega)))
 all_goals
  go_wp2_with fail
  obtain⟨wF,hwF⟩:∃wF,wF=(((((w3.setCell ⟨w.heap.size,0,none⟩ (I n)).setCell ⟨w.heap.size,1,none⟩ (I (IntKind.i64.wrap (z+1)))).setCell ⟨w.heap.size,2,none⟩ (I (IntKind.i64.wrap (R.time+1)))).setCell ⟨w.heap.size,3,none⟩ (.slice ca R.clock.length cp)).setCell ⟨w.heap.size,4,none⟩ (.slice ea R.effs.length ec)):=⟨_,rfl⟩
  change bodyPost _ _ _ Exit.ret _ (((((w3.setCell ⟨w.heap.size,0,none⟩ (I n)).setCell ⟨w.heap.size,1,none⟩ (I (IntKind.i64.wrap (z+1)))).setCell ⟨w.heap.size,2,none⟩ (I (IntKind.i64.wrap (R.time+1)))).setCell ⟨w.heap.size,3,none⟩ (.slice ca R.clock.length cp)).setCell ⟨w.heap.size,4,none⟩ (.slice ea R.effs.length ec))
  have HTF:Hid (Tch (fun k=>k=w.heap.size) w3 wF):=by rw [hwF];exact HT3.out
  have HBF:Hid (Blk wF w.heap.size #[I n,I (IntKind.i64.wrap (z+1)),I (IntKind.i64.wrap (R.time+1)), .slice ca R.clock.length cp, .slice ea R.effs.length ec] 124):=by
   have:=((((HAN3.out.set 0 (I n)).set 1 (I (IntKind.i64.wrap (z+1)))).set 2 (I (IntKind.i64.wrap (R.time+1)))).set 3 (.slice ca R.clock.length cp)).set 4 (.slice ea R.effs.length ec)
   rw [hwF]
   exact this
  rw [←hwF]
  clear hwF
  rw [wrapI (z+1) (by omega) (by omega),wrapI (R.time+1) (by omega) (by omega)] at HBF
  have q0:wF.cell? ⟨w.heap.size,0,none⟩=some (I n):=HBF.out.cell 0
  have q1:wF.cell? ⟨w.heap.size,1,none⟩=some (I (z+1)):=HBF.out.cell 1
  have q2:wF.cell? ⟨w.heap.size,2,none⟩=some (I (R.time+1)):=HBF.out.cell 2
  have q3:wF.cell? ⟨w.heap.size,3,none⟩=some (.slice ca R.clock.length cp):=HBF.out.cell 3
  have q4:wF.cell? ⟨w.heap.size,4,none⟩=some (.slice ea R.effs.length ec):=HBF.out.cell 4
  have hsz:w.heap.size<wA.heap.size:=HAN.out.lt
  have hB:Below w.heap.size w wF:=by
   have h1:=HBA.out.trans (HB3.out.mono HBA.out.size)
   exact h1.trans (HTF.out.toBelow (Nat.le_of_lt (Nat.lt_of_lt_of_le hsz HB3.out.size)) (fun k hk e=>by have e2:k=w.heap.size:=e;omega))
  have hO:wF.ownsRow w.heap.size 3 1 (.slice ca R.clock.length cp) R.clock.length (R.clock.map I):=
   zls (zah HO3.out (fun g e=>HTF.out.block g (HO3.out.lt g e).2 (by have:=(HO3.out.lt g e).1;show¬_=_;omega))) (by omega)
  refine bodyPost_ret (v:=bmV ⟨pendB R,ca,ea,cp,ec,es⟩) (by rw [HPB.out];simp [results,Tryz.results70,go_sem,q0,q1,q2,q3,q4]) rfl ?_
  exact⟨_,rfl,rfl,rfl,hB,zwh HRW.out hB hO⟩
theorem zz4 (p : Nat) (w : World) : (nilAhead 492 180 (.pointer (some ⟨p, 0, none⟩)) "Take").run Tryz.prog w = .ok (some false) w := by kernel_rfl
theorem zz1 (p : Nat) (w : World) : (nilAhead 492 183 (.pointer (some ⟨p, 0, none⟩)) "Take").run Tryz.prog w = .ok (some false) w := by kernel_rfl
theorem zz2 (p : Nat) (w : World) : (nilAhead 492 188 (.pointer (some ⟨p, 0, none⟩)) "Take").run Tryz.prog w = .ok (some false) w := by kernel_rfl
theorem zz3 (p : Nat) (w : World) : (nilAhead 492 190 (.pointer (some ⟨p, 0, none⟩)) "Take").run Tryz.prog w = .ok (some false) w := by kernel_rfl
theorem ObAt.ahead {w : World} {own : Clr} {c : Nat} {t : TypeId} {q : Value} {o : Ob} (h : ObAt w own c (.iface t q) o) (w' : World) : (nilAhead 492 t q "Take").run Tryz.prog w' = .ok (some false) w' := by
 cases o with
 | counter n=>obtain⟨p,e,_⟩:=h;cases e;exact zz4 p w'
 | set m=>obtain⟨p,b,e,_⟩:=h;cases e;exact zz1 p w'
 | reg m=>obtain⟨p,b,e,_⟩:=h;cases e;exact zz2 p w'
 | list ls=>obtain⟨p,sv,e,_⟩:=h;cases e;exact zz3 p w'
def seeTo(b:Wv.Bt)(k:Int)(o:Ob):Nat->Ob
 | 0=>o
 | i+1=>match b.effs[i]? with
  | some e=>if e.ob=k then(seeTo b k o i).take (zbg b i) e else seeTo b k o i
  | none=>seeTo b k o i
theorem zlz(own:Clr)(m n:Nat):∃d,m<d∧∀b,b<n->own b<d:=by
 induction n with
 | zero=>exact⟨m+1,by omega,fun b hb=>by omega⟩
 | succ n ih=>
  obtain⟨d,h1,h2⟩:=ih
  refine⟨d+own n+1,by omega,fun b hb=> ?_⟩
  by_cases hbn:b=n
  ·subst hbn;omega
  ·have:=h2 b (by omega);omega
def SeeNo(w:World)(e:Ending)(w':World):Prop:=e= .returned (.tuple #[.nilIface,I 8])∧Below w.heap.size w w'
theorem zvp(own:Clr)(c p:Nat)(R:Rp)(cg cc hp:Nat)(mv hv ev:Value)(hs:List Bm)(es:List Em)(k:Int)(w:World)(h:RpIn w own c p R cg cc hp mv hv ev hs es)(hobs:R.obs.length=8)(hk:¬(0<=k∧k<8)):
  Calls Tryz.prog 66 #[.pointer (some ⟨p,0,none⟩),I k] w fun e w'=>SeeNo w e w':=by
 obtain⟨mb,vs,rfl,hmo,hom,hvl,_,hobA⟩:∃mb vs,mv= .map (some mb)∧own mb=c∧OmAt w mb vs∧vs.length=8∧R.obs.length=8∧∀j (h1:j<vs.length) (h2:j<R.obs.length),ObAt w own (c+1+j) vs[j] R.obs[j]:=by
  rcases h.obs with h | h
  ·have h8:=hobs;rw [h.1] at h8;cases h8
  ·exact h
 have c4:w.cell? ⟨p,4,none⟩=some (.map (some mb)):=h.blk.cell 4
 have hlk:=zf1 k w mb vs hom (by rw [hvl];exact hk)
 have hlk2:=zf1 k w.drew mb vs (hom.same rfl) (by rw [hvl];exact hk)
 clear h hobA hom
 go_enter Tryz.func66,Tryz.ntmps66
 go_wp2_with fail
 exact bodyPost_ret (v:= .tuple #[.nilIface,I 8]) (by simp [results,Tryz.results66,go_sem]) rfl ⟨rfl,Below.refl _ _⟩
def SeeOk(own:Clr)(o:Ob)(w:World)(e:Ending)(w':World):Prop:=∃v d own',e= .returned (.tuple #[v,I 0])∧Ext own own' w.heap.size∧ObAt w' own' d v o∧Below w.heap.size w w'
structure SeAt(w wr:World)(own own':Clr)(c d:Nat)(v:Value)(o:Ob)(x:Bm)(bx:Nat):Prop where
 ob:ObAt wr own' d v o
 bat:BatK (fun d=>d=0∨d=c+10) wr own' x
 box:Blk wr bx (bmC x) 124
 boxc:own' bx=0
 ext:Ext own own' w.heap.size
 bel:Below w.heap.size w wr
theorem SeAt.below{w wr w2:World}{own own':Clr}{c d:Nat}{v:Value}{o:Ob}{x:Bm}{bx:Nat}(h:SeAt w wr own own' c d v o x bx)(hb:Below wr.heap.size wr w2):SeAt w w2 own (newTo own' wr.heap.size 0) c d v o x bx:=
 ⟨h.ob.keep (fun b hl _=>hb.block b hl) (zaf _ _ _),h.bat.keep (fun _ _ b hl _=>hb.block b hl) (zaf _ _ _),h.box.kept hb h.box.lt,(zac _ _ _ _ h.box.lt).trans h.boxc,h.ext.trans (zaf _ _ _) h.bel.size,h.bel.trans (hb.mono h.bel.size)⟩
theorem SeAt.took{w wr w2:World}{own own':Clr}{c d:Nat}{v:Value}{o o2:Ob}{x:Bm}{bx:Nat}(hd:c+10<d)(hf:∀b,b<w.heap.size->own b<d)(h:SeAt w wr own own' c d v o x bx)(hT:zd6 own' d v o2 wr (.returned (.tuple #[])) w2):∃own2,SeAt w w2 own own2 c d v o2 x bx:=by
 obtain⟨_,own2,hE,hO,hT⟩:=hT
 refine⟨own2,hO,h.bat.keep (fun e he b hl ho=>hT.block b hl (by show¬_=_;rcases he with he | he<;>omega)) hE,hT.blk h.box (by show¬_=_;rw [h.boxc];omega),(hE _ h.box.lt).trans h.boxc,h.ext.trans hE h.bel.size,h.bel.trans (hT.toBelow h.bel.size (fun k hk=>by show¬_=_;have h1:=hf k hk;have h2:=h.ext k hk;omega))⟩
theorem zvr{w w2 w4 wA:World}{own:Clr}{c d:Nat}{v:Value}{o:Ob}{x:Bm}(hO:ObAt w2 (newTo own w.heap.size d) d v o)(hB3:Below w.heap.size w w2)(hB4:Below w2.heap.size w2 w4)(hK:BatK (fun d=>d=0∨d=c+10) w4 (newTo (newTo own w.heap.size d) w2.heap.size 0) x)(hA:wA=w4.alloc (.cells (bmC x) 124)):SeAt w wA own (newTo (newTo own w.heap.size d) w2.heap.size 0) c d v o x w4.heap.size:=by
 have hBA:Below w4.heap.size w4 wA:=by rw [hA];exact(Below.refl _ _).alloc (Nat.le_refl _) _
 have hB:Below w2.heap.size w2 wA:=hB4.trans (hBA.mono hB4.size)
 exact⟨hO.keep (fun b hl _=>hB.block b hl) (zaf _ _ _),hK.keep (fun _ _ b hl _=>hBA.block b hl) (Ext.refl _ _),by rw [hA];exact heap_alloc_new w4 _,zae _ _ _ _ hB4.size,(zaf _ _ _).trans (zaf _ _ _) hB3.size,hB3.trans (hB.mono hB3.size)⟩
theorem zct{b:Wv.Bt}{k:Int}{o:Ob}{N:Nat}(ho:o.bound N)(hv:∀e∈b.effs, -1000<=e.va∧e.va<=1000∧e.dots.length<=1048576):∀i,i<=b.effs.length->(seeTo b k o i).bound (N+i):=by
 intro i
 induction i with
 | zero=>intro _;exact ho
 | succ i ih=>
  intro hi
  have hq:b.effs[i]?=some b.effs[i]:=List.getElem?_eq_getElem (by omega)
  obtain⟨h1,h2,_⟩:=hv _ (List.getElem_mem (by omega:i<b.effs.length))
  rw [seeTo,hq]
  show Ob.bound _ (if _ then _ else _)
  split
  ·exact Ob.bound_take _ _ (ih (by omega)) h1 h2
  ·exact Ob.bound_mono (ih (by omega)) (by omega)
theorem zep(own:Clr)(c p:Nat)(R:Rp)(cg cc hp:Nat)(mv hv ev:Value)(hs:List Bm)(es:List Em)(k:Nat)(o:Ob)(w:World)(h:RpIn w own c p R cg cc hp mv hv ev hs es)(hk:R.obs[k]?=some o)(hobs:R.obs.length=8)
  (hl:R.clock.length<=1000) (hn0:0<=R.n) (hn1:R.n<R.clock.length) (hs0:∀z∈R.clock,0<=z∧z<=1000000) (ht0:0<=R.time) (ht1:R.time<=1000000000)
  (N:Nat) (hN:N+R.effs.length<=100000) (hbd:o.bound N) (hval:∀e∈R.effs, -1000<=e.va∧e.va<=1000∧e.dots.length<=1048576):
  Calls Tryz.prog 66 #[.pointer (some ⟨p,0,none⟩),I k] w fun e w'=>SeeOk own (seeTo (pendB R) k o R.effs.length) w e w':=by
 obtain⟨mb,vs,rfl,hmo,hom,hvl,_,hobA⟩:∃mb vs,mv= .map (some mb)∧own mb=c∧OmAt w mb vs∧vs.length=8∧R.obs.length=8∧∀j (h1:j<vs.length) (h2:j<R.obs.length),ObAt w own (c+1+j) vs[j] R.obs[j]:=by
  rcases h.obs with h | h
  ·have h8:=hobs;rw [h.1] at h8;cases h8
  ·exact h
 obtain⟨hkl,hko⟩:=List.getElem?_eq_some_iff.1 hk
 obtain⟨d,hd,hfr⟩:=zlz own (c+10) w.heap.size
 have HFR:Hid (∀b,b<w.heap.size->own b<d):=hfr
 have c4:w.cell? ⟨p,4,none⟩=some (.map (some mb)):=h.blk.cell 4
 obtain⟨v,hv1⟩:∃v,vs[k]'(by omega)=v:=⟨_,rfl⟩
 have hlk:=zf0 k w mb vs hom (by omega)
 have hlk2:=zf0 k w.drew mb vs (hom.same rfl) (by omega)
 simp only [Int.toNat_natCast] at hlk hlk2
 rw [hv1] at hlk hlk2
 have HOB:Hid (ObAt w own (c+1+k) v o):=by
  have:=hobA k (by omega) hkl
  rw [hv1,hko] at this
  exact this
 have HSM:Hid (o.small):=Ob.bound_small hbd (by omega)
 have HRW:Hid (RpIn w own c p R cg cc hp (.map (some mb)) hv ev hs es):=h
 have HVL:Hid (∀e∈R.effs, -1000<=e.va∧e.va<=1000∧e.dots.length<=1048576):=hval
 have HBD:Hid (o.bound N):=hbd
 have HS0:Hid (∀z∈R.clock,0<=z∧z<=1000000):=hs0
 clear h hobA hom hk hko hv1 hval hbd hs0 hfr
 obtain⟨tv,pv,hvf⟩:=ObAt.face HOB.out
 subst hvf
 go_enter Tryz.func66,Tryz.ntmps66
 go_wp2_with (first
  | (refine zf2 rfl _ _ rfl (.iface tv pv) o own (c+1+k) (by simp [Act.eval]) HOB.out HSM.out ?_;intro v2 w2 hC2;obtain⟨v3,e3,hO3,hB3⟩:=hC2;cases e3;have HO3:Hid (ObAt w2 (newTo own w.heap.size d) d v2 o):=hO3 d;have HB3:Hid (Below w.heap.size w w2):=hB3;clear hO3 hB3;obtain⟨tw,pw,hvf⟩:=ObAt.face HO3.out;subst hvf)
  | fail)
 refine(zfd (newTo own w.heap.size d) c p R cg cc hp (.map (some mb)) hv ev hs es w2 (HRW.out.keep (fun b hb _=>HB3.out.block b hb) (fun _ _ _ b hb _=>HB3.out.block b hb) (zaf _ _ _)) hl hn0 hn1 HS0.out ht0 ht1).mono ?_
 rintro e w4 ⟨x,rfl,hxb,hxm,hB4,hK4⟩
 have HXB:Hid (x.b=pendB R):=hxb
 have HB4:Hid (Below w2.heap.size w2 w4):=hB4
 have HK4:Hid (BatK (fun d=>d=0∨d=c+10) w4 (newTo (newTo own w.heap.size d) w2.heap.size 0) x):=hK4
 have HXL:Hid (x.b.effs.length=R.effs.length):=by show _=_;rw [hxb];rfl
 clear hxb hxm hB4 hK4 c4 hlk hlk2 hl hn0 hn1 HS0 ht0 ht1 hvl hobs
 obtain⟨wA,hwA⟩:∃wA,wA=w4.alloc (.cells (bmC x) 124):=⟨_,rfl⟩
 have HSS:Hid (SeAt w wA own (newTo (newTo own w.heap.size d) w2.heap.size 0) c d (.iface tw pw) (seeTo x.b k o 0) x w4.heap.size):=zvr HO3.out HB3.out HB4.out HK4.out hwA
 go_wp2_with fail
 change Code.wp _ _ _ _ (w4.alloc (.cells (bmC x) 124))
 rw [←hwA]
 clear hwA HO3 HB3 HB4 HK4 HRW HOB HSM
 have HSB0:Hid (∀i,i<=x.b.effs.length->(seeTo x.b k o i).bound (N+i)):=zct HBD.out (by rw [HXB.out];exact HVL.out)
 have HVX:Hid (∀e∈x.b.effs, -1000<=e.va∧e.va<=1000∧e.dots.length<=1048576):=by show∀e∈x.b.effs,_;rw [HXB.out];exact HVL.out
 have hNx:N+x.b.effs.length<=100000:=by rw [HXL.out];exact hN
 clear HVL HBD hN
 go_loopw [30] (fun v wX=>∃(i:Nat) (own':Clr),i<=x.b.effs.length∧v=I i∧Hid (SeAt w wX own own' c d (.iface tw pw) (seeTo x.b k o i) x w4.heap.size)) (fun v _=>x.b.effs.length - (intOf v).toNat)
 case atStart=>exact⟨0,_,Nat.zero_le _,rfl,HSS⟩
 case round=>
  obtain⟨i,own',hi,rfl,HDk⟩:=hrel
  clear HSS
  by_cases hlt:i<x.b.effs.length
  ·have hms:x.ms.length=x.b.effs.length:=by rw [HDk.out.bat.effs,List.length_map]
   obtain⟨ep,eq,hea,_,hec⟩:=ze0 HDk.out.bat.cells.at (by omega)
   obtain⟨g0,g1,g2,g3,g4,g5,g6⟩:=hec i (by omega)
   obtain⟨m,hm⟩:∃m,x.ms[i]'(by omega)=m:=⟨_,rfl⟩
   have HM:Hid (x.ms[i]'(by omega)=m):=hm
   clear hm
   rw [HM.out] at g0 g1 g2 g3 g4 g5 g6
   have HMM2:Hid (m∈x.ms):=by show m∈x.ms;rw [←HM.out];exact List.getElem_mem _
   have HEF:Hid (x.b.effs[i]?=some m.e):=by
    show _=_
    rw [HDk.out.bat.effs,List.getElem?_map,List.getElem?_eq_getElem (by omega),←HM.out]
    rfl
   obtain⟨hva1,hva2,hdl⟩:=HVX.out m.e (List.mem_of_getElem? HEF.out)
   have HDT:Hid (At wr m.da (flat zab m.e.dots)):=(HDk.out.bat.dots m HMM2.out).at
   have HSB:Hid ((seeTo x.b k o i).small):=Ob.bound_small (HSB0.out i hi) (by omega)
   have HSTEP:Hid (seeTo x.b k o (i+1)=if m.e.ob=k then(seeTo x.b k o i).take (zbg x.b i) m.e else seeTo x.b k o i):=by
    show _=_
    rw [seeTo,HEF.out]
   have hii:(i:Int)<x.b.effs.length:=by omega
   clear hec
   rw [hea]
   clear hea
   obtain⟨wB,hwB⟩:∃wB,wB=wr.alloc (.cells #[I m.e.op,I m.e.ob,I m.e.va,I m.e.ref.o,I m.e.ref.s,I m.e.ref.i, .slice m.da m.e.dots.length m.dc] 149):=⟨_,rfl⟩
   have HBB:Hid (Below wr.heap.size wr wB):=by rw [hwB];exact(Below.refl _ _).alloc (Nat.le_refl _) _
   have HBX:Hid (Blk wB wr.heap.size #[I m.e.op,I m.e.ob,I m.e.va,I m.e.ref.o,I m.e.ref.s,I m.e.ref.i, .slice m.da m.e.dots.length m.dc] 149):=by rw [hwB];exact heap_alloc_new wr _
   have hxwr:w4.heap.size<wr.heap.size:=HDk.out.box.lt
   have HXW:Hid (Blk wB w4.heap.size (bmC x) 124):=HDk.out.box.kept HBB.out HDk.out.box.lt
   have hszB:wr.heap.size<wB.heap.size:=HBX.out.lt
   by_cases hob:m.e.ob=k
   ·have HST2:Hid (seeTo x.b k o (i+1)=(seeTo x.b k o i).take (zbg x.b i) m.e):=by show _=_;rw [HSTEP.out,if_pos hob]
    clear HSTEP
    have hob1:decide (m.e.ob=(k:Int))=true:=decide_eq_true hob
    have hob2:(m.e.ob==(k:Int))=true:=by rw [beq_iff_eq];exact hob
    clear hob
    go_upto_region 10 with fail
    clear hob1 hob2
    change Code.wp _ _ _ _ (wr.alloc (.cells #[I m.e.op,I m.e.ob,I m.e.va,I m.e.ref.o,I m.e.ref.s,I m.e.ref.i, .slice m.da m.e.dots.length m.dc] 149))
    rw [←hwB]
    clear hwB g0 g1 g2 g3 g4 g5 g6
    have HBD0:Hid (Blk wB.drew w4.heap.size (bmC x) 124):=HXW.out
    have HBE0:Hid (Blk wB.drew wr.heap.size #[I m.e.op,I m.e.ob,I m.e.va,I m.e.ref.o,I m.e.ref.s,I m.e.ref.i, .slice m.da m.e.dots.length m.dc] 149):=HBX.out
    have y0:wB.drew.cell? ⟨w4.heap.size,0,none⟩=some (I x.b.o):=HBD0.out.cell 0
    have y1:wB.drew.cell? ⟨w4.heap.size,1,none⟩=some (I x.b.s):=HBD0.out.cell 1
    have y2:wB.drew.cell? ⟨w4.heap.size,2,none⟩=some (I x.b.t):=HBD0.out.cell 2
    have y3:wB.drew.cell? ⟨w4.heap.size,3,none⟩=some (.slice x.ca x.b.clock.length x.cc):=HBD0.out.cell 3
    have y4:wB.drew.cell? ⟨w4.heap.size,4,none⟩=some (.slice x.ea x.b.effs.length x.ec):=HBD0.out.cell 4
    have q0:wB.drew.cell? ⟨wr.heap.size,0,none⟩=some (I m.e.op):=HBE0.out.cell 0
    have q1:wB.drew.cell? ⟨wr.heap.size,1,none⟩=some (I m.e.ob):=HBE0.out.cell 1
    have q2:wB.drew.cell? ⟨wr.heap.size,2,none⟩=some (I m.e.va):=HBE0.out.cell 2
    have q3:wB.drew.cell? ⟨wr.heap.size,3,none⟩=some (I m.e.ref.o):=HBE0.out.cell 3
    have q4:wB.drew.cell? ⟨wr.heap.size,4,none⟩=some (I m.e.ref.s):=HBE0.out.cell 4
    have q5:wB.drew.cell? ⟨wr.heap.size,5,none⟩=some (I m.e.ref.i):=HBE0.out.cell 5
    have q6:wB.drew.cell? ⟨wr.heap.size,6,none⟩=some (.slice m.da m.e.dots.length m.dc):=HBE0.out.cell 6
    have hna:=ObAt.ahead HDk.out.ob
    go_region_held_law (fun w'=>w'.cell? ⟨w4.heap.size,0,none⟩=some (I x.b.o)∧w'.cell? ⟨w4.heap.size,1,none⟩=some (I x.b.s)∧w'.cell? ⟨w4.heap.size,2,none⟩=some (I x.b.t)∧w'.cell? ⟨w4.heap.size,3,none⟩=some (.slice x.ca x.b.clock.length x.cc)∧w'.cell? ⟨w4.heap.size,4,none⟩=some (.slice x.ea x.b.effs.length x.ec)∧w'.cell? ⟨wr.heap.size,0,none⟩=some (I m.e.op)∧w'.cell? ⟨wr.heap.size,1,none⟩=some (I m.e.ob)∧w'.cell? ⟨wr.heap.size,2,none⟩=some (I m.e.va)∧w'.cell? ⟨wr.heap.size,3,none⟩=some (I m.e.ref.o)∧w'.cell? ⟨wr.heap.size,4,none⟩=some (I m.e.ref.s)∧w'.cell? ⟨wr.heap.size,5,none⟩=some (I m.e.ref.i)∧w'.cell? ⟨wr.heap.size,6,none⟩=some (.slice m.da m.e.dots.length m.dc)) (exact⟨by with_reducible assumption,by with_reducible assumption,by with_reducible assumption,by with_reducible assumption,by with_reducible assumption,by with_reducible assumption,by with_reducible assumption,by with_reducible assumption,by with_reducible assumption,by with_reducible assumption,by with_reducible assumption,by with_reducible assumption⟩)
     (first | (refine zea rfl _ _ _ _ rfl (.iface tw pw) (seeTo x.b k o i) (zbg x.b i) m (newTo own' wr.heap.size 0) d (by simp [Act.eval]) (by simp [Act.eval]) (by simp [Act.eval]) (HDk.out.below HB3.out).ob HSB.out hva1 hva2 (HDT.out.kept HB3.out) hdl ?_;intro w5 hT5;have HT5:Hid (zd6 (newTo own' wr.heap.size 0) d (.iface tw pw) ((seeTo x.b k o i).take (zbg x.b i) m.e) w3 (.returned (.tuple #[])) w5):=hT5;have HK5:Hid (Tch (fun j=>newTo own' wr.heap.size 0 j=d) w3 w5):=(by obtain⟨_,_,_,_,hT⟩:=hT5;exact hT);clear hT5;have HX5:Hid (Blk w5 w4.heap.size (bmC x) 124):=HK5.out.blk HX3.out (by show¬_=_;rw [zac _ _ _ _ hxwr,HDk.out.boxc];omega);have HE5:Hid (Blk w5 wr.heap.size #[I m.e.op,I m.e.ob,I m.e.va,I m.e.ref.o,I m.e.ref.s,I m.e.ref.i, .slice m.da m.e.dots.length m.dc] 149):=HK5.out.blk HE3.out (by show¬_=_;rw [zae _ _ _ _ (Nat.le_refl _)];omega);have w5y0:w5.cell? ⟨w4.heap.size,0,none⟩=some (I x.b.o):=HX5.out.cell 0;have w5y1:w5.cell? ⟨w4.heap.size,1,none⟩=some (I x.b.s):=HX5.out.cell 1;have w5y2:w5.cell? ⟨w4.heap.size,2,none⟩=some (I x.b.t):=HX5.out.cell 2;have w5y3:w5.cell? ⟨w4.heap.size,3,none⟩=some (.slice x.ca x.b.clock.length x.cc):=HX5.out.cell 3;have w5y4:w5.cell? ⟨w4.heap.size,4,none⟩=some (.slice x.ea x.b.effs.length x.ec):=HX5.out.cell 4;have w5q0:w5.cell? ⟨wr.heap.size,0,none⟩=some (I m.e.op):=HE5.out.cell 0;have w5q1:w5.cell? ⟨wr.heap.size,1,none⟩=some (I m.e.ob):=HE5.out.cell 1;have w5q2:w5.cell? ⟨wr.heap.size,2,none⟩=some (I m.e.va):=HE5.out.cell 2;have w5q3:w5.cell? ⟨wr.heap.size,3,none⟩=some (I m.e.ref.o):=HE5.out.cell 3;have w5q4:w5.cell? ⟨wr.heap.size,4,none⟩=some (I m.e.ref.s):=HE5.out.cell 4;have w5q5:w5.cell? ⟨wr.heap.size,5,none⟩=some (I m.e.ref.i):=HE5.out.cell 5;have w5q6:w5.cell? ⟨wr.heap.size,6,none⟩=some (.slice m.da m.e.dots.length m.dc):=HE5.out.cell 6) | (go_at_call 114;refine(zhi x i _).mono ?_;rintro e w3 ⟨rfl,hb3⟩;have HB3:Hid (Below wr.heap.size wr w3):=HBB.out.drew.trans (hb3.mono (Nat.le_of_lt hszB));have HX3:Hid (Blk w3 w4.heap.size (bmC x) 124):=HBD0.out.kept hb3 HBD0.out.lt;have HE3:Hid (Blk w3 wr.heap.size #[I m.e.op,I m.e.ob,I m.e.va,I m.e.ref.o,I m.e.ref.s,I m.e.ref.i, .slice m.da m.e.dots.length m.dc] 149):=HBE0.out.kept hb3 HBE0.out.lt;clear hb3;have w3y0:w3.cell? ⟨w4.heap.size,0,none⟩=some (I x.b.o):=HX3.out.cell 0;have w3y1:w3.cell? ⟨w4.heap.size,1,none⟩=some (I x.b.s):=HX3.out.cell 1;have w3y2:w3.cell? ⟨w4.heap.size,2,none⟩=some (I x.b.t):=HX3.out.cell 2;have w3y3:w3.cell? ⟨w4.heap.size,3,none⟩=some (.slice x.ca x.b.clock.length x.cc):=HX3.out.cell 3;have w3y4:w3.cell? ⟨w4.heap.size,4,none⟩=some (.slice x.ea x.b.effs.length x.ec):=HX3.out.cell 4;have w3q0:w3.cell? ⟨wr.heap.size,0,none⟩=some (I m.e.op):=HE3.out.cell 0;have w3q1:w3.cell? ⟨wr.heap.size,1,none⟩=some (I m.e.ob):=HE3.out.cell 1;have w3q2:w3.cell? ⟨wr.heap.size,2,none⟩=some (I m.e.va):=HE3.out.cell 2;have w3q3:w3.cell? ⟨wr.heap.size,3,none⟩=some (I m.e.ref.o):=HE3.out.cell 3;have w3q4:w3.cell? ⟨wr.heap.size,4,none⟩=some (I m.e.ref.s):=HE3.out.cell 4;have w3q5:w3.cell? ⟨wr.heap.size,5,none⟩=some (I m.e.ref.i):=HE3.out.cell 5;have w3q6:w3.cell? ⟨wr.heap.size,6,none⟩=some (.slice m.da m.e.dots.length m.dc):=HE3.out.cell 6))
    all_goals
     (obtain⟨own5,hD5⟩:=SeAt.took hd HFR.out (HDk.out.below HB3.out) HT5.out
      have HD5:Hid (SeAt w w5 own own5 c d (.iface tw pw) (seeTo x.b k o (i+1)) x w4.heap.size):=by
       show SeAt _ _ _ _ _ _ _ _ _ _
       rw [HST2.out]
       exact hD5
      clear hD5 HT5
      go_wp2_with fail
      go_roundw
      case rel=>exact⟨i+1,own5,hlt,by go_num,HD5⟩
      case measure=>simp [intOf];omega)
   ·have HD5:Hid (SeAt w wB own (newTo own' wr.heap.size 0) c d (.iface tw pw) (seeTo x.b k o (i+1)) x w4.heap.size):=by
     show SeAt _ _ _ _ _ _ _ _ _ _
     rw [HSTEP.out,if_neg hob]
     exact HDk.out.below HBB.out
    clear HSTEP HBX HXW
    rw [hwB] at HD5
    clear hwB HBB
    go_wp2_with fail
    go_roundw
    case rel=>exact⟨i+1,_,hlt,by go_num,HD5⟩
    case measure=>simp [intOf];omega
  ·have hil:i=x.b.effs.length:=by omega
   have HDe:Hid (SeAt w wr own own' c d (.iface tw pw) (seeTo (pendB R) k o R.effs.length) x w4.heap.size):=by
    show SeAt _ _ _ _ _ _ _ _ _ _
    have h1:=HDk.out
    rw [hil,HXL.out,HXB.out] at h1
    exact h1
   have hii:¬(i:Int)<x.b.effs.length:=by omega
   clear HDk hil
   go_wp2_with fail
   exact bodyPost_ret (v:= .tuple #[.iface tw pw,I 0]) (by simp [results,Tryz.results66,go_sem]) rfl ⟨_,d,own',rfl,HDe.out.ext,HDe.out.ob,HDe.out.bel⟩
theorem zwu (v : Value) (w : World) : (method 492 180 v "Values").run Tryz.prog w = .ok (245, v) w := by kernel_rfl
theorem zwt (v : Value) (w : World) : (method 492 190 v "Values").run Tryz.prog w = .ok (311, v) w := by kernel_rfl
def Ob.plain:Ob->Prop
 | .counter _=>True
 | .list _=>True
 | _=>False
def ReadNo(w:World)(e:Ending)(w':World):Prop:=e= .returned (.tuple #[.slice none 0 0,I 8])∧Below w.heap.size w w'
def zma(w:World)(l:List Int)(e:Ending)(w':World):Prop:=∃v,e= .returned (.tuple #[v,I 0])∧w'.ownsRow w.heap.size 3 1 v l.length (l.map I)∧Below w.heap.size w w'
theorem zyr(own:Clr)(c p:Nat)(R:Rp)(cg cc hp:Nat)(mv hv ev:Value)(hs:List Bm)(es:List Em)(k:Int)(w:World)(h:RpIn w own c p R cg cc hp mv hv ev hs es)(hobs:R.obs.length=8)(hk:¬(0<=k∧k<8)):
  Calls Tryz.prog 56 #[.pointer (some ⟨p,0,none⟩),I k] w fun e w'=>ReadNo w e w':=by
 go_enter Tryz.func56,Tryz.ntmps56
 go_wp2_with fail
 refine(zvp own c p R cg cc hp mv hv ev hs es k w h hobs hk).mono ?_
 rintro e w1 ⟨rfl,hb⟩
 have HB:Hid (Below w.heap.size w w1):=hb
 clear hb h hk hobs
 go_wp2_with fail
 exact bodyPost_ret (v:= .tuple #[.slice none 0 0,I 8]) (by simp [results,Tryz.results56,go_sem]) rfl ⟨rfl,HB.out⟩
abbrev efC (m:Em):Array Value:= #[I m.e.op,I m.e.ob,I m.e.va,I m.e.ref.o,I m.e.ref.s,I m.e.ref.i, .slice m.da m.e.dots.length m.dc]
abbrev ruC (a0 a1 a2 a3 a4 a5:Int):Array Value:= #[I a0,I a1,I a2,I a3,I a4,I a5]
theorem zu7(p:Nat)(m:Em)(a0 a1 a2 a3 a4 a5:Int)(w:World)(hd:(m.e.dots.length:Int)<a4):
  Calls Tryz.prog 68 #[.pointer (some ⟨p,0,none⟩),effV m, .agg (ruC a0 a1 a2 a3 a4 a5)] w fun e w'=>e= .returned (I 0)∧Below w.heap.size w w':=by
 have HB:Hid (Below w.heap.size w ((w.alloc (.cells (efC m) 149)).alloc (.cells (ruC a0 a1 a2 a3 a4 a5) 140))):=((Below.refl _ _).alloc (Nat.le_refl _) _).alloc (by simp) _
 go_enter Tryz.func68,Tryz.ntmps68
 go_wp2
 go_ret
 exact⟨rfl,HB.out⟩
theorem zzo(own:Clr)(c p:Nat)(R:Rp)(cg cc hp:Nat)(mv hv ev:Value)(hs:List Bm)(es:List Em)(m:Em)(a0 a1 a2 a3 a4 a5:Int)(w:World)(h:RpIn w own c p R cg cc hp mv hv ev hs es)(hd:¬(m.e.dots.length:Int)<a4)(hd5:(m.e.dots.length:Int)>a5∨es.length=5):
  Calls Tryz.prog 68 #[.pointer (some ⟨p,0,none⟩),effV m, .agg (ruC a0 a1 a2 a3 a4 a5)] w fun e w'=>e= .returned (I 12)∧Below w.heap.size w w':=by
 have HB:Hid (Below w.heap.size w ((w.alloc (.cells (efC m) 149)).alloc (.cells (ruC a0 a1 a2 a3 a4 a5) 140))):=((Below.refl _ _).alloc (Nat.le_refl _) _).alloc (by simp) _
 obtain⟨ea,en,ec,rfl⟩:=zcp h.effs.row
 obtain rfl:en=es.length:=by
  rcases h.effs.row.2 with⟨e,hz⟩ | ⟨g,cap,cur,e,_⟩
  ·cases e;exact hz.symm
  ·cases e;rfl
 have c8:((w.alloc (.cells (efC m) 149)).alloc (.cells (ruC a0 a1 a2 a3 a4 a5) 140)).cell? ⟨p,8,none⟩=some (.slice ea es.length ec):=zaa HB.out (h.blk.cell 8)
 clear h
 go_enter Tryz.func68,Tryz.ntmps68
 by_cases h5:(m.e.dots.length:Int)>a5
 ·clear hd5
  go_wp2
  go_ret
  exact⟨rfl,HB.out⟩
 ·have h6:es.length=5:=by rcases hd5 with h | h;exact absurd h h5;exact h
  clear hd5
  have h7:(es.length:Int)=5:=by omega
  clear h6
  go_wp2
  go_ret
  exact⟨rfl,HB.out⟩
theorem zyz:(Tryz.prog.info? 149).map (fun i=>(i.zero,i.size,i.bytes))=some (some (.agg #[.int .i64 0, .int .i64 0, .int .i64 0, .int .i64 0, .int .i64 0, .int .i64 0, .slice none 0 0]),7,72):=by kernel_rfl
theorem zqn(l:List Em)(x:Em):flat Em.cells (l++ [x])=flat Em.cells l++x.cells:=by
 rw [za1]
 show _++(x.cells++ [])=_
 rw [List.append_nil]
theorem RpIn.added{w w':World}{own:Clr}{c p:Nat}{R:Rp}{cg cc hp:Nat}{mv hv ev ev':Value}{hs:List Bm}{es:List Em}{m:Em}(hc0:0<c)(h:RpIn w own c p R cg cc hp mv hv ev hs es)(hT:Tch (fun k=>k=p∨ev.ownBlock=some k) w w')
  (hb:Blk w' p #[I R.n,I R.st, .slice (some ⟨cg,0,none⟩) R.clock.length cc,I R.time,mv, .string ⟨R.log.toArray⟩,I R.synced, .pointer (some ⟨hp,0,none⟩),ev'] 130)
  (hrow:w'.ownsRow 0 149 7 ev' (es++ [m]).length (flat Em.cells (es++ [m]))) (hg:∀g,ev'.ownBlock=some g->ev.ownBlock=some g∨w.heap.size<=g) (hd:At0 w own m.da (flat zab m.e.dots)):
  RpIn w' (newTo own w.heap.size (c+10)) c p {R with effs:=R.effs++ [m.e]} cg cc hp mv hv ev' hs (es++ [m]):=by
 have hE:=zaf own w.heap.size (c+10)
 have hS:∀d,d ≠ c->d ≠ c+10->Same own d w w':=fun d h1 h2 b hl ho=>hT.block b hl (by
  rintro(e | e)
  ·exact h1 (by rw [←ho,e,h.own1])
  ·exact h2 (by rw [←ho,h.effs.own2 b e]))
 have hne:∀b,own b=c->b ≠ p->¬(b=p∨ev.ownBlock=some b):=fun b ho hp=>by
  rintro(e | e)
  ·exact hp e
  ·have:=h.effs.own2 b e;omega
 have hcg:cg ≠ p:=by
  rintro rfl
  have:=h.blk.symm.trans h.clk
  simp at this
 refine⟨hb,(hT.block cg h.clk.lt (hne cg h.own2 hcg)).trans h.clk,(hE p h.blk.lt).trans h.own1,(hE cg h.clk.lt).trans h.own2, ?_,h.held.keep (hS 0 (by omega) (by omega)) (hS _ (by omega) (by omega)) hE,h.heldB,⟨hrow,fun g e=> ?_,fun x hx=> ?_⟩, ?_⟩
 ·rcases h.obs with h1 | ⟨mb,vs,e,ho,hm,l1,l2,hk⟩
  ·exact Or.inl h1
  ·refine Or.inr ⟨mb,vs,e,(hE mb hm.lt).trans ho,hm.same (hT.block mb hm.lt (hne mb ho ?_)),l1,l2,fun k a b=>(hk k a b).keep (hS _ (by omega) (by have h8:k<8:=(by omega);omega)) hE⟩
   rintro rfl
   obtain⟨xs,cl,hx,_⟩:=hm
   cases h.blk.symm.trans hx
 ·rcases hg g e with h1 | h1
  ·exact(hE g (h.effs.row.lt g h1).2).trans (h.effs.own2 g h1)
  ·exact zae _ _ _ _ h1
 ·rcases List.mem_append.1 hx with hx | hx
  ·exact(h.effs.dots x hx).keep (hS 0 (by omega) (by omega)) hE
  ·rw [List.mem_singleton] at hx
   subst hx
   exact hd.keep (hS 0 (by omega) (by omega)) hE
 ·show R.effs++ [m.e]=_
  rw [h.effsE,List.map_append]
  rfl
def AddOk(w:World)(own:Clr)(c p:Nat)(R:Rp)(cg cc hp:Nat)(mv hv:Value)(hs:List Bm)(es:List Em)(w':World):Prop:=∃own' ev',Ext own own' w.heap.size∧RpIn w' own' c p R cg cc hp mv hv ev' hs es∧Tch (fun k=>own k=c∨own k=c+10) w w'
theorem zzn(own:Clr)(c p:Nat)(R:Rp)(cg cc hp:Nat)(mv hv ev:Value)(hs:List Bm)(es:List Em)(m:Em)(a0 a1 a2 a3 a4 a5:Int)(w:World)(hc0:0<c)(h:RpIn w own c p R cg cc hp mv hv ev hs es)(hd:¬(m.e.dots.length:Int)<a4)(h5:¬(m.e.dots.length:Int)>a5)(hn:es.length<5)(hdt:At0 w own m.da (flat zab m.e.dots)):
  Calls Tryz.prog 68 #[.pointer (some ⟨p,0,none⟩),effV m, .agg (ruC a0 a1 a2 a3 a4 a5)] w fun e w'=>e= .returned (I 0)∧AddOk w own c p {R with effs:=R.effs++ [m.e]} cg cc hp mv hv hs (es++ [m]) w':=by
 obtain⟨wA,hwA⟩:∃wA,wA=(w.alloc (.cells (efC m) 149)).alloc (.cells (ruC a0 a1 a2 a3 a4 a5) 140):=⟨_,rfl⟩
 have HBA:Hid (Below w.heap.size w wA):=by rw [hwA];exact((Below.refl _ _).alloc (Nat.le_refl _) _).alloc (by simp) _
 have HX:Hid (Blk wA w.heap.size (efC m) 149):=by rw [hwA];exact Blk.alloc (heap_alloc_new w _) _
 have HR:Hid (RpIn wA own c p R cg cc hp mv hv ev hs es):=h.keep (fun b hb _=>HBA.out.block b hb) (fun d _ _ b hb _=>HBA.out.block b hb) (Ext.refl _ _)
 have HRW:Hid (RpIn w own c p R cg cc hp mv hv ev hs es):=h
 have HDT:Hid (At0 w own m.da (flat zab m.e.dots)):=hdt
 obtain⟨ea,en,ec,rfl⟩:=zcp h.effs.row
 obtain rfl:en=es.length:=by
  rcases h.effs.row.2 with⟨e,hz⟩ | ⟨g,cap,cur,e,_⟩
  ·cases e;exact hz.symm
  ·cases e;rfl
 have hpw:p<w.heap.size:=h.blk.lt
 have HNE:Hid (¬(Value.slice ea es.length ec).ownBlock=some p):=fun e=>by have h1:=h.effs.own2 p e;have h2:=h.own1;omega
 obtain⟨i2,HI2⟩:∃i2,Hid (Tryz.prog.info? 149=some i2∧i2.zero=some (.agg #[.int .i64 0, .int .i64 0, .int .i64 0, .int .i64 0, .int .i64 0, .int .i64 0, .slice none 0 0])∧i2.size=7∧i2.bytes=72):=by obtain⟨i2,h⟩:=info_parts zyz;exact⟨i2,h⟩
 have hone:∀u∈m.cells,u.oneCell'=true:=by
  intro u hu
  simp only [Em.cells,Em.dv,List.mem_cons,List.mem_nil_iff,or_false] at hu
  rcases hu with rfl | rfl | rfl | rfl | rfl | rfl | rfl<;>rfl
 have hn5:¬(es.length:Int)=5:=by omega
 have c8:((w.alloc (.cells (efC m) 149)).alloc (.cells (ruC a0 a1 a2 a3 a4 a5) 140)).cell? ⟨p,8,none⟩=some (.slice ea es.length ec):=by rw [←hwA];exact HR.out.blk.cell 8
 clear h hdt
 go_enter Tryz.func68,Tryz.ntmps68
 go_wp2_with fail
 change Code.wp _ _ _ _ ((w.alloc (.cells (efC m) 149)).alloc (.cells (ruC a0 a1 a2 a3 a4 a5) 140))
 rw [←hwA]
 clear hwA c8
 have c8:wA.cell? ⟨p,8,none⟩=some (.slice ea es.length ec):=HR.out.blk.cell 8
 have x0:wA.cell? ⟨w.heap.size,0,none⟩=some (I m.e.op):=HX.out.cell 0
 have x1:wA.cell? ⟨w.heap.size,1,none⟩=some (I m.e.ob):=HX.out.cell 1
 have x2:wA.cell? ⟨w.heap.size,2,none⟩=some (I m.e.va):=HX.out.cell 2
 have x3:wA.cell? ⟨w.heap.size,3,none⟩=some (I m.e.ref.o):=HX.out.cell 3
 have x4:wA.cell? ⟨w.heap.size,4,none⟩=some (I m.e.ref.s):=HX.out.cell 4
 have x5:wA.cell? ⟨w.heap.size,5,none⟩=some (I m.e.ref.i):=HX.out.cell 5
 have x6:wA.cell? ⟨w.heap.size,6,none⟩=some (.slice m.da m.e.dots.length m.dc):=HX.out.cell 6
 have cA2:(wA.alloc (.cells (efC m) 149)).cell? ⟨p,8,none⟩=some (.slice ea es.length ec):=(HR.out.blk.alloc _).cell 8
 have hsA:w.heap.size<wA.heap.size:=HX.out.lt
 have HRO:Hid (wA.ownsRow 0 149 7 (.slice ea es.length ec) es.length (flat Em.cells es)):=HR.out.effs.row
 go_region_law ((refine step_append_lies _ (by rfl) _ _ _ (by rfl) 0 149 i2 (.agg #[.int .i64 0, .int .i64 0, .int .i64 0, .int .i64 0, .int .i64 0, .int .i64 0, .slice none 0 0]) 7 72 Tryz.underlying109 HI2.out.1 HI2.out.2.1 HI2.out.2.2.1 HI2.out.2.2.2 (by rfl) (by omega) (.slice ea es.length ec) es.length (flat Em.cells es) (by rfl) (by first | exact HRO.out.alloc _ | exact(HRO.out.alloc _).drew | exact(HRO.out.drew).alloc _) ⟨wA.heap.size,0,none⟩ 1 1 m.cells (by rfl) (by rfl) (by first | exact zas wA _ _ | exact zb2 wA _ _) hone (by omega) (by unfold maxLen;omega) (by omega) (by omega) (wA.heap.size+1) (by simp) ?_;intro g7 cap7 w7 hown7 hgrow7 hat7 hlt7;have HT7:Hid (Tch (fun k=>(Value.slice ea es.length ec).ownBlock=some k) wA w7):=(by first | exact((Tch.refl _ wA).drew.alloc _).then (Tch.grown hgrow7) | exact((Tch.refl _ wA).alloc _).then (Tch.grown hgrow7));have HO7:Hid (w7.ownsRow 0 149 7 (.slice (some ⟨g7,0,none⟩) (es.length+1) cap7) (es.length+1) (flat Em.cells es++m.cells)):=hown7;have HA7:Hid ((Value.slice ea es.length ec).ownBlock=some g7∨g7=wA.heap.size+1):=hat7;have HK7:Hid (Blk w7 p #[I R.n,I R.st, .slice (some ⟨cg,0,none⟩) R.clock.length cc,I R.time,mv, .string ⟨R.log.toArray⟩,I R.synced, .pointer (some ⟨hp,0,none⟩), .slice ea es.length ec] 130):=HT7.out.blk HR.out.blk HNE.out;have c7:w7.cell? ⟨p,8,none⟩=some (.slice ea es.length ec):=HK7.out.cell 8;have z7:w7.frozen? ⟨p,8,none⟩=false:=HK7.out.frozen 8;clear hown7 hgrow7 hat7 hlt7))
 all_goals
  (go_wp2_with fail
   have hpg:p ≠ g7:=by
    rcases HA7.out with e | e
    ·intro e2;rw [←e2] at e;exact HNE.out e
    ·omega
   have hlen:(es++ [m]).length=es.length+1:=by simp
   have hG8:(Value.slice ea es.length ec).ownBlock=some g7∨w.heap.size<=g7:=by
    rcases HA7.out with e | e
    ·exact Or.inl e
    ·exact Or.inr (by omega)
   have HT8:Hid (Tch (fun k=>k=p∨(Value.slice ea es.length ec).ownBlock=some k) w (w7.setCell ⟨p,8,none⟩ (.slice (some ⟨g7,0,none⟩) (es.length+1) cap7))):=Tch.setCell ((Tch.below HBA.out).trans HT7.out (fun _ _ h=>h) (fun _ _ h=>Or.inr h)) _ _ (Or.inl (Or.inl rfl))
   have HR8:=RpIn.added (m:=m) (ev':= .slice (some ⟨g7,0,none⟩) (es.length+1) cap7) hc0 HRW.out HT8.out (HK7.out.set 8 _) (by rw [hlen,zqn];exact zah HO7.out (fun b e=>heap_setCell_other _ ⟨p,8,none⟩ b _ (by cases e;exact hpg.symm))) (fun g e=>by cases e;exact hG8) HDT.out
   have HE:Hid (AddOk w own c p {R with effs:=R.effs++ [m.e]} cg cc hp mv hv hs (es++ [m]) (w7.setCell ⟨p,8,none⟩ (.slice (some ⟨g7,0,none⟩) (es.length+1) cap7))):=⟨_,_,zaf _ _ _,HR8,HT8.out.mono (fun k _ h=>by
    rcases h with rfl | h
    ·exact Or.inl HRW.out.own1
    ·exact Or.inr (HRW.out.effs.own2 k h))⟩
   clear HR8 HT8
   go_ret
   exact⟨rfl,HE.out⟩)
theorem zof(own:Clr)(c p:Nat)(R:Rp)(cg cc hp:Nat)(mv hv ev:Value)(hs:List Bm)(es:List Em)(w:World)(h:RpIn w own c p R cg cc hp mv hv ev hs es)(h1:R.st ≠ 1):
  Calls Tryz.prog 46 #[.pointer (some ⟨p,0,none⟩)] w fun e w'=>e= .returned (.tuple #[I 0, .string ⟨#[]⟩,I 7])∧w'=w:=by
 have c1:w.cell? ⟨p,1,none⟩=some (I R.st):=h.blk.cell 1
 have hb:(R.st==1)=false:=by simp [h1]
 clear h h1
 go_enter Tryz.func46,Tryz.ntmps46
 go_wp2_with fail
 exact bodyPost_ret (v:= .tuple #[I 0, .string ⟨#[]⟩,I 7]) (by simp [results,Tryz.results46,go_sem]) rfl ⟨rfl,rfl⟩
def CmOk(w:World)(own:Clr)(c p:Nat)(R:Rp)(cg cc hp:Nat)(mv:Value)(hs:List Bm)(w':World):Prop:=∃own' hv',Ext own own' w.heap.size∧RpIn w' own' c p R cg cc hp mv hv' (.slice none 0 0) hs []∧TchR own c w w'
structure CmAt(w wr:World)(own own':Clr)(c p:Nat)(R:Rp)(cg cc hp:Nat)(mv hv:Value)(hs:List Bm)(x:Bm)(bx:Nat):Prop where
 rp:RpIn wr own' c p R cg cc hp mv hv (.slice none 0 0) hs []
 bat:BatK (fun d=>d=0∨d=c+10) wr own' x
 box:Blk wr bx (bmC x) 124
 boxc:own' bx=0
 ext:Ext own own' w.heap.size
 tch:TchR own c w wr
theorem CmAt.below{w wr w2:World}{own own':Clr}{c p:Nat}{R:Rp}{cg cc hp:Nat}{mv hv:Value}{hs:List Bm}{x:Bm}{bx:Nat}(h:CmAt w wr own own' c p R cg cc hp mv hv hs x bx)(hb:Below wr.heap.size wr w2):CmAt w w2 own (newTo own' wr.heap.size 0) c p R cg cc hp mv hv hs x bx:=
 ⟨h.rp.keep (fun b hl _=>hb.block b hl) (fun _ _ _ b hl _=>hb.block b hl) (zaf _ _ _),h.bat.keep (fun _ _ b hl _=>hb.block b hl) (zaf _ _ _),h.box.kept hb h.box.lt,(zac _ _ _ _ h.box.lt).trans h.boxc,h.ext.trans (zaf _ _ _) h.tch.size,h.tch.then (Tch.below hb)⟩
theorem zoh{w w1 w2 w3:World}{own:Clr}{c p:Nat}{R:Rp}{cg cc hp:Nat}{mv hv:Value}{hs:List Bm}{x:Bm}(hc0:0<c)(hp0:own p=c)(hpw:p<w.heap.size)(hB:Below w.heap.size w w1)(hK:BatK (fun d=>d=0∨d=c+10) w1 (newTo own w.heap.size 0) x)(h2:w2=w1.alloc (.cells (bmC x) 124))(hS:zds w2 (newTo own w.heap.size 0) c p R cg cc hp mv hv (.slice none 0 0) hs [] w3):CmAt w w3 own (newTo own w.heap.size 0) c p R cg cc hp mv hv hs x w1.heap.size:=by
 obtain⟨hR,hT⟩:=hS
 have hBA:Below w1.heap.size w1 w2:=by rw [h2];exact(Below.refl _ _).alloc (Nat.le_refl _) _
 have hX:Blk w2 w1.heap.size (bmC x) 124:=by rw [h2];exact heap_alloc_new w1 _
 have hpc:newTo own w.heap.size 0 p=c:=(zac _ _ _ _ hpw).trans hp0
 have hs1:=hB.size
 refine⟨hR,(hK.keep (fun _ _ b hl _=>hBA.block b hl) (Ext.refl _ _)).keep (fun d hd b hl ho=>hT.block b hl (fun e=> ?_)) (Ext.refl _ _),hT.blk hX (fun e=>by have e2:w1.heap.size=p:=e;omega),zae _ _ _ _ hs1,zaf _ _ _, ?_⟩
 ·rw [e,hpc] at ho
  rcases hd with hd | hd<;>omega
 ·exact(Tch.below (hB.trans (hBA.mono hs1))).trans hT (fun _ _ h=>h) (fun k _ h=>by
   have e:k=p:=h
   subst e
   exact⟨by omega,by omega⟩)
theorem zoe(own:Clr)(c p:Nat)(R:Rp)(cg cc hp:Nat)(mv hv ev:Value)(hs:List Bm)(es:List Em)(w:World)(hc0:0<c)(h:RpIn w own c p R cg cc hp mv hv ev hs es)(h1:R.st=1)(he:R.effs= [])
  (hl:R.clock.length<=1000) (hn0:0<=R.n) (hn1:R.n<R.clock.length) (hs0:∀z∈R.clock,0<=z∧z<=1000000) (ht0:0<=R.time) (ht1:R.time<=1000000000):
  Calls Tryz.prog 46 #[.pointer (some ⟨p,0,none⟩)] w fun e w'=>e= .returned (.tuple #[I 0, .string ⟨#[]⟩,I 0])∧CmOk w own c p (endR R) cg cc hp mv hs w':=by
 have HRW:Hid (RpIn w own c p R cg cc hp mv hv ev hs es):=h
 have c1:w.cell? ⟨p,1,none⟩=some (I R.st):=h.blk.cell 1
 have hb:(R.st==1)=true:=by simp [h1]
 have HEE:Hid (R.effs= []):=he
 have HS0:Hid (∀z∈R.clock,0<=z∧z<=1000000):=hs0
 clear h h1 he hs0
 go_enter Tryz.func46,Tryz.ntmps46
 go_wp2_with fail
 refine(zfd own c p R cg cc hp mv hv ev hs es w HRW.out hl hn0 hn1 HS0.out ht0 ht1).mono ?_
 rintro e w1 ⟨x,rfl,hxb,hxm,hB1,hK1⟩
 have HXL:Hid (x.b.effs.length=0):=by show _=_;rw [hxb];show R.effs.length=0;rw [HEE.out];rfl
 have HB1:Hid (Below w.heap.size w w1):=hB1
 have HK1:Hid (BatK (fun d=>d=0∨d=c+10) w1 (newTo own w.heap.size 0) x):=hK1
 clear hxb hxm hB1 hK1 c1 hb hl hn0 hn1 ht0 ht1
 obtain⟨w2,hw2⟩:∃w2,w2=w1.alloc (.cells (bmC x) 124):=⟨_,rfl⟩
 have HB2:Hid (Below w.heap.size w w2):=by rw [hw2];exact HB1.out.alloc HB1.out.size _
 go_wp2_with fail
 change Calls _ _ _ (w1.alloc (.cells (bmC x) 124)) _
 rw [←hw2]
 refine(zik (newTo own w.heap.size 0) c p R cg cc hp mv hv ev hs es w2 hc0 (HRW.out.keep (fun b hb _=>HB2.out.block b hb) (fun _ _ _ b hb _=>HB2.out.block b hb) (zaf _ _ _))).mono ?_
 rintro e w3 ⟨rfl,hS3⟩
 have HD:Hid (CmAt w w3 own (newTo own w.heap.size 0) c p (endR R) cg cc hp mv hv hs x w1.heap.size):=zoh hc0 HRW.out.own1 HRW.out.blk.lt HB1.out HK1.out hw2 hS3
 clear hS3 hw2 HB2 HB1 HK1
 have y4:w3.cell? ⟨w1.heap.size,4,none⟩=some (.slice x.ea x.b.effs.length x.ec):=HD.out.box.cell 4
 have hzi:(x.b.effs.length:Int)=0:=by rw [HXL.out];rfl
 go_wp2_with fail
 exact bodyPost_ret (v:= .tuple #[I 0, .string ⟨#[]⟩,I 0]) (by simp [results,Tryz.results46,go_sem]) rfl ⟨rfl,_,_,HD.out.ext,HD.out.rp,HD.out.tch⟩
structure Env(w0 w:World)(own:Clr)(eb ef:Addr):Prop where
 gl:Gl w0 eb ef
 pw:Pw w0
 bel:Below w0.heap.size w0 w
 own0:∀b,b<w0.heap.size->own b=0
theorem Env.tch{F:Nat->Prop}{w0 w w':World}{own own':Clr}{eb ef:Addr}(h:Env w0 w own eb ef)(hT:Tch F w w')(hF:∀k,own k=0->¬F k)(hE:Ext own own' w.heap.size):Env w0 w' own' eb ef:=
 ⟨h.gl,h.pw,h.bel.trans (hT.toBelow h.bel.size (fun k hk=>hF k (h.own0 k hk))),fun b hb=>(hE b (Nat.lt_of_lt_of_le hb h.bel.size)).trans (h.own0 b hb)⟩
def zgn(R:Rp)(hs:List Wv.Bt):Rp:=syncR (zch (endR R) (pendB R) (Wv.frameB (pendB R)) hs)
theorem cm_end{w w4 w5 w6:World}{own own' own5:Clr}{c p:Nat}{R R3:Rp}{cg cc hp:Nat}{mv hv hv5:Value}{hs hs2:List Bm}{x:Bm}{bx:Nat}(hc0:0<c)(h:CmAt w w4 own own' c p R cg cc hp mv hv hs x bx)(hE:Ext own' own5 w4.heap.size)(hT:TchR own' c w4 w5)
  (hS:zds w5 own5 c p R3 cg cc hp mv hv5 (.slice none 0 0) hs2 [] w6):CmOk w own c p R3 cg cc hp mv hs2 w6∧Blk w6 bx (bmC x) 124:=by
 obtain⟨hR6,hT6⟩:=hS
 have hne:bx ≠ p:=fun e=>by
  have h1:=h.boxc
  have h2:=h.rp.own1
  rw [e] at h1
  omega
 have hX5:Blk w5 bx (bmC x) 124:=hT.blk h.box (by rintro⟨h1,_⟩;rw [h.boxc] at h1;omega)
 refine⟨⟨own5,hv5,h.ext.trans hE h.tch.size,hR6, ?_⟩,hT6.blk hX5 hne⟩
 have h5:TchR own c w w5:=h.tch.trans hT (fun _ _ h=>h) (fun k hk hk2=>by rw [h.ext k hk] at hk2;exact hk2)
 refine h5.trans hT6 (fun _ _ h=>h) (fun k hk e=> ?_)
 have e2:k=p:=e
 subst e2
 have h1:=(h.ext _ hk).symm.trans h.rp.own1
 exact⟨by omega,by omega⟩
theorem zod(own:Clr)(c p:Nat)(R:Rp)(cg cc hp:Nat)(mv hv ev:Value)(hs:List Bm)(es:List Em)(w w0:World)(eb ef:Addr)(hI:zay)(hen:Env w0 w own eb ef)(hc0:0<c)(h:RpIn w own c p R cg cc hp mv hv ev hs es)(h1:R.st=1)(he:R.effs ≠ [])
  (hl:R.clock.length<=1000) (hn0:0<=R.n) (hn1:R.n<R.clock.length) (hs0:∀z∈R.clock,0<=z∧z<=1000000) (ht0:0<=R.time) (ht1:R.time<=1000000000) (hisb:Wv.isB (pendB R)=true)
  (hhs:hs.length<=1000) (hlog:R.log.length+(Wv.frameB (pendB R)).length<=100000000) (hobs:R.obs.length=8) (N:Nat) (hN:N+R.effs.length<=100000) (hbd:∀o∈R.obs,o.bound N) (hval:∀e∈R.effs,0<=e.ob∧e.ob<8∧ -1000<=e.va∧e.va<=1000∧e.dots.length<=1048576):
  Calls Tryz.prog 46 #[.pointer (some ⟨p,0,none⟩)] w fun e w'=>e= .returned (.tuple #[I (pendB R).s, .string ⟨(Wv.frameB (pendB R)).toArray⟩,I 0])∧CmOk w own c p (zgn R ((takeP lessM (fun m=>likeB (pendB R) m.b) hs).2.map (·.b))) cg cc hp mv (takeP lessM (fun m=>likeB (pendB R) m.b) hs).2 w':=by
 have HRW:Hid (RpIn w own c p R cg cc hp mv hv ev hs es):=h
 have HEN:Hid (Env w0 w own eb ef):=hen
 have c1:w.cell? ⟨p,1,none⟩=some (I R.st):=h.blk.cell 1
 have hb:(R.st==1)=true:=by simp [h1]
 have HEE:Hid (0<R.effs.length):=List.length_pos_iff.2 he
 have HS0:Hid (∀z∈R.clock,0<=z∧z<=1000000):=hs0
 have HVL:Hid (∀e∈R.effs,0<=e.ob∧e.ob<8∧ -1000<=e.va∧e.va<=1000∧e.dots.length<=1048576):=hval
 have HBD:Hid (∀o∈R.obs,o.bound N):=hbd
 have HLG:Hid (R.log.length+(Wv.frameB (pendB R)).length<=100000000):=hlog
 have HIB:Hid (Wv.isB (pendB R)=true):=hisb
 have HOB:Hid (R.obs.length=8):=hobs
 clear h h1 he hs0 hen hval hbd hlog hisb hobs
 go_enter Tryz.func46,Tryz.ntmps46
 go_wp2_with fail
 refine(zfd own c p R cg cc hp mv hv ev hs es w HRW.out hl hn0 hn1 HS0.out ht0 ht1).mono ?_
 rintro e w1 ⟨x,rfl,hxb,hxm,hB1,hK1⟩
 have HXB:Hid (pendB R=x.b):=hxb.symm
 have HXE:Hid (x.b.effs=R.effs):=by show _=_;rw [hxb];rfl
 have HXO:Hid (x.b.o=R.n):=by show _=_;rw [hxb];rfl
 have HB1:Hid (Below w.heap.size w w1):=hB1
 have HK1:Hid (BatK (fun d=>d=0∨d=c+10) w1 (newTo own w.heap.size 0) x):=hK1
 clear hxb hxm hB1 hK1 c1 hb hl ht0 ht1
 obtain⟨w2,hw2⟩:∃w2,w2=w1.alloc (.cells (bmC x) 124):=⟨_,rfl⟩
 have HB2:Hid (Below w.heap.size w w2):=by rw [hw2];exact HB1.out.alloc HB1.out.size _
 go_wp2_with fail
 change Calls _ _ _ (w1.alloc (.cells (bmC x) 124)) _
 rw [←hw2]
 refine(zik (newTo own w.heap.size 0) c p R cg cc hp mv hv ev hs es w2 hc0 (HRW.out.keep (fun b hb _=>HB2.out.block b hb) (fun _ _ _ b hb _=>HB2.out.block b hb) (zaf _ _ _))).mono ?_
 rintro e w3 ⟨rfl,hS3⟩
 have HD:Hid (CmAt w w3 own (newTo own w.heap.size 0) c p (endR R) cg cc hp mv hv hs x w1.heap.size):=zoh hc0 HRW.out.own1 HRW.out.blk.lt HB1.out HK1.out hw2 hS3
 clear hS3 hw2 HB2 HB1 HK1
 have y0:w3.cell? ⟨w1.heap.size,0,none⟩=some (I x.b.o):=HD.out.box.cell 0
 have y1:w3.cell? ⟨w1.heap.size,1,none⟩=some (I x.b.s):=HD.out.box.cell 1
 have y2:w3.cell? ⟨w1.heap.size,2,none⟩=some (I x.b.t):=HD.out.box.cell 2
 have y3:w3.cell? ⟨w1.heap.size,3,none⟩=some (.slice x.ca x.b.clock.length x.cc):=HD.out.box.cell 3
 have y4:w3.cell? ⟨w1.heap.size,4,none⟩=some (.slice x.ea x.b.effs.length x.ec):=HD.out.box.cell 4
 have hzi:¬(x.b.effs.length:Int)=0:=by have:=HEE.out;rw [HXE.out];omega
 have HEN3:Hid (Env w0 w3 (newTo own w.heap.size 0) eb ef):=HEN.out.tch HD.out.tch (fun k hk h=>by omega) HD.out.ext
 go_wp2_with fail
 refine(znu x w3 eb ef hI (HEN3.out.gl.kept HEN3.out.bel) (HEN3.out.pw.kept HEN3.out.bel) HD.out.bat.at (by rw [←HXB.out];exact HIB.out)).mono ?_
 rintro e w4 ⟨rfl,hB4⟩
 have HD4:Hid (CmAt w w4 own (newTo (newTo own w.heap.size 0) w3.heap.size 0) c p (endR R) cg cc hp mv hv hs x w1.heap.size):=HD.out.below hB4
 clear hB4 HD HEN3 HEN y0 y1 y2 y3 y4
 have y0:w4.cell? ⟨w1.heap.size,0,none⟩=some (I x.b.o):=HD4.out.box.cell 0
 have y1:w4.cell? ⟨w1.heap.size,1,none⟩=some (I x.b.s):=HD4.out.box.cell 1
 have y2:w4.cell? ⟨w1.heap.size,2,none⟩=some (I x.b.t):=HD4.out.box.cell 2
 have y3:w4.cell? ⟨w1.heap.size,3,none⟩=some (.slice x.ca x.b.clock.length x.cc):=HD4.out.box.cell 3
 have y4:w4.cell? ⟨w1.heap.size,4,none⟩=some (.slice x.ea x.b.effs.length x.ec):=HD4.out.box.cell 4
 go_wp2_with fail
 refine(zn9 (newTo (newTo own w.heap.size 0) w3.heap.size 0) c p (endR R) cg cc hp mv hv (.slice none 0 0) hs [] x (Wv.frameB x.b) w4 hc0 HD4.out.rp HD4.out.bat hhs (by rw [←HXB.out];exact HLG.out) (by rw [HXO.out];exact hn0) (by rw [HXO.out];exact hn1) HOB.out N (by rw [HXE.out];exact hN) HBD.out (by rw [HXE.out];exact HVL.out)).mono ?_
 rintro e w5 ⟨rfl,hD5⟩
 obtain⟨own5,hv5,hE5,hR5,hT5⟩:=hD5
 have HE5:Hid (Ext (newTo (newTo own w.heap.size 0) w3.heap.size 0) own5 w4.heap.size):=hE5
 have HT5:Hid (TchR (newTo (newTo own w.heap.size 0) w3.heap.size 0) c w4 w5):=hT5
 have HC5:Hid (Calls Tryz.prog 73 #[.pointer (some ⟨p,5,none⟩)] w5 fun e w'=>e= .returned (.tuple #[])∧zds w5 own5 c p (syncR (zch (endR R) x.b (Wv.frameB x.b) ((takeP lessM (fun m=>likeB x.b m.b) hs).2.map (·.b)))) cg cc hp mv hv5 (.slice none 0 0) (takeP lessM (fun m=>likeB x.b m.b) hs).2 [] w'):=ztt own5 c p _ cg cc hp mv hv5 _ _ _ w5 hc0 hR5
 clear hE5 hR5 hT5 y0 y1 y2 y3 y4
 go_wp2_with fail
 refine HC5.out.mono ?_
 rintro e w6 ⟨rfl,hS6⟩
 have HF:Hid (CmOk w own c p (syncR (zch (endR R) x.b (Wv.frameB x.b) ((takeP lessM (fun m=>likeB x.b m.b) hs).2.map (·.b)))) cg cc hp mv (takeP lessM (fun m=>likeB x.b m.b) hs).2 w6∧Blk w6 w1.heap.size (bmC x) 124):=cm_end hc0 HD4.out HE5.out HT5.out hS6
 clear hS6 HC5 HE5 HT5 HD4
 have y1:w6.cell? ⟨w1.heap.size,1,none⟩=some (I x.b.s):=HF.out.2.cell 1
 go_wp2_with fail
 refine bodyPost_ret (v:= .tuple #[I x.b.s, .string ⟨(Wv.frameB x.b).toArray⟩,I 0]) (by simp [results,Tryz.results46,go_sem]) rfl ?_
 unfold zgn
 rw [HXB.out]
 exact⟨rfl,HF.out.1⟩
theorem zwy (v : Value) (w : World) : (method 492 180 v "Effect").run Tryz.prog w = .ok (243, v) w := by kernel_rfl
theorem zwx (v : Value) (w : World) : (method 492 190 v "Effect").run Tryz.prog w = .ok (309, v) w := by kernel_rfl
def Ob.says:Ob->Int->Int->Int->Int×Wv.Dt×Int
 | .counter _,_,x,_=>((addE x).1,⟨0,0,0⟩,(addE x).2)
 | .list ls,op,x,y=>listE ls op x y
 | _,_,_,_=>(0,⟨0,0,0⟩,0)
theorem zza(own:Clr)(c p:Nat)(R:Rp)(cg cc hp:Nat)(mv hv ev:Value)(hs:List Bm)(es:List Em)(op k x y:Int)(w:World)(h:RpIn w own c p R cg cc hp mv hv ev hs es)(h1:R.st ≠ 1):
  Calls Tryz.prog 43 #[.pointer (some ⟨p,0,none⟩),I op,I k,I x,I y] w fun e w'=>e= .returned (I 7)∧w'=w:=by
 have c1:w.cell? ⟨p,1,none⟩=some (I R.st):=h.blk.cell 1
 have hb:(R.st==1)=false:=by simp [h1]
 clear h h1
 go_enter Tryz.func43,Tryz.ntmps43
 go_wp2
 go_ret
 exact⟨rfl,rfl⟩
theorem zy9(own:Clr)(c p:Nat)(R:Rp)(cg cc hp:Nat)(mv hv ev:Value)(hs:List Bm)(es:List Em)(op k x y:Int)(w:World)(h:RpIn w own c p R cg cc hp mv hv ev hs es)(h1:R.st=1)(hobs:R.obs.length=8)(hk:¬(0<=k∧k<8)):
  Calls Tryz.prog 43 #[.pointer (some ⟨p,0,none⟩),I op,I k,I x,I y] w fun e w'=>e= .returned (I 8)∧Below w.heap.size w w':=by
 have c1:w.cell? ⟨p,1,none⟩=some (I R.st):=h.blk.cell 1
 have hb:(R.st==1)=true:=by simp [h1]
 have HR:Hid (RpIn w own c p R cg cc hp mv hv ev hs es):=h
 clear h h1
 go_enter Tryz.func43,Tryz.ntmps43
 go_wp2_with fail
 refine(zvp own c p R cg cc hp mv hv ev hs es k w HR.out hobs hk).mono ?_
 rintro e w1 ⟨rfl,hB⟩
 have HB:Hid (Below w.heap.size w w1):=hB
 clear hB hk hobs c1 HR
 go_wp2
 go_ret
 exact⟨rfl,HB.out⟩
end Go.Proofs.YtfmcngncaffloaaGreatDoor
