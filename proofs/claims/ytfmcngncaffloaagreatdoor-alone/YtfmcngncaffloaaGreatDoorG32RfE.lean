import Derived.Test.YtfmcngncaffloaaGreatDoorG31RvQ
set_option maxHeartbeats 6400000
namespace Go.Proofs.YtfmcngncaffloaaGreatDoor
open Go.RowKit
set_option maxRecDepth 100000
theorem infoLt:(Tryz.prog.info? 232).map (fun i=>(i.zero,i.size,i.bytes))=some (some (.agg #[.int .i64 0, .int .i64 0, .int .i64 0, .string ⟨#[]⟩, .bool false]),5,48):=by kernel_rfl
def addL(ls:List Lt)(l:Lt):List Lt:=if ls.length<40 then ls++ [l] else ls
theorem zwz(l:List Lt)(x:Lt):flat Lt.cells (l++ [x])=flat Lt.cells l++x.cells:=by
 rw [za1]
 simp [flat]
abbrev ltC (l:Lt):Array Value:= #[I l.k,I l.f,I l.t, .string ⟨l.b.toArray⟩, .bool l.x]
theorem RsOk.addl{w wE w7:World}{own:Clr}{c q rg cc g7 cap7:Nat}{S:Rs}{wv:Value}{prs:List Nat}(h:RsIn w own c q S rg cc wv prs)(hc:0<c)(l:Lt)(hb:Below w.heap.size w wE)(hT7:Tch (fun k=>wv.ownBlock=some k) wE w7)
  (hO7:w7.ownsRow 0 232 5 (.slice (some ⟨g7,0,none⟩) (S.way.length+1) cap7) (S.way.length+1) (flat Lt.cells S.way++l.cells)) (hA7:wv.ownBlock=some g7∨wE.heap.size<=g7) (hr:S.way.length<40):
  RsOk w own c q {S with way:=S.way++ [l]} (w7.setCell ⟨q,1,none⟩ (.slice (some ⟨g7,0,none⟩) (S.way.length+1) cap7)):=by
 have hsz:=hb.size
 have hql:=h.blk.lt
 have hel:∀g,wv.ownBlock=some g->g<w.heap.size:=fun g e=>(h.way.lt g e).2
 have hlen:(S.way++ [l]).length=S.way.length+1:=by simp
 have hqw:wv.ownBlock ≠ some q:=fun e=>by have h1:=h.ownw q e;have h2:=h.own1;omega
 obtain⟨W,hW⟩:∃W,W=w7.setCell ⟨q,1,none⟩ (.slice (some ⟨g7,0,none⟩) (S.way.length+1) cap7):=⟨_,rfl⟩
 have hT8:Tch (fun k=>wv.ownBlock=some k∨k=q) wE W:=by
  rw [hW]
  exact Tch.setCell (F:=fun k=>wv.ownBlock=some k∨k=q) (hT7.mono (fun _ _ e=> .inl e)) ⟨q,1,none⟩ _ (.inl (.inr rfl))
 have hTw:Tch (fun k=>wv.ownBlock=some k∨k=q) w W:=(Tch.below hb).trans hT8 (fun _ _ h=>h) (fun _ _ h=>h)
 have hTc:Tch (fun k=>own k=c∨own k=c+6) w W:=hTw.mono (fun k _ e=>by
  rcases e with e | e
  ·exact .inr (h.ownw k e)
  ·rw [e];exact .inl h.own1)
 have hgq:g7 ≠ q:=by
  rcases hA7 with e | e
  ·rintro rfl;exact hqw e
  ·omega
 have hK:Kp (fun d=>d ≠ c∧d ≠ c+6) own (fun b=>if b<w.heap.size then own b else if b=g7 then c+6 else 0) w W:=fun b hl hz=>⟨hTc.block b hl (by omega),by show(if b<w.heap.size then own b else _)=_;rw [if_pos hl]⟩
 have hrg:=hK rg h.rlt (by rw [h.own2];omega)
 have hm:=h.most
 have hle:=h.len
 rw [←hW]
 refine⟨fun b=>if b<w.heap.size then own b else if b=g7 then c+6 else 0,fun b hl _=> ?_,fun b hl=> ?_,fun b hl e1 e2=> ?_,⟨rg,cc, .slice (some ⟨g7,0,none⟩) (S.way.length+1) cap7,prs, ?_, ?_, ?_, ?_,h.len,h.most,h.least, ?_, ?_, ?_, ?_⟩,hTc.mono (fun k _ e=>by omega)⟩
 ·show(if b<w.heap.size then own b else _)=_
  rw [if_pos hl]
 ·show(if b<w.heap.size then own b else if b=g7 then c+6 else 0)=0∨(c<=(if b<w.heap.size then own b else if b=g7 then c+6 else 0)∧(if b<w.heap.size then own b else if b=g7 then c+6 else 0)<=c+6)
  rw [if_neg (by omega)]
  by_cases e:b=g7
  ·rw [if_pos e];exact .inr (by omega)
  ·rw [if_neg e];exact .inl rfl
 ·show(if b<w.heap.size then own b else if b=g7 then c+6 else 0)=0∨(c<=(if b<w.heap.size then own b else if b=g7 then c+6 else 0)∧(if b<w.heap.size then own b else if b=g7 then c+6 else 0)<=c+6)
  rw [if_pos hl];exact .inr ⟨e1,e2⟩
 ·rw [hW]
  exact(hT7.blk (h.blk.kept hb hql) hqw).set 1 (.slice (some ⟨g7,0,none⟩) (S.way.length+1) cap7)
 ·show(if q<w.heap.size then own q else _)=_
  rw [if_pos hql];exact h.own1
 ·exact fun r hr=>zan (h.row r hr) hrg.1
 ·exact hrg.2.trans h.own2
 ·exact fun r h1 h2=>(h.reps r h1 h2).kp hK (by omega) (by omega)
 ·show W.ownsRow 0 232 5 _ (S.way++ [l]).length (flat Lt.cells (S.way++ [l]))
  rw [hlen,zwz,hW]
  exact zah hO7 (fun b e=>heap_setCell_other _ ⟨q,1,none⟩ b _ (by cases e;exact hgq))
 ·show(S.way++ [l]).length<=40
  omega
 ·intro g e
  cases e
  show(if g7<w.heap.size then own g7 else if g7=g7 then c+6 else 0)=c+6
  by_cases hq:g7<w.heap.size
  ·rw [if_pos hq]
   rcases hA7 with e | e
   ·exact h.ownw g7 e
   ·omega
  ·rw [if_neg hq,if_pos rfl]
section
variable {w : World} {own : Clr} {c q rg cc : Nat} {S : Rs} {wv : Value} {prs : List Nat}
theorem zs4(l:Lt)(h:RsIn w own c q S rg cc wv prs)(hc:0<c):
  Calls Tryz.prog 143 #[.pointer (some ⟨q,0,none⟩), .agg (ltC l)] w fun e w'=>e= .returned (.tuple #[])∧RsOk w own c q {S with way:=addL S.way l} w':=by
 obtain⟨i2,HI2⟩:∃i,Hid (Tryz.prog.info? 232=some i∧i.zero=some (.agg #[.int .i64 0, .int .i64 0, .int .i64 0, .string ⟨#[]⟩, .bool false])∧i.size=5∧i.bytes=48):=by obtain⟨i,h⟩:=info_parts infoLt;exact⟨i,h⟩
 obtain⟨wa,wc,rfl⟩:=zar h.way
 obtain⟨wA,hwA⟩:∃wA,wA=w.alloc (.cells (ltC l) 232):=⟨_,rfl⟩
 have HX:Hid (Blk wA w.heap.size (ltC l) 232):=by rw [hwA];exact heap_alloc_new w _
 have HBA:Hid (Below w.heap.size w wA):=by rw [hwA];exact(Below.refl _ _).alloc (Nat.le_refl _) _
 have HSI:Hid (RsIn w own c q S rg cc (.slice wa S.way.length wc) prs):=h
 have hqw:(Value.slice wa S.way.length wc).ownBlock ≠ some q:=fun e=>by have h1:=h.ownw q e;have h2:=h.own1;omega
 have hql:q<w.heap.size:=h.blk.lt
 have d1:wA.cell? ⟨q,1,none⟩=some (.slice wa S.way.length wc):=zaa HBA.out (h.blk.cell 1)
 have hroom:=h.room
 clear h
 by_cases hl:S.way.length<40
 ·have hli:(S.way.length:Int)<40:=by omega
  have HAD:Hid (addL S.way l=S.way++ [l]):=by show _=_;unfold addL;rw [if_pos hl]
  rw [HAD.out]
  have HRX:Hid (wA.ownsRow 0 232 5 (.slice wa S.way.length wc) S.way.length (flat Lt.cells S.way)):=za6 HSI.out.way HBA.out
  have hone:∀u∈l.cells,u.oneCell'=true:=fun u hu=>lt_one [l] u (by simpa [flat] using hu)
  have x0:wA.cell? ⟨w.heap.size,0,none⟩=some (I l.k):=HX.out.cell 0
  have x1:wA.cell? ⟨w.heap.size,1,none⟩=some (I l.f):=HX.out.cell 1
  have x2:wA.cell? ⟨w.heap.size,2,none⟩=some (I l.t):=HX.out.cell 2
  have x3:wA.cell? ⟨w.heap.size,3,none⟩=some (.string ⟨l.b.toArray⟩):=HX.out.cell 3
  have x4:wA.cell? ⟨w.heap.size,4,none⟩=some (.bool l.x):=HX.out.cell 4
  have e1:(wA.alloc (.cells (ltC l) 232)).cell? ⟨q,1,none⟩=some (.slice wa S.way.length wc):=zaa ((Below.refl _ _).alloc (Nat.le_refl _) _) d1
  go_enter Tryz.func143,Tryz.ntmps143
  go_upto_region 1 with fail
  change Code.wp _ _ _ _ (w.alloc (.cells (ltC l) 232))
  rw [←hwA]
  clear hwA
  go_wp2_with fail
  go_region_law ((refine step_append_lies _ (by rfl) _ _ _ (by rfl) 0 232 i2 (.agg #[.int .i64 0, .int .i64 0, .int .i64 0, .string ⟨#[]⟩, .bool false]) 5 48 Tryz.underlying104 HI2.out.1 HI2.out.2.1 HI2.out.2.2.1 HI2.out.2.2.2 (by rfl) (by omega) (.slice wa S.way.length wc) S.way.length (flat Lt.cells S.way) (by rfl) (by first | exact HRX.out.alloc _ | exact(HRX.out.alloc _).drew | exact(HRX.out.drew).alloc _) ⟨wA.heap.size,0,none⟩ 1 1 l.cells (by rfl) (by rfl) (by first | exact zas wA _ _ | exact zb2 wA _ _) hone (by omega) (by unfold maxLen;omega) (by omega) (by omega) (wA.heap.size+1) (by simp) ?_;intro g7 cap7 w7 hown7 hgrow7 hat7 hlt7;have HT7:Hid (Tch (fun k=>(Value.slice wa S.way.length wc).ownBlock=some k) wA w7):=(by first | exact((Tch.refl _ wA).drew.alloc _).then (Tch.grown hgrow7) | exact((Tch.refl _ wA).alloc _).then (Tch.grown hgrow7));have HO7:Hid (w7.ownsRow 0 232 5 (.slice (some ⟨g7,0,none⟩) (S.way.length+1) cap7) (S.way.length+1) (flat Lt.cells S.way++l.cells)):=hown7;have HA7:Hid ((Value.slice wa S.way.length wc).ownBlock=some g7∨g7=wA.heap.size+1):=hat7;have f1:w7.cell? ⟨q,1,none⟩=some (.slice wa S.way.length wc):=zb0 HT7.out d1 hqw;have z1:w7.frozen? ⟨q,1,none⟩=false:=(HT7.out.blk (HSI.out.blk.kept HBA.out hql) hqw).frozen 1;clear hown7 hgrow7 hat7 hlt7))
  all_goals
   (have HEND:Hid (RsOk w own c q {S with way:=S.way++ [l]} (w7.setCell ⟨q,1,none⟩ (.slice (some ⟨g7,0,none⟩) (S.way.length+1) cap7))):=RsOk.addl HSI.out hc l HBA.out HT7.out HO7.out (HA7.out.imp id (fun e=>by omega)) hl
    clear HT7 HO7 HA7 HSI HRX HX HBA
    go_wp2
    go_end0
    exact⟨rfl,HEND.out⟩)
 ·have hli:¬(S.way.length:Int)<40:=by omega
  have HAD:Hid (addL S.way l=S.way):=by show _=_;unfold addL;rw [if_neg hl]
  rw [HAD.out]
  have HEND:Hid (RsOk w own c q S wA):=RsOk.below ⟨rg,cc,_,prs,HSI.out⟩ HBA.out
  clear HSI HX HBA
  go_enter Tryz.func143,Tryz.ntmps143
  go_upto_region 1 with fail
  change Code.wp _ _ _ _ (w.alloc (.cells (ltC l) 232))
  rw [←hwA]
  clear hwA
  go_wp2
  go_end0
  exact⟨rfl,HEND.out⟩
theorem zo7(k f t:Int)(b:List UInt8)(h:RsIn w own c q S rg cc wv prs)(hc:0<c):
  Calls Tryz.prog 136 #[.pointer (some ⟨q,0,none⟩),I k,I f,I t, .string ⟨b.toArray⟩] w fun e w'=>e= .returned (.tuple #[])∧RsOk w own c q {S with way:=addL S.way ⟨k,f,t,b,false⟩} w':=by
 have HC:=zs4 ⟨k,f,t,b,false⟩ h hc
 clear h
 go_enter Tryz.func136,Tryz.ntmps136
 go_wp2_with fail
 refine HC.mono ?_
 rintro e w1 ⟨rfl,h1⟩
 have HE:Hid (RsOk w own c q {S with way:=addL S.way ⟨k,f,t,b,false⟩} w1):=h1
 clear h1 HC
 go_wp2
 go_end0
 exact⟨rfl,HE.out⟩
end
structure BsOk(bs:List Bm)(n:Nat):Prop where
 len:bs.length<=1000000
 org:∀b∈bs,0<=b.b.o∧b.b.o<n
 tim:∀b∈bs,0<=b.b.t∧b.b.t<=1000000
 eff:∀b∈bs,b.ms.length<=5
 dot:∀b∈bs,∀m∈b.ms,m.e.dots.length<=1000∧ -1000<=m.e.va∧m.e.va<=1000
theorem Rs.set_self{S:Rs}{r:Nat}{x:Rr}(h:S.reps[r]?=some x):{S with reps:=S.reps.set r x}=S:=by
 obtain⟨hr,rfl⟩:=List.getElem?_eq_some_iff.1 h
 rw [List.set_getElem_self]
def zdc(x:Rr)(n r:Nat):Rr×Int:=if x.op=true then(x,6) else if 30<=(cntK x.bs n).getD r 0 then(x,13) else({x with op:=true,es:= []},0)
section
variable {w : World} {own : Clr} {c q rg cc : Nat} {S : Rs} {wv : Value} {prs : List Nat}
theorem zte(r:Nat)(x:Rr)(h:RsIn w own c q S rg cc wv prs)(hc:0<c)(hx:S.reps[r]?=some x)(hb:BsOk x.bs S.reps.length):
  Calls Tryz.prog 83 #[.pointer (some ⟨q,0,none⟩),I r] w fun e w'=>e= .returned (I (zdc x S.reps.length r).2)∧RsOk w own c q {S with reps:=S.reps.set r (zdc x S.reps.length r).1} w':=by
 have HC:=zco r x true h hx
 obtain⟨hr,dv,ev,hrr⟩:=h.prl hx
 have hm:=h.most
 have hrn:r<S.reps.length:=by have:=h.len;omega
 have hri:(r:Int)<(S.reps.length:Int):=by omega
 obtain⟨da,dc,rfl⟩:=zar hrr.done
 have c0:w.cell? ⟨q,0,none⟩=some (.slice (some ⟨rg,0,none⟩) S.reps.length cc):=h.blk.cell 0
 have c1:w.cell? ⟨rg,r,none⟩=some (.pointer (some ⟨prs[r],0,none⟩)):=h.row r hr
 have c2:w.cell? ⟨prs[r],5,none⟩=some (.bool x.op):=hrr.blk.cell 5
 have c3:w.cell? ⟨prs[r],1,none⟩=some (.slice da x.bs.length dc):=hrr.blk.cell 1
 have HA:Hid (At w da (flat Bm.cells x.bs)):=zaw hrr.done
 have HR:Hid (RrIn w own (c+1+r) prs[r] x (.slice da x.bs.length dc) ev):=hrr
 have HSI:Hid (RsIn w own c q S rg cc wv prs):=h
 have hbl:=hb.len
 have HBO:Hid (∀b∈x.bs,0<=b.b.o∧b.b.o<S.reps.length):=hb.org
 have HSL:Hid ({S with reps:=S.reps.set r x}=S):=Rs.set_self hx
 have HRP:Hid (∀y w',RrOk w own (c+1+r) prs[r] y w'->RsOk w own c q {S with reps:=S.reps.set r y} w'):=fun y w' ho=>RsOk.rep h hc r hr ho
 have hq1:q<w.heap.size:=h.blk.lt
 have hrg1:rg<w.heap.size:=h.rlt
 have hp1:prs[r]<w.heap.size:=hrr.blk.lt
 have hrw:(cntK x.bs S.reps.length).length=S.reps.length:=zfi _ _
 have hcb:=zhe x.bs S.reps.length
 clear h hrr hx hb
 generalize prs[r]=p at *
 by_cases hop:x.op=true
 ·have e1:zdc x S.reps.length r=(x,6):=by unfold zdc;rw [if_pos hop]
  rw [e1,HSL.out]
  rw [hop] at c2
  have HE:Hid (RsOk w own c q S w):=RsOk.below ⟨rg,cc,wv,prs,HSI.out⟩ (Below.refl _ _)
  clear e1 HSL HRP HR HSI HA HBO hcb
  generalize hn:S.reps.length=n at *
  go_enter Tryz.func83,Tryz.ntmps83
  go_wp2_with fail
  refine HC.mono ?_
  rintro e w1 ⟨rfl,hw1⟩
  subst hw1
  clear HC
  go_wp2
  go_ret
  exact⟨rfl,HE.out⟩
 ·have hopf:x.op=false:=by simpa using hop
  have e1:zdc x S.reps.length r=if 30<=(cntK x.bs S.reps.length).getD r 0 then(x,13) else({x with op:=true,es:= []},0):=by unfold zdc;rw [if_neg hop]
  rw [e1]
  rw [hopf] at c2
  clear e1 hop
  obtain⟨yy,HY⟩:∃yy,Hid ((if 30<=(cntK x.bs S.reps.length).getD r 0 then(x,(13:Int)) else({x with op:=true,es:= []},0))=yy):=⟨_,rfl⟩
  rw [HY.out]
  obtain⟨y1,y2⟩:=yy
  generalize hn:S.reps.length=n at *
  have hrz:r<(cntK x.bs n).length:=by rw [hrw];exact hrn
  have e2:(cntK x.bs n).getD r 0=(cntK x.bs n)[r]:=by simp [hrz]
  rw [e2] at HY
  have hz:=hcb _ (List.getElem_mem hrz)
  clear e2 hcb
  go_enter Tryz.func83,Tryz.ntmps83
  go_wp2_with fail
  refine HC.mono ?_
  rintro e w1 ⟨rfl,hw1⟩
  subst hw1
  clear HC
  go_wp2_with fail
  go_cut [6] (fun v6 wx=>∃g,v6= .slice (some ⟨g,0,none⟩) n n∧Hid (w1.heap.size<=g∧Blk wx g ((cntK x.bs n).map I).toArray 3∧Below w1.heap.size w1 wx))
  case first=>
   go_region_law ((go_simp;go_at_call 128;refine(zio x.bs da dc n _ (by first | exact HA.out | exact HA.out.kept (Below.refl _ _).drew) (by omega) hm HBO.out).mono ?_;rintro e w3 ⟨g3,rfl,hg3,hk3,hb3⟩;have HB3':Below w1.heap.size w1 w3:=(by first | exact hb3 | exact(Below.refl _ _).drew.trans hb3);have HX3:Hid (w1.heap.size<=g3∧Blk w3 g3 ((cntK x.bs n).map I).toArray 3∧Below w1.heap.size w1 w3):=⟨hg3,hk3,HB3'⟩;clear hg3 hk3 hb3 HB3'))
   all_goals
    (go_wp2_with fail
     go_meet
     exact⟨g3,rfl,by first | exact HX3 | exact⟨HX3.out.1,HX3.out.2.1.drew,HX3.out.2.2.drew⟩⟩)
  case rest=>
   obtain⟨g,rfl,HX⟩:=hcut
   have d0:wc.cell? ⟨q,0,none⟩=some (.slice (some ⟨rg,0,none⟩) n cc):=zaa HX.out.2.2 c0
   have d1:wc.cell? ⟨rg,r,none⟩=some (.pointer (some ⟨p,0,none⟩)):=zaa HX.out.2.2 c1
   have d2:wc.cell? ⟨g,r,none⟩=some (I (cntK x.bs n)[r]):=by rw [HX.out.2.1.cell];simp [hrz]
   have hRb:=HR.out.below HX.out.2.2
   have d5:wc.cell? ⟨p,5,none⟩=some (.bool x.op):=hRb.blk.cell 5
   have z5:wc.frozen? ⟨p,5,none⟩=false:=hRb.blk.frozen 5
   have d6:wc.cell? ⟨p,6,none⟩=some ev:=hRb.blk.cell 6
   have z6:wc.frozen? ⟨p,6,none⟩=false:=hRb.blk.frozen 6
   have HE1:Hid (RsOk w1 own c q S wc):=RsOk.below ⟨rg,cc,wv,prs,HSI.out⟩ HX.out.2.2
   have HE2:Hid (RsOk w1 own c q {S with reps:=S.reps.set r {x with op:=true,es:= []}} ((wc.setCell ⟨p,5,none⟩ (.bool true)).setCell ⟨p,6,none⟩ (.slice none 0 0))):=HRP.out _ _ (RrOk.after HX.out.2.2 (hRb.shut (by omega) true))
   rw [hopf] at d5
   have hqp:q ≠ p:=by
    intro e
    have h1:=HSI.out.blk
    have h2:=HR.out.blk
    rw [e] at h1
    have h3:=Option.some.inj (h1.symm.trans h2)
    cases h3
   have hrp:rg ≠ p:=by
    intro e
    have h1:=HSI.out.own2
    have h2:=HR.out.own1
    rw [e] at h1
    omega
   have f0:(wc.setCell ⟨p,5,none⟩ (.bool true)).cell? ⟨q,0,none⟩=some (.slice (some ⟨rg,0,none⟩) n cc):=zan d0 (heap_setCell_other _ _ _ _ hqp)
   have f1:(wc.setCell ⟨p,5,none⟩ (.bool true)).cell? ⟨rg,r,none⟩=some (.pointer (some ⟨p,0,none⟩)):=zan d1 (heap_setCell_other _ _ _ _ hrp)
   have f6:(wc.setCell ⟨p,5,none⟩ (.bool true)).cell? ⟨p,6,none⟩=some ev:=(hRb.blk.set 5 (.bool true)).cell 6
   have y6:(wc.setCell ⟨p,5,none⟩ (.bool true)).frozen? ⟨p,6,none⟩=false:=(hRb.blk.set 5 (.bool true)).frozen 6
   clear hRb HRP HR HSI HA HBO HX
   generalize (cntK x.bs n)[r]=z at *
   by_cases hge:30<=z
   ·have hy:=HY.out
    rw [if_pos hge] at hy
    cases hy
    clear HE2
    have HE3:Hid (RsOk w1 own c q {S with reps:=S.reps.set r x} wc):=by show RsOk _ _ _ _ _ _;rw [HSL.out];exact HE1.out
    clear HE1 HSL
    go_wp2
    go_ret
    exact⟨rfl,HE3.out⟩
   ·have hy:=HY.out
    rw [if_neg hge] at hy
    cases hy
    clear HE1
    go_wp2
    go_ret
    exact⟨rfl,HE2.out⟩
end
def zda(t:Int)(b:Bm):Int:=if t<=b.b.t then b.b.t+1 else t
def timK(bs:List Bm):Int:=bs.foldl zda 1
theorem zj9(bs:List Bm)(i:Nat)(hi:i<bs.length):timK (bs.take (i+1))=zda (timK (bs.take i)) bs[i]:=zck zda _ bs i hi
theorem zsl(bs:List Bm)(h:∀b∈bs,b.b.t<=1000000):1<=timK bs∧timK bs<=1000001:=by
 have hs:∀(bs:List Bm) (t:Int),(∀b∈bs,b.b.t<=1000000)->1<=t->t<=1000001->1<=bs.foldl zda t∧bs.foldl zda t<=1000001:=by
  intro bs
  induction bs with
  | nil=>intro t _ h1 h2;exact⟨h1,h2⟩
  | cons b bs ih=>
   intro t h h1 h2
   rw [List.foldl_cons]
   have hb:=h b (by simp)
   refine ih _ (fun y hy=>h y (by simp [hy])) ?_ ?_
   all_goals (unfold zda;split<;>omega)
 exact hs bs 1 h (by omega) (by omega)
def zao(x:Rr)(n r:Nat):Wv.Bt:=⟨r,(cntK x.bs n).getD r 0+1,timK x.bs,cntK x.bs n,x.es.map (·.e)⟩
section
variable {w : World} {own : Clr} {c q rg cc : Nat} {S : Rs} {wv : Value} {prs : List Nat}
theorem zkl(r:Nat)(x:Rr)(h:RsIn w own c q S rg cc wv prs)(hb:BsOk x.bs S.reps.length)(dv:Value)(ea:Option Addr)(ec:Nat)(hr:r<prs.length)(hrr:RrIn w own (c+1+r) prs[r] x dv (.slice ea x.es.length ec)):
  Calls Tryz.prog 134 #[.pointer (some ⟨q,0,none⟩),I r] w fun e w'=>∃g,e= .returned (.agg #[I r,I (zao x S.reps.length r).s,I (zao x S.reps.length r).t, .slice (some ⟨g,0,none⟩) S.reps.length S.reps.length, .slice ea x.es.length ec])∧w.heap.size<=g∧Blk w' g ((cntK x.bs S.reps.length).map I).toArray 3∧Below w.heap.size w w':=by
 have hm:=h.most
 have hrn:r<S.reps.length:=by have:=h.len;omega
 have hri:(r:Int)<(S.reps.length:Int):=by omega
 obtain⟨da,dc,rfl⟩:=zar hrr.done
 have hbl:=hb.len
 have HBO:Hid (∀b∈x.bs,0<=b.b.o∧b.b.o<S.reps.length):=hb.org
 have HBT:Hid (∀b∈x.bs,b.b.t<=1000000):=fun b hq=>(hb.tim b hq).2
 have hq1:q<w.heap.size:=h.blk.lt
 have hrg1:rg<w.heap.size:=h.rlt
 have hp1:prs[r]<w.heap.size:=hrr.blk.lt
 have hrw:(cntK x.bs S.reps.length).length=S.reps.length:=zfi _ _
 have hcb:=zhe x.bs S.reps.length
 have HB0:Hid (Below w.heap.size w (w.alloc (.cells bat0 124))):=(Below.refl _ _).alloc (Nat.le_refl _) _
 have HK0:Hid (Blk (w.alloc (.cells bat0 124)) w.heap.size bat0 124):=heap_alloc_new w _
 obtain⟨wA,hwA⟩:∃wA,wA=w.alloc (.cells bat0 124):=⟨_,rfl⟩
 rw [←hwA] at HB0 HK0
 have hzA:wA.heap.size=w.heap.size+1:=by rw [hwA];simp
 have c0:wA.cell? ⟨q,0,none⟩=some (.slice (some ⟨rg,0,none⟩) S.reps.length cc):=zaa HB0.out (h.blk.cell 0)
 have c1:wA.cell? ⟨rg,r,none⟩=some (.pointer (some ⟨prs[r],0,none⟩)):=zaa HB0.out (h.row r hr)
 have c3:wA.cell? ⟨prs[r],1,none⟩=some (.slice da x.bs.length dc):=zaa HB0.out (hrr.blk.cell 1)
 have c6:wA.cell? ⟨prs[r],6,none⟩=some (.slice ea x.es.length ec):=zaa HB0.out (hrr.blk.cell 6)
 have HA:Hid (At wA da (flat Bm.cells x.bs)):=(zaw hrr.done).kept HB0.out
 clear h hrr hb
 have HDS:Hid ((zao x S.reps.length r).s=(cntK x.bs S.reps.length).getD r 0+1):=rfl
 have HDT:Hid ((zao x S.reps.length r).t=timK x.bs):=rfl
 rw [HDS.out,HDT.out]
 generalize prs[r]=p at *
 generalize x.es.length=el at *
 generalize hn:S.reps.length=n at *
 have hrz:r<(cntK x.bs n).length:=by rw [hrw];exact hrn
 have e2:(cntK x.bs n).getD r 0=(cntK x.bs n)[r]:=by simp [hrz]
 rw [e2]
 have hz:=hcb _ (List.getElem_mem hrz)
 clear e2 hcb HDS HDT
 go_enter Tryz.func134,Tryz.ntmps134
 go_upto_region 1 with fail
 change Code.wp _ _ _ _ (w.alloc (.cells bat0 124))
 rw [←hwA]
 clear hwA
 go_wp2_with fail
 go_cut [6] (fun v6 wx=>∃g,v6= .slice (some ⟨g,0,none⟩) n n∧Hid (wA.heap.size<=g∧Blk wx g ((cntK x.bs n).map I).toArray 3∧Below wA.heap.size wA wx))
 case first=>
  go_region_law ((go_simp;go_at_call 128;refine(zio x.bs da dc n _ (by first | exact HA.out | exact HA.out.kept (Below.refl _ _).drew) (by omega) hm HBO.out).mono ?_;rintro e w3 ⟨g3,rfl,hg3,hk3,hb3⟩;have HB3':Below wA.heap.size wA w3:=(by first | exact hb3 | exact(Below.refl _ _).drew.trans hb3);have HX3:Hid (wA.heap.size<=g3∧Blk w3 g3 ((cntK x.bs n).map I).toArray 3∧Below wA.heap.size wA w3):=⟨hg3,hk3,HB3'⟩;clear hg3 hk3 hb3 HB3'))
  all_goals
   (go_wp2_with fail
    go_meet
    exact⟨g3,rfl,by first | exact HX3 | exact⟨HX3.out.1,HX3.out.2.1.drew,HX3.out.2.2.drew⟩⟩)
 case rest=>
  obtain⟨g,rfl,HX⟩:=hcut
  have d3:wc.cell? ⟨p,1,none⟩=some (.slice da x.bs.length dc):=zaa HX.out.2.2 c3
  have d6:wc.cell? ⟨p,6,none⟩=some (.slice ea el ec):=zaa HX.out.2.2 c6
  have d2:wc.cell? ⟨g,r,none⟩=some (I (cntK x.bs n)[r]):=by rw [HX.out.2.1.cell];simp [hrz]
  have HAc:Hid (At wc da (flat Bm.cells x.bs)):=HA.out.kept HX.out.2.2
  have HKc:Hid (Blk wc w.heap.size bat0 124):=HK0.out.kept HX.out.2.2 (by omega)
  clear c0 c1 c3 c6 HA HK0
  generalize hzq:(cntK x.bs n)[r]=z at *
  have HZQ:Hid ((cntK x.bs n)[r]=z):=hzq
  clear hzq
  go_wp2_with fail
  go_loopw [7,8] (fun y x2 wr=>∃(i:Nat),i<=x.bs.length∧x2=I i∧y=I (timK (x.bs.take i))∧wr=wc) (fun _ x2 _=>x.bs.length - (intOf x2).toNat)
  case atStart=>exact⟨0,by omega,rfl,rfl,rfl⟩
  case round=>
   obtain⟨i,hi,rfl,rfl,rfl⟩:=hrel
   by_cases hlt:i<x.bs.length
   ·have hii:(i:Int)<x.bs.length:=by omega
    obtain⟨p2,q2,rfl,hc⟩:=zhh HAc.out (by omega)
    have g0:wr.cell? ⟨p2,q2+i*5+2,none⟩=some (I x.bs[i].b.t):=hc i hlt 2 _ rfl
    have HS:Hid (timK (x.bs.take (i+1))=zda (timK (x.bs.take i)) x.bs[i]):=zj9 x.bs i hlt
    have hT:=HBT.out _ (List.getElem_mem hlt)
    have hT2:=zsl (x.bs.take i) (fun b hq=>HBT.out b (List.mem_of_mem_take hq))
    unfold zda at HS
    generalize timK (x.bs.take i)=t at *
    generalize x.bs[i].b.t=u at *
    clear hc
    by_cases hge:t<=u
    ·have HS2:Hid (timK (x.bs.take (i+1))=u+1):=by show _=_;rw [HS.out,if_pos hge]
     have hwrap:IntKind.i64.wrap (u+1)=u+1:=zc0 _ (by omega) (by omega)
     clear HS
     go_wp2_with fail
     go_roundw
     case rel=>exact⟨i+1,by omega,by go_num,by rw [HS2.out],by first | rfl | trivial⟩
     case measure=>simp [intOf];omega
    ·have HS2:Hid (timK (x.bs.take (i+1))=t):=by show _=_;rw [HS.out,if_neg hge]
     clear HS
     go_wp2_with fail
     go_roundw
     case rel=>exact⟨i+1,by omega,by go_num,by rw [HS2.out],by first | rfl | trivial⟩
     case measure=>simp [intOf];omega
   ·have hii:¬(i:Int)<x.bs.length:=by omega
    have hT2:timK (x.bs.take i)=timK x.bs:=by rw [List.take_of_length_le (by omega)]
    rw [hT2]
    clear hT2
    generalize htq:timK x.bs=t at *
    have HTQ:Hid (timK x.bs=t):=htq
    clear htq
    have hwrap:IntKind.i64.wrap (z+1)=z+1:=zc0 _ (by omega) (by omega)
    have hwi:g ≠ w.heap.size:=by have:=HX.out.1;omega
    have HF:Hid (Blk (put5 wr w.heap.size (I r) (I (z+1)) (I t) (.slice (some ⟨g,0,none⟩) n n) (.slice ea el ec)) w.heap.size #[I r,I (z+1),I t, .slice (some ⟨g,0,none⟩) n n, .slice ea el ec] 124):=zwc HKc.out _ _ _ _ _
    have HEND:Hid (w.heap.size<=g∧Blk (put5 wr w.heap.size (I r) (I (z+1)) (I t) (.slice (some ⟨g,0,none⟩) n n) (.slice ea el ec)) g ((cntK x.bs n).map I).toArray 3∧Below w.heap.size w (put5 wr w.heap.size (I r) (I (z+1)) (I t) (.slice (some ⟨g,0,none⟩) n n) (.slice ea el ec))):=by
     refine⟨by have:=HX.out.1;omega,(ztg _ _ _ _ _ _ _ g hwi).trans HX.out.2.1, ?_⟩
     unfold put5
     exact(((((HB0.out.trans (HX.out.2.2.mono (by omega))).setCell (Nat.le_refl _) _).setCell (Nat.le_refl _) _).setCell (Nat.le_refl _) _).setCell (Nat.le_refl _) _).setCell (Nat.le_refl _) _
    have k0:wr.cell? ⟨w.heap.size,0,none⟩=some (.int .i64 0):=HKc.out.cell 0
    have z0:wr.frozen? ⟨w.heap.size,0,none⟩=false:=HKc.out.frozen 0
    have k1:wr.cell? ⟨w.heap.size,1,none⟩=some (.int .i64 0):=HKc.out.cell 1
    have z1:wr.frozen? ⟨w.heap.size,1,none⟩=false:=HKc.out.frozen 1
    have k2:wr.cell? ⟨w.heap.size,2,none⟩=some (.int .i64 0):=HKc.out.cell 2
    have z2:wr.frozen? ⟨w.heap.size,2,none⟩=false:=HKc.out.frozen 2
    have k3:wr.cell? ⟨w.heap.size,3,none⟩=some (.slice none 0 0):=HKc.out.cell 3
    have z3:wr.frozen? ⟨w.heap.size,3,none⟩=false:=HKc.out.frozen 3
    have k4:wr.cell? ⟨w.heap.size,4,none⟩=some (.slice none 0 0):=HKc.out.cell 4
    have z4:wr.frozen? ⟨w.heap.size,4,none⟩=false:=HKc.out.frozen 4
    go_wp2_with fail
    go_region_law (fail)
    all_goals
     (go_wp2
      have HF2:Hid (Blk (((((wr.setCell ⟨w.heap.size,0,none⟩ (I r)).setCell ⟨w.heap.size,1,none⟩ (I (z+1))).setCell ⟨w.heap.size,2,none⟩ (I t)).setCell ⟨w.heap.size,3,none⟩ (.slice (some ⟨g,0,none⟩) n n)).setCell ⟨w.heap.size,4,none⟩ (.slice ea el ec)).drew w.heap.size #[I r,I (z+1),I t, .slice (some ⟨g,0,none⟩) n n, .slice ea el ec] 124):=HF.out.drew
      have HE2:Hid (w.heap.size<=g∧Blk (((((wr.setCell ⟨w.heap.size,0,none⟩ (I r)).setCell ⟨w.heap.size,1,none⟩ (I (z+1))).setCell ⟨w.heap.size,2,none⟩ (I t)).setCell ⟨w.heap.size,3,none⟩ (.slice (some ⟨g,0,none⟩) n n)).setCell ⟨w.heap.size,4,none⟩ (.slice ea el ec)).drew g ((cntK x.bs n).map I).toArray 3∧Below w.heap.size w (((((wr.setCell ⟨w.heap.size,0,none⟩ (I r)).setCell ⟨w.heap.size,1,none⟩ (I (z+1))).setCell ⟨w.heap.size,2,none⟩ (I t)).setCell ⟨w.heap.size,3,none⟩ (.slice (some ⟨g,0,none⟩) n n)).setCell ⟨w.heap.size,4,none⟩ (.slice ea el ec)).drew):=⟨HEND.out.1,HEND.out.2.1.drew,HEND.out.2.2.drew⟩
      generalize (((((wr.setCell ⟨w.heap.size,0,none⟩ (I r)).setCell ⟨w.heap.size,1,none⟩ (I (z+1))).setCell ⟨w.heap.size,2,none⟩ (I t)).setCell ⟨w.heap.size,3,none⟩ (.slice (some ⟨g,0,none⟩) n n)).setCell ⟨w.heap.size,4,none⟩ (.slice ea el ec)).drew=wF at *
      have f0:wF.cell? ⟨w.heap.size,0,none⟩=some (I r):=HF2.out.cell 0
      have f1:wF.cell? ⟨w.heap.size,1,none⟩=some (I (z+1)):=HF2.out.cell 1
      have f2:wF.cell? ⟨w.heap.size,2,none⟩=some (I t):=HF2.out.cell 2
      have f3:wF.cell? ⟨w.heap.size,3,none⟩=some (.slice (some ⟨g,0,none⟩) n n):=HF2.out.cell 3
      have f4:wF.cell? ⟨w.heap.size,4,none⟩=some (.slice ea el ec):=HF2.out.cell 4
      refine bodyPost_ret (v:= .agg #[I r,I (z+1),I t, .slice (some ⟨g,0,none⟩) n n, .slice ea el ec]) (by simp [results,Tryz.results134,go_sem,f0,f1,f2,f3,f4]) rfl ⟨g,by rw [HZQ.out,HTQ.out],HE2.out⟩)
end
end Go.Proofs.YtfmcngncaffloaaGreatDoor
