import Derived.Test.YtfmcngncaffloaaGreatDoorG47GaG
set_option maxHeartbeats 1600000
namespace Go.Proofs.YtfmcngncaffloaaGreatDoor
open Go.RowKit
set_option maxRecDepth 100000
theorem zqp{α β:Type}(f:α->List β)(l:List α)(h:∀a∈l,(f a).length<=5):(l.flatMap f).length<=5*l.length:=by
 induction l with
 | nil=>simp
 | cons a l ih=>
  rw [List.flatMap_cons,List.length_append,List.length_cons]
  have h1:=h a (by simp)
  have h2:=ih (fun b hb=>h b (by simp [hb]))
  omega
section
variable {n r : Nat} {R : Rp} {x : Rr}
theorem AlR.es(h:AlR n r R x):∀m∈x.es,m.e.dots.length<=1000∧ -1000<=m.e.va∧m.e.va<=1000:=fun m hm=>by
 have hme:m.e∈R.effs:=by rw [h.effs];exact List.mem_map.2 ⟨m,hm,rfl⟩
 obtain⟨j,hj,hje⟩:=List.mem_iff_getElem.1 hme
 have:=zi9 (h.eff j hj)
 rw [hje] at this
 omega
theorem zy2{r s k:Int}{es:List Em}{m:Mk}(h:m∈esK r s k es):m.m∈es:=by
 obtain⟨p,hp,hu⟩:=List.mem_filterMap.1 h
 unfold esU at hu
 split at hu
 ·cases hu
  obtain⟨_,hq⟩:=List.mem_zipIdx hp |>.2
  rw [hq]
  exact List.getElem_mem _
 ·cases hu
theorem AlR.dm(h:AlR n r R x)(k:Nat):(dmK x r k).length<=200∧∀m∈dmK x r k,m.m.e.dots.length<=1000∧ -1000<=m.m.e.va∧m.m.e.va<=1000:=by
 constructor
 ·unfold dmK
  rw [List.length_append]
  have h1:(za3 x.bs k).length<=5*x.bs.length:=zqp _ _ (fun b hb=>by
   obtain⟨j,hj,rfl⟩:=List.mem_iff_getElem.1 hb
   exact Nat.le_trans (ztq _ _) (h.bs.m j hj))
  have h2:(esK r (x.bs.length+1) k x.es).length<=x.es.length:=by
   unfold esK
   refine Nat.le_trans (List.length_filterMap_le ..) ?_
   rw [List.length_zipIdx]
   exact Nat.le_refl _
  have:=h.seq
  have:=h.el
  omega
 ·intro m hm
  rcases List.mem_append.1 hm with hm | hm
  ·obtain⟨b,hb,hq⟩:=ziv hm
   exact h.bs.v b hb _ hq
  ·exact h.es _ (zy2 hm)
theorem AlR.sees(h:AlR n r R x)(k:Nat)(w:World)(ea:Option Addr)(ec:Nat):Sees w x n r k ea ec (dmK x r k):=by
 obtain⟨d1,d2⟩:=h.dm k
 refine⟨fun L w' hs=> ?_,by omega,fun m hm=>by have:=(d2 m hm).1;omega⟩
 rcases hs with⟨rfl,hn⟩ | ⟨g,rfl,_,_,_⟩
 ·refine(zh6 x r k ?_).symm
  cases hop:x.op with
  | false=>exact h.shut hop
  | true=>exact Classical.byContradiction (fun q=>hn ⟨hop,q⟩)
 ·rw [zhm,zht h.bs h.rlt]
  rfl
theorem AlR.vbound(h:AlR n r R x){k:Nat}{o:Ob}(ho:R.obs[k]?=some o):(seeTo (pendB R) k o R.effs.length).bound 200:=by
 have hb:=zct (b:=pendB R) (k:=(k:Int)) (h.ok.bd o (List.mem_of_getElem? ho)) (fun e he=>by have:=h.ev e he;omega) R.effs.length (Nat.le_refl _)
 refine Ob.bound_mono hb ?_
 rw [h.clk,zkn n r _ h.rlt]
 have:=h.seq
 have:=h.el
 have:=h.len
 omega
end
theorem zwp{o:Ob}{op:Int}(h1:1<=op)(h6:op<=6)(hkd:(o.kind:Int)=Wv.rKind op)(a b:Int):(((o.answer op a b).ds.length:Int)>Wv.rMostD op)↔150<(o.answer op a b).ds.length:=by
 have hop:op=1∨op=2∨op=3∨op=4∨op=5∨op=6:=by omega
 cases o with
 | counter n=>
  have hz:Wv.rMostD op=0:=by
   rcases hop with rfl | rfl | rfl | rfl | rfl | rfl<;>first | rfl | exact absurd hkd (of_decide_eq_true rfl)
  rw [hz]
  show((0:Nat):Int)>0↔150<0
  omega
 | list ls=>
  have hz:Wv.rMostD op=0:=by
   rcases hop with rfl | rfl | rfl | rfl | rfl | rfl<;>first | rfl | exact absurd hkd (of_decide_eq_true rfl)
  rw [hz]
  show((0:Nat):Int)>0↔150<0
  omega
 | reg m=>
  have hz:Wv.rMostD op=150:=by
   rcases hop with rfl | rfl | rfl | rfl | rfl | rfl<;>first | rfl | exact absurd hkd (of_decide_eq_true rfl)
  rw [hz]
  omega
 | set m=>
  have hq:op=2∨op=3:=by
   rcases hop with rfl | rfl | rfl | rfl | rfl | rfl<;>first | exact .inl rfl | exact .inr rfl | exact absurd hkd (of_decide_eq_true rfl)
  rcases hq with rfl | rfl
  ·have hd:(Ob.answer (.set m) 2 a b).ds= []:=by
    show(setE m 2 a).2.1= []
    unfold setE
    split
    ·rfl
    ·rw [if_neg (by omega)]
   rw [hd]
   show((0:Nat):Int)>0↔150<0
   omega
  ·show((_:Nat):Int)>150↔_
   omega
section
variable {Z : List (Nat × Obj)} {av : Value} {w0 w : World} {eb ef : Addr} {G : Nat} {ents : List (Option Ent)} {os : List Ow} {many : Int}
theorem zzh(h:Gm Z av w0 w eb ef G ents os many)(hR:Rels ents)(i:Nat)(o:Option Ent)(ho:ents[i]?=some o)(r op ob a b:Int):
  Calls Tryz.prog 18 #[xpV o,I r,I op,I ob,I a,I b] w fun x w1=>∃z,x= .returned (I z)∧Kz Z w1∧Calls Tryz.prog 84 #[wpV o,I r,I op,I ob,I a,I b] w1 fun y w2=>y= .returned (I z)∧Nx Z av w0 eb ef G ents os many w2:=by
 rcases h.cases hR ho r with⟨z,b1,_,b3⟩ | ⟨e,k,R,x,rfl,rfl,hSr,hQr,hA⟩
 ·refine(zyi op ob a b b1.up).mono ?_
  rintro x w1 ⟨rfl,rfl⟩
  exact⟨z,rfl,h.kz,(zrp op ob a b b3).mono (by rintro y w2 ⟨rfl,rfl⟩;exact⟨rfl,h.nx hR⟩)⟩
 ·obtain⟨owns,lw,oa,oc,hI,⟨rg,cc,pp,ch,pv,prs,hS⟩,hen,_⟩:=h.ent ho
  have hup:=hA.up
  have hlen:=hA.len
  obtain⟨hr,cg,cc',hp,mv,hv,ev,hs,es,hrp⟩:=hS.prl hSr
  have hesl:es.length=R.effs.length:=by rw [hrp.effsE,List.length_map]
  have hpur2:∀(z:Int),(∀w1 lw1 rg cc wv prs,RsIn w1 lw1 (10+10*i) e.q e.Q rg cc wv prs->Calls Tryz.prog 84 #[wpV (some e),I k,I op,I ob,I a,I b] w1 fun y w2=>y= .returned (I z)∧RsOk w1 lw1 (10+10*i) e.q e.Q w2)->∀w1,Gm Z av w0 w1 eb ef G ents os many->Calls Tryz.prog 84 #[wpV (some e),I k,I op,I ob,I a,I b] w1 fun y w2=>y= .returned (I z)∧Nx Z av w0 eb ef G ents os many w2:=by
   intro z hz w1 h1
   obtain⟨owns1,lw1,oa1,oc1,hI1,_,_,rg2,cc2,wv2,prs2,hQ⟩:=h1.ent ho
   refine(hz w1 lw1 rg2 cc2 wv2 prs2 hQ).mono ?_
   rintro y w2 ⟨rfl,hrs⟩
   have hents:ents.set i (some {e with Q:=e.Q})=ents:=by
    obtain⟨hk1,hk2⟩:=List.getElem?_eq_some_iff.1 ho
    show ents.set i (some e)=ents
    rw [←hk2,List.set_getElem_self]
   have:=Gm.refc hI1 i e ho _ hrs
   rw [hents] at this
   exact⟨rfl,this.nx hR⟩
  have hpure:=fun z hz w1 (hb:Below w.heap.size w w1)=>hpur2 z hz w1 (h.news hb)
  have hsame:∀w1 lw1 rg cc wv prs,RsIn w1 lw1 (10+10*i) e.q e.Q rg cc wv prs->RsOk w1 lw1 (10+10*i) e.q e.Q w1:=fun w1 lw1 rg cc wv prs hQ=>RsOk.below ⟨rg,cc,wv,prs,hQ⟩ (Below.refl _ _)
  have hst:=hA.st
  by_cases hop:x.op=true
  ·rw [if_pos hop] at hst
   by_cases hob:0<=ob∧ob<8
   ·obtain⟨q,rfl⟩:=Int.eq_ofNat_of_zero_le hob.1
    have hq8:q<8:=by omega
    obtain⟨v,hv1,hv2,hv3,_⟩:=hA.see q hq8
    have hkd8:((seeTo (pendB R) q v R.effs.length).kind:Int)=(q:Int) % 4:=by rw [hv2];omega
    have hln:e.Q.reps.length=e.S.reps.length:=(hR i e ho).len.symm
    by_cases hkd:1<=op∧op<=6∧(q:Int) % 4=Wv.rKind op
    ·obtain⟨o1,o6,hk4⟩:=hkd
     have hmost:=zwp o1 o6 (hkd8.trans hk4) a b
     have hbd:=Ob.bound_mono (hA.vbound hv1) (show 200<=1000000 by omega)
     obtain⟨m1,_⟩:=hA.mk1 q hq8
     have hdoc:∀w1 lw1 rg cc wv prs,RsIn w1 lw1 (10+10*i) e.q e.Q rg cc wv prs->Calls Tryz.prog 84 #[wpV (some e),I k,I op,I q,I a,I b] w1 fun y w2=>DoOk w1 lw1 (10+10*i) e.q e.Q k x op q ((seeTo (pendB R) q v R.effs.length).answer op a b) y w2:=by
      intro w1 lw1 rg cc wv prs hQ
      obtain⟨hr',dv,ev,hrr⟩:=hQ.prl hQr
      obtain⟨ea,ec,rfl⟩:=zar hrr.effs.row
      exact zzw k q x op a b _ _ hQ (by omega) hQr (by rw [hln];exact hA.bsok) hA.el hop dv ea ec hr' hrr (by rw [hln];exact hA.sees q w1 ea ec) hq8 o1 o6 hk4 hv3 m1 (hkd8.trans hk4) hbd
     have hQk:({e.Q with reps:=e.Q.reps.set k x}:Rs)=e.Q:=by
      obtain⟨hk1,hk2⟩:=List.getElem?_eq_some_iff.1 hQr
      rw [←hk2,List.set_getElem_self]
     have hsta:∀z:Int,(∀x' z',DoRel x x' op q ((seeTo (pendB R) q v R.effs.length).answer op a b) z'->z'=z∧x'=x)->∀w1 lw1 rg cc wv prs,RsIn w1 lw1 (10+10*i) e.q e.Q rg cc wv prs->Calls Tryz.prog 84 #[wpV (some e),I k,I op,I q,I a,I b] w1 fun y w2=>y= .returned (I z)∧RsOk w1 lw1 (10+10*i) e.q e.Q w2:=by
      intro z hz w1 lw1 rg cc wv prs hQ
      refine(hdoc w1 lw1 rg cc wv prs hQ).mono ?_
      rintro y w2 ⟨z',x',rfl,hrs,hrel⟩
      obtain⟨rfl,rfl⟩:=hz x' z' hrel
      rw [hQk] at hrs
      exact⟨rfl,hrs⟩
     by_cases her:((seeTo (pendB R) q v R.effs.length).answer op a b).err=0
     ·by_cases hls:(((seeTo (pendB R) q v R.effs.length).answer op a b).ds.length:Int)<Wv.rLeastD op
      ·refine(zsh (owns i) e.s rg cc pp ch pv prs e.S k R op a b q v w w0 eb ef hen hS hSr hup hst ⟨o1,o6⟩ hls hk4 her hv1).mono ?_
       rintro y w1 ⟨rfl,hso⟩
       have hG1:=Gm.prog hI i e ho _ hso
       have hents:ents.set i (some {e with S:=e.S})=ents:=by
        obtain⟨hk1,hk2⟩:=List.getElem?_eq_some_iff.1 ho
        show ents.set i (some e)=ents
        rw [←hk2,List.set_getElem_self]
       rw [hents] at hG1
       refine⟨0,rfl,hG1.kz,hpur2 0 (hsta 0 ?_) w1 hG1⟩
       rintro x' z' (⟨q1,q2,q3⟩ | ⟨q1,q2,q3,q4⟩ | ⟨q1,q2,q3,q4,q5⟩ | ⟨q1,q2,q3,q4,q5⟩)
       ·exact absurd her q1
       ·exact⟨q3,q4⟩
       ·exact absurd hls q2
       ·exact absurd hls q2
      ·by_cases hbg:(((seeTo (pendB R) q v R.effs.length).answer op a b).ds.length:Int)>Wv.rMostD op∨es.length=5
       ·refine(zgb hS hr hSr hup.up op q a b 12 (fun w1=>Below w.heap.size w w1) (zzc (owns i) (1+11*k) prs[k] R cg cc' hp mv hv ev hs es op a b q v w w0 eb ef hen hrp hst ⟨o1,o6⟩ _ rfl hls hbg hk4 her hv1 hup.ok.obs8 hup.hl hup.n0 hup.n1 hup.hs0 hup.ok.time0 hup.ht1 (5*sumN R.clock) hup.hN (hup.ok.bd v (List.mem_of_getElem? hv1)) hup.hv)).mono ?_
        rintro y w1 ⟨rfl,hb⟩
        refine⟨12,rfl,(h.news hb).kz,hpure 12 (hsta 12 ?_) w1 hb⟩
        rintro x' z' (⟨q1,q2,q3⟩ | ⟨q1,q2,q3,q4⟩ | ⟨q1,q2,q3,q4,q5⟩ | ⟨q1,q2,q3,q4,q5⟩)
        ·exact absurd her q1
        ·exact absurd q2 hls
        ·exact⟨q4,q5⟩
        ·exact absurd (hbg.elim (fun g=> .inr (hmost.1 g)) (fun g=> .inl (by omega))) q3
       ·have hn5:R.effs.length<5:=by
         have:=hA.el
         have:es.length ≠ 5:=fun g=>hbg (.inr g)
         omega
        have hms:¬(((seeTo (pendB R) q v R.effs.length).answer op a b).ds.length:Int)>Wv.rMostD op:=fun g=>hbg (.inl g)
        refine(zyh (owns i) e.s rg cc pp ch pv prs e.S k R op a b q v w w0 eb ef hen hS hSr hup hst ⟨o1,o6⟩ hn5 hls hms hk4 her hv1).mono ?_
        rintro y w1 ⟨rfl,hso⟩
        have hil:=(List.getElem?_eq_some_iff.1 ho).1
        have hG1:=Gm.prog hI i e ho _ hso
        refine⟨0,rfl,hG1.kz, ?_⟩
        have ho1:(ents.set i (some {e with S:={e.S with reps:=e.S.reps.set k (putR R op q a b v)}}))[i]?=some (some {e with S:={e.S with reps:=e.S.reps.set k (putR R op q a b v)}}):=List.getElem?_set_self hil
        obtain⟨owns1,lw1,oa1,oc1,hI1,_,_,rg2,cc2,wv2,prs2,hQ⟩:=hG1.ent ho1
        refine(hdoc w1 lw1 rg2 cc2 wv2 prs2 hQ).mono ?_
        rintro y w2 ⟨z',x',rfl,hrs,hrel⟩
        rcases hrel with⟨q1,q2,q3⟩ | ⟨q1,q2,q3,q4⟩ | ⟨q1,q2,q3,q4,q5⟩ | ⟨q1,q2,q3,rfl,m,hm,rfl⟩
        ·exact absurd her q1
        ·exact absurd q2 hls
        ·exact absurd q3 (fun g=>hbg (g.elim (fun g=> .inr (by have:=hA.el;omega)) (fun g=> .inl (hmost.2 g))))
        ·refine⟨rfl,_, ?_,Gm.refc hI1 i _ ho1 _ hrs, ?_⟩
         ·exact⟨by rw [List.length_set,List.length_set],(zcj ho1 (by rfl) (by rfl)).trans (zcj ho (by rfl) (by rfl))⟩
         ·rw [List.set_set]
          exact hR.set i ((hR i e ho).put k _ _ _ _ (hA.put hop (by omega) op q a b v hq8 o1 o6 hk4 hv1 her hls hms m hm))
     ·refine(zgb hS hr hSr hup.up op q a b _ (fun w1=>Below w.heap.size w w1) (zzb (owns i) (1+11*k) prs[k] R cg cc' hp mv hv ev hs es op a b q v w w0 eb ef hen hrp hst ⟨o1,o6⟩ _ rfl hk4 her hv1 hup.ok.obs8 hup.hl hup.n0 hup.n1 hup.hs0 hup.ok.time0 hup.ht1 (5*sumN R.clock) hup.hN (hup.ok.bd v (List.mem_of_getElem? hv1)) hup.hv)).mono ?_
      rintro y w1 ⟨rfl,hb⟩
      refine⟨_,rfl,(h.news hb).kz,hpure _ (hsta _ ?_) w1 hb⟩
      rintro x' z' (⟨q1,q2,q3⟩ | ⟨q1,q2,q3,q4⟩ | ⟨q1,q2,q3,q4,q5⟩ | ⟨q1,q2,q3,q4,q5⟩)
      ·exact⟨q2,q3⟩
      ·exact absurd q1 her
      ·exact absurd q1 her
      ·exact absurd q1 her
    ·have hno:Calls Tryz.prog 43 #[.pointer (some ⟨prs[k],0,none⟩),I op,I q,I a,I b] w fun e w'=>e= .returned (I 9)∧Below w.heap.size w w':=by
      by_cases hop6:1<=op∧op<=6
      ·exact zq4 (owns i) (1+11*k) prs[k] R cg cc' hp mv hv ev hs es op a b q v w w0 eb ef hen hrp hst hop6 (fun g=>hkd ⟨hop6.1,hop6.2,g⟩) hv1 hup.ok.obs8 hup.hl hup.n0 hup.n1 hup.hs0 hup.ok.time0 hup.ht1 (5*sumN R.clock) hup.hN (hup.ok.bd v (List.mem_of_getElem? hv1)) hup.hv
      ·exact zxx (owns i) (1+11*k) prs[k] R cg cc' hp mv hv ev hs es op a b q v w w0 eb ef hen hrp hst hop6 hv1 hup.ok.obs8 hup.hl hup.n0 hup.n1 hup.hs0 hup.ok.time0 hup.ht1 (5*sumN R.clock) hup.hN (hup.ok.bd v (List.mem_of_getElem? hv1)) hup.hv
     refine(zgb hS hr hSr hup.up op q a b 9 (fun w1=>Below w.heap.size w w1) hno).mono ?_
     rintro y w1 ⟨rfl,hb⟩
     exact⟨9,rfl,(h.news hb).kz,hpure 9 (fun w1 lw1 rg cc wv prs hQ=>(zv6 k q x op a b hQ hQr hop hq8 hkd).mono (by rintro y w2 ⟨rfl,rfl⟩;exact⟨rfl,hsame _ _ _ _ _ _ hQ⟩)) w1 hb⟩
   ·refine(zgb hS hr hSr hup.up op ob a b 8 (fun w1=>Below w.heap.size w w1) (zy9 (owns i) (1+11*k) prs[k] R cg cc' hp mv hv ev hs es op ob a b w hrp hst hup.ok.obs8 hob)).mono ?_
    rintro y w1 ⟨rfl,hb⟩
    exact⟨8,rfl,(h.news hb).kz,hpure 8 (fun w1 lw1 rg cc wv prs hQ=>(zzx k x op ob a b hQ hQr hop hob).mono (by rintro y w2 ⟨rfl,rfl⟩;exact⟨rfl,hsame _ _ _ _ _ _ hQ⟩)) w1 hb⟩
  ·rw [if_neg hop] at hst
   refine(zgb hS hr hSr hup.up op ob a b 7 (fun w1=>w1=w) (zza (owns i) (1+11*k) prs[k] R cg cc' hp mv hv ev hs es op ob a b w hrp (by omega))).mono ?_
   rintro y w1 ⟨rfl,rfl⟩
   exact⟨7,rfl,h.kz,hpure 7 (fun w1 lw1 rg cc wv prs hQ=>(zrp op ob a b (zfe k x hQ hQr (by simpa using hop))).mono (by rintro y w2 ⟨rfl,rfl⟩;exact⟨rfl,hsame _ _ _ _ _ _ hQ⟩)) w1 (Below.refl _ _)⟩
end
section
variable {n r : Nat} {R : Rp} {x : Rr}
theorem AlR.tree(h:AlR n r R x){k:Nat}(hk:k<8)(h3:k % 4=3):(treeK (dmK x r k) ((dmK x r k).length+1) ⟨0,0,0⟩).length<=200:=by
 obtain⟨o,h1,h2,h4,_⟩:=h.see k hk
 have hb:=h.vbound h1
 generalize seeTo (pendB R) k o R.effs.length=v at *
 cases v with
 | list ls=>
  have h4:ls=(treeT (dmK x r k) ⟨0,0,0⟩).map (elK (dmK x r k)):=h4
  have hb:ls.length<=200:=hb
  rw [h4,List.length_map] at hb
  exact hb
 | counter m=>rw [h3] at h2;cases h2
 | set m=>rw [h3] at h2;cases h2
 | reg m=>rw [h3] at h2;cases h2
theorem AlR.comes(h:AlR n r R x){k:Nat}(hk:k<8):(zd5 (dmK x r k) (k % 4)).length<=1000:=by
 have h4:k % 4=0∨k % 4=1∨k % 4=2∨k % 4=3:=by omega
 have hd:=(h.dm k).1
 rcases h4 with e | e | e | e
 ·rw [e];show 1<=1000;omega
 ·rw [e]
  show(setK (dmK x r k)).length<=1000
  unfold setK
  refine Nat.le_trans (List.length_filter_le ..) ?_
  rw [List.length_map,List.length_range]
  omega
 ·rw [e]
  show((livK (dmK x r k) 4 4).map _).length<=1000
  rw [List.length_map]
  have:=zff (dmK x r k) 4 4
  omega
 ·have ht:=h.tree hk e
  rw [e]
  show((zau (dmK x r k)).map _).length<=1000
  rw [List.length_map]
  unfold zau
  refine Nat.le_trans (List.length_filter_le ..) ?_
  omega
theorem AlR.loglen(h:AlR n r R x):x.log.length<=10000000:=by
 rw [←h.log]
 have h1:=h.ok.logl
 have h2:=h.ok.sum
 omega
end
def TwoL(Z:List (Nat×Obj))(av:Value)(w0:World)(eb ef:Addr)(G:Nat)(ents:List (Option Ent))(os:List Ow)(many:Int)(w:World)(v v':Value)(w2:World):Prop:=∃(l:List Int) (la la':Option Addr) (lc lc':Nat),l.length<=1000000∧v= .slice la l.length lc∧v'= .slice la' l.length lc'∧w2.ownsRow w.heap.size 3 1 v l.length (l.map I)∧At w2 la' (l.map I)∧Gm Z av w0 w eb ef G ents os many∧Below w.heap.size w w2
section
variable {Z : List (Nat × Obj)} {av : Value} {w0 w : World} {eb ef : Addr} {G : Nat} {ents : List (Option Ent)} {os : List Ow} {many : Int}
theorem TwoL.nil{w2:World}(h:Gm Z av w0 w eb ef G ents os many)(hb:Below w.heap.size w w2):TwoL Z av w0 eb ef G ents os many w (.slice none 0 0) (.slice none 0 0) w2:=⟨[],none,none,0,0,by simp,rfl,rfl,World.ownsRow_nil _ _ _ _,zaw (World.ownsRow_nil w2 0 3 1),h,hb⟩
theorem TwoL.two{w1 w2:World}{l:List Int}{v v':Value}(h:Gm Z av w0 w eb ef G ents os many)(hl:l.length<=1000000)(h1:w1.ownsRow w.heap.size 3 1 v l.length (l.map I))(hb:Below w.heap.size w w1)(h2:w2.ownsRow w1.heap.size 3 1 v' l.length (l.map I))(hb2:Below w1.heap.size w1 w2):TwoL Z av w0 eb ef G ents os many w v v' w2:=by
 obtain⟨la,lc,rfl⟩:=zar h1
 obtain⟨la',lc',rfl⟩:=zar h2
 exact⟨l,la,la',lc,lc',hl,rfl,rfl,zah h1 (fun g e=>hb2.block g (h1.lt g e).2),zaw h2,h,hb.trans (hb2.mono hb.size)⟩
theorem zu4(h:Gm Z av w0 w eb ef G ents os many)(hR:Rels ents)(i:Nat)(o:Option Ent)(ho:ents[i]?=some o)(r ob:Int):
  Calls Tryz.prog 31 #[xpV o,I r,I ob] w fun x w1=>∃v z,x= .returned (.tuple #[v,I z])∧Kz Z w1∧Calls Tryz.prog 87 #[wpV o,I r,I ob] w1 fun y w2=>∃v',y= .returned (.tuple #[v',I z])∧TwoL Z av w0 eb ef G ents os many w v v' w2:=by
 rcases h.cases hR ho r with⟨z,b1,b2,_⟩ | ⟨e,k,R,x,rfl,rfl,hSr,hQr,hA⟩
 ·refine(zse ob b1.up).mono ?_
  rintro x w1 ⟨rfl,rfl⟩
  exact⟨_,z,rfl,h.kz,(zs3 ob b2).mono (by rintro y w2 ⟨rfl,rfl⟩;exact⟨_,rfl,TwoL.nil h (Below.refl _ _)⟩)⟩
 ·obtain⟨owns,lw,oa,oc,hI,⟨rg,cc,pp,ch,pv,prs,hS⟩,hen,_⟩:=h.ent ho
  have hln:e.Q.reps.length=e.S.reps.length:=(hR i e ho).len.symm
  by_cases hob:0<=ob∧ob<8
  ·obtain⟨q,rfl⟩:=Int.eq_ofNat_of_zero_le hob.1
   have hq8:q<8:=by omega
   obtain⟨v,hv1,hv2,hv3,hv4⟩:=hA.see q hq8
   refine(zsf (owns i) e.s rg cc pp ch pv prs e.S k R q v w hS hSr hA.up hv1).mono ?_
   rintro y w1 ⟨u,rfl,hu,hb⟩
   rw [hv4] at hu
   refine⟨u,0,rfl,(h.news hb).kz, ?_⟩
   obtain⟨owns1,lw1,oa1,oc1,hI1,_,_,rg2,cc2,wv2,prs2,hQ⟩:=(h.news hb).ent ho
   obtain⟨hr',dv,ev,hrr⟩:=hQ.prl hQr
   obtain⟨ea,ec,rfl⟩:=zar hrr.effs.row
   refine(zvy k q x (dmK x k q) hQ hQr (by rw [hln];exact hA.bsok) hA.el dv ea ec hr' hrr (by rw [hln];exact hA.sees q w1 ea ec) hq8 (fun m hm=>by have:=(hA.dm q).2 m hm;omega) (fun h3=>by have:=hA.tree hq8 h3;omega)).mono ?_
   rintro y w2 ⟨u',rfl,hu',hb2⟩
   exact⟨u',rfl,TwoL.two h (by have:=hA.comes hq8;omega) hu hb hu' hb2⟩
  ·refine(zvb hS hSr hA.up ob hob).mono ?_
   rintro y w1 ⟨rfl,hb⟩
   obtain⟨owns1,lw1,oa1,oc1,hI1,_,_,rg2,cc2,wv2,prs2,hQ⟩:=(h.news hb).ent ho
   exact⟨_,8,rfl,(h.news hb).kz,(zvz k x ob hQ hQr hob).mono (by rintro y w2 ⟨rfl,rfl⟩;exact⟨_,rfl,TwoL.nil h hb⟩)⟩
theorem zrd(h:Gm Z av w0 w eb ef G ents os many)(hR:Rels ents)(i:Nat)(o:Option Ent)(ho:ents[i]?=some o)(r:Int):
  Calls Tryz.prog 22 #[xpV o,I r] w fun x w1=>∃v z,x= .returned (.tuple #[v,I z])∧Kz Z w1∧Calls Tryz.prog 90 #[wpV o,I r] w1 fun y w2=>∃v',y= .returned (.tuple #[v',I z])∧TwoL Z av w0 eb ef G ents os many w v v' w2:=by
 rcases h.cases hR ho r with⟨z,b1,b2,_⟩ | ⟨e,k,R,x,rfl,rfl,hSr,hQr,hA⟩
 ·refine(zot b1).mono ?_
  rintro x w1 ⟨rfl,rfl⟩
  exact⟨_,z,rfl,h.kz,(zpe b2).mono (by rintro y w2 ⟨rfl,rfl⟩;exact⟨_,rfl,TwoL.nil h (Below.refl _ _)⟩)⟩
 ·obtain⟨owns,lw,oa,oc,hI,⟨rg,cc,pp,ch,pv,prs,hS⟩,hen,_⟩:=h.ent ho
  have hln:e.Q.reps.length=e.S.reps.length:=(hR i e ho).len.symm
  have h4:=(hR i e ho).four
  have hcl:R.clock.length=e.S.reps.length:=by rw [hA.clk];exact zfp _ _ _
  have hcn:cntK x.bs e.S.reps.length=R.clock:=by rw [hA.clk];exact hA.bs.cnt _ hA.rlt
  refine(zou (owns i) e.s rg cc pp ch pv prs e.S k R w hS hSr (by omega)).mono ?_
  rintro y w1 ⟨u,rfl,hu,hb⟩
  refine⟨u,0,rfl,(h.news hb).kz, ?_⟩
  obtain⟨owns1,lw1,oa1,oc1,hI1,_,_,rg2,cc2,wv2,prs2,hQ⟩:=(h.news hb).ent ho
  refine(ztd k x hQ hQr (by rw [hln];exact hA.bsok)).mono ?_
  rintro y w2 ⟨g,rfl,hg,hbk,hb2⟩
  obtain⟨la,lc,rfl⟩:=zar hu
  rw [hln,hcn] at hbk
  refine⟨_,rfl,R.clock,la,some ⟨g,0,none⟩,lc,_,by omega,rfl,by rw [hln,hcl],zah hu (fun g e=>hb2.block g (hu.lt g e).2), ?_,h,hb.trans (hb2.mono hb.size)⟩
  intro j z hj
  refine⟨g,0,rfl, ?_⟩
  rw [Nat.zero_add]
  rw [hbk.cell j];simpa using hj
theorem zyc(h:Gm Z av w0 w eb ef G ents os many)(hR:Rels ents)(i:Nat)(o:Option Ent)(ho:ents[i]?=some o)(r:Int):
  Calls Tryz.prog 91 #[xpV o,I r] w fun x w1=>∃(l:List UInt8) (z:Int),x= .returned (.tuple #[.string ⟨l.toArray⟩,I z])∧Kz Z w1∧Calls Tryz.prog 92 #[wpV o,I r] w1 fun y w2=>y= .returned (.tuple #[.string ⟨l.toArray⟩,I z])∧Nx Z av w0 eb ef G ents os many w2:=by
 rcases h.cases hR ho r with⟨z,b1,b2,_⟩ | ⟨e,k,R,x,rfl,rfl,hSr,hQr,hA⟩
 ·refine(zve b1).mono ?_
  rintro x w1 ⟨rfl,rfl⟩
  exact⟨[],z,rfl,h.kz,(zv3 b2).mono (by rintro y w2 ⟨rfl,rfl⟩;exact⟨rfl,h.nx hR⟩)⟩
 ·obtain⟨owns,lw,oa,oc,hI,⟨rg,cc,pp,ch,pv,prs,hS⟩,hen,rg2,cc2,wv2,prs2,hQ⟩:=h.ent ho
  refine(zvf hS hSr).mono ?_
  rintro y w1 ⟨rfl,rfl⟩
  refine⟨R.log,0,rfl,h.kz,(zyp k x hQ hQr).mono ?_⟩
  rintro y w2 ⟨rfl,rfl⟩
  exact⟨by rw [hA.log],h.nx hR⟩
theorem zon(h:Gm Z av w0 w eb ef G ents os many)(hIt:zay)(hR:Rels ents)(i:Nat)(o:Option Ent)(ho:ents[i]?=some o)(r:Int):
  Calls Tryz.prog 21 #[xpV o,I r] w fun x w1=>∃s z,x= .returned (.tuple #[I s,I z])∧Kz Z w1∧Calls Tryz.prog 86 #[wpV o,I r] w1 fun y w2=>y= .returned (.tuple #[I s,I z])∧Nx Z av w0 eb ef G ents os many w2:=by
 rcases h.cases hR ho r with⟨z,b1,_,b3⟩ | ⟨e,k,R,x,rfl,rfl,hSr,hQr,hA⟩
 ·refine(zmg b1.up).mono ?_
  rintro x w1 ⟨rfl,rfl⟩
  exact⟨0,z,rfl,h.kz,(zhj b3).mono (by rintro y w2 ⟨rfl,rfl⟩;exact⟨rfl,h.nx hR⟩)⟩
 ·obtain⟨owns,lw,oa,oc,hI,⟨rg,cc,pp,ch,pv,prs,hS⟩,hen,_⟩:=h.ent ho
  have hln:e.Q.reps.length=e.S.reps.length:=(hR i e ho).len.symm
  have hil:=(List.getElem?_eq_some_iff.1 ho).1
  have hst:=hA.st
  have hdr:=hA.draft
  by_cases hop:x.op=true
  ·rw [if_pos hop] at hst
   have hdoc:∀w1 lw1 rg cc wv prs,RsIn w1 lw1 (10+10*i) e.q e.Q rg cc wv prs->Calls Tryz.prog 86 #[wpV (some e),I k] w1 fun y w2=>∃ea ec,CmtOk w1 lw1 (10+10*i) e.q e.Q k x e.S.reps.length ea ec y w2:=by
    intro w1 lw1 rg cc wv prs hQ
    obtain⟨hr',dv,ev,hrr⟩:=hQ.prl hQr
    obtain⟨ea,ec,rfl⟩:=zar hrr.effs.row
    refine(zpd k x hQ (by omega) hQr (by rw [hln];exact hA.bsok) hop dv ea ec hr' hrr (fun he=> ?_) hA.loglen).mono (fun y w2 hc=>⟨ea,ec,by rw [hln] at hc;exact hc⟩)
    rw [hln,hdr]
    exact hA.head (hA.opn hop) (by rw [hA.effs];exact fun q=>he (List.map_eq_nil_iff.1 q))
   by_cases hes:R.effs= []
   ·have hxs:x.es= []:=by have:=hA.effs;rw [hes] at this;exact List.map_eq_nil_iff.1 this.symm
    refine(zlh (owns i) e.s rg cc pp ch pv prs e.S k R w w0 eb ef hen hS hSr hA.up hst hes).mono ?_
    rintro y w1 ⟨rfl,hso⟩
    have hG1:=Gm.prog hI i e ho _ hso
    refine⟨0,0,rfl,hG1.kz, ?_⟩
    have ho1:(ents.set i (some {e with S:={e.S with reps:=e.S.reps.set k (endR R)}}))[i]?=some (some {e with S:={e.S with reps:=e.S.reps.set k (endR R)}}):=List.getElem?_set_self hil
    obtain⟨owns1,lw1,oa1,oc1,hI1,_,_,rg2,cc2,wv2,prs2,hQ⟩:=hG1.ent ho1
    refine(hdoc w1 lw1 rg2 cc2 wv2 prs2 hQ).mono ?_
    rintro y w2 ⟨ea,ec,⟨_,rfl,hrs⟩ | ⟨hne,_⟩⟩
    ·refine⟨rfl,_, ?_,Gm.refc hI1 i _ ho1 _ hrs, ?_⟩
     ·exact⟨by rw [List.length_set,List.length_set],(zcj ho1 (by rfl) (by rfl)).trans (zcj ho (by rfl) (by rfl))⟩
     ·rw [List.set_set]
      exact hR.set i ((hR i e ho).put k _ _ _ _ hA.abort)
    ·exact absurd hxs hne
   ·have hxs:x.es ≠ []:=fun q=>hes (by rw [hA.effs,q];rfl)
    refine(zmh (owns i) e.s rg cc pp ch pv prs e.S k R w w0 eb ef hIt hen hS hSr hA.up hst hes (hA.head (hA.opn hop) hes)).mono ?_
    rintro y w1 ⟨rfl,hso⟩
    have hG1:=Gm.prog hI i e ho _ hso
    refine⟨_,0,rfl,hG1.kz, ?_⟩
    have ho1:(ents.set i (some {e with S:=⟨e.S.reps.set k (zc5 R),sprA e.S.msgs k (Wv.frameB (pendB R)) e.S.reps.length⟩}))[i]?=some (some {e with S:=⟨e.S.reps.set k (zc5 R),sprA e.S.msgs k (Wv.frameB (pendB R)) e.S.reps.length⟩}):=List.getElem?_set_self hil
    obtain⟨owns1,lw1,oa1,oc1,hI1,_,_,rg2,cc2,wv2,prs2,hQ⟩:=hG1.ent ho1
    refine(hdoc w1 lw1 rg2 cc2 wv2 prs2 hQ).mono ?_
    rintro y w2 ⟨ea,ec,⟨hne,_⟩ | ⟨_,g,rfl,hrs⟩⟩
    ·exact absurd hne hxs
    ·refine⟨by rw [hdr],_, ?_,Gm.refc hI1 i _ ho1 _ hrs, ?_⟩
     ·exact⟨by rw [List.length_set,List.length_set],(zcj ho1 (by rfl) (by rfl)).trans (zcj ho (by rfl) (by rfl))⟩
     ·rw [List.set_set]
      exact hR.set i ((hR i e ho).put k _ _ _ _ (hA.commit hop hes g ea ec _))
  ·rw [if_neg hop] at hst
   refine(zli hS hSr hA.up (by omega)).mono ?_
   rintro y w1 ⟨rfl,hb⟩
   obtain⟨owns1,lw1,oa1,oc1,hI1,_,_,rg2,cc2,wv2,prs2,hQ⟩:=(h.news hb).ent ho
   exact⟨0,7,rfl,(h.news hb).kz,(zhj (zfe k x hQ hQr (by simpa using hop))).mono (by rintro y w2 ⟨rfl,rfl⟩;exact⟨rfl,(h.news hb).nx hR⟩)⟩
end
structure Wop where
 k:Int
 s:Int
 r:Int
 a:Int
 b:Int
 c:Int
 d:Int
def Wop.cells(p:Wop):Array Value:= #[I p.k,I p.s,I p.r,I p.a,I p.b,I p.c,I p.d]
section
variable {Z : List (Nat × Obj)} {av : Value} {w0 w : World} {eb ef : Addr} {G : Nat} {ents : List (Option Ent)} {os : List Ow} {many : Int}
def bxs(w:World)(o:Option Ent)(p:Wop):List (Nat×Obj):= [(w.heap.size, .cells #[xpV o,wpV o] 75),(w.heap.size+1, .cells p.cells 70)]
theorem Gm.box(h:Gm Z av w0 w eb ef G ents os many)(o:Option Ent)(p:Wop):Gm (bxs w o p++Z) av w0 ((w.alloc (.cells #[xpV o,wpV o] 75)).alloc (.cells p.cells 70)) eb ef G ents os many:=by
 have b1:=(Below.refl w.heap.size w).alloc (Nat.le_refl _) (.cells #[xpV o,wpV o] 75)
 refine h.more (b1.alloc b1.size _) _ (fun q hq=> ?_)
 rcases List.mem_cons.1 hq with rfl | hq
 ·exact⟨Nat.le_refl _,Blk.alloc (heap_alloc_new w _) _⟩
 ·rcases List.mem_cons.1 hq with rfl | hq
  ·exact⟨by show w.heap.size<=w.heap.size+1;omega,Blk.second w _ _ _⟩
  ·cases hq
theorem Kz.boxes{w':World}{o:Option Ent}{p:Wop}(h:Kz (bxs w o p++Z) w'):Blk w' w.heap.size #[xpV o,wpV o] 75∧Blk w' (w.heap.size+1) p.cells 70:=⟨h (w.heap.size, .cells #[xpV o,wpV o] 75) (by simp [bxs]),h (w.heap.size+1, .cells p.cells 70) (by simp [bxs])⟩
theorem Nx.less{Y:List (Nat×Obj)}{w':World}(h:Nx (Y++Z) av w0 eb ef G ents os many w'):Nx Z av w0 eb ef G ents os many w':=by
 obtain⟨ents',h1,h2,h3⟩:=h
 exact⟨ents',h1,h2.less,h3⟩
theorem zor(h:Gm Z av w0 w eb ef G ents os many)(hR:Rels ents)(i:Nat)(o:Option Ent)(ho:ents[i]?=some o)(p:Wop)(hk:p.k=2):
  Calls Tryz.prog 57 #[.agg #[xpV o,wpV o], .agg p.cells] w fun e w'=>e= .returned (.bool true)∧Nx Z av w0 eb ef G ents os many w':=by
 have HB:Hid (Gm (bxs w o p++Z) av w0 ((w.alloc (.cells #[xpV o,wpV o] 75)).alloc (.cells p.cells 70)) eb ef G ents os many):=h.box o p
 have HC:Hid (Calls Tryz.prog 16 #[xpV o,I p.r] _ _):=zre HB.out hR i o ho p.r
 clear h hR ho HB
 have HZ:Hid (∀w',Kz (bxs w o p++Z) w'->Blk w' w.heap.size #[xpV o,wpV o] 75∧Blk w' (w.heap.size+1) p.cells 70):=fun w' hz=>hz.boxes
 generalize bxs w o p=Y at *
 obtain⟨k,s,r,a,b,c,d⟩:=p
 have hk:k=2:=hk
 subst hk
 simp only [Wop.cells] at *
 generalize xpV o=xp at *
 generalize wpV o=wp at *
 go_enter Tryz.func57,Tryz.ntmps57
 go_wp2_with fail
 refine HC.out.mono ?_
 rintro e w1 ⟨z,rfl,hz,hc⟩
 have HD:Hid (Calls _ _ _ _ _):=hc
 obtain⟨k1,k2⟩:=HZ.out w1 hz
 have lt1:w.heap.size<w1.heap.size:=k1.lt
 have lt2:w.heap.size+1<w1.heap.size:=k2.lt
 have c1:w1.cell? ⟨w.heap.size,1,none⟩=some wp:=k1.cell 1
 have d2:w1.cell? ⟨w.heap.size+1,2,none⟩=some (I r):=k2.cell 2
 have d3:w1.cell? ⟨w.heap.size+1,3,none⟩=some (I a):=k2.cell 3
 have d4:w1.cell? ⟨w.heap.size+1,4,none⟩=some (I b):=k2.cell 4
 have d5:w1.cell? ⟨w.heap.size+1,5,none⟩=some (I c):=k2.cell 5
 have d6:w1.cell? ⟨w.heap.size+1,6,none⟩=some (I d):=k2.cell 6
 clear hz hc k1 k2 HC HZ
 go_wp2_with fail
 refine HD.out.mono ?_
 rintro e w2 ⟨rfl,hn⟩
 have HN:Hid (Nx Z av w0 eb ef G ents os many w2):=hn.less
 clear hn HD lt1 lt2 c1 d2 d3 d4 d5 d6
 go_wp2
 go_ret
 exact⟨rfl,HN.out⟩
theorem zyg(h:Gm Z av w0 w eb ef G ents os many)(hR:Rels ents)(i:Nat)(o:Option Ent)(ho:ents[i]?=some o)(p:Wop)(hk:p.k=3):
  Calls Tryz.prog 57 #[.agg #[xpV o,wpV o], .agg p.cells] w fun e w'=>e= .returned (.bool true)∧Nx Z av w0 eb ef G ents os many w':=by
 have HB:Hid (Gm (bxs w o p++Z) av w0 ((w.alloc (.cells #[xpV o,wpV o] 75)).alloc (.cells p.cells 70)) eb ef G ents os many):=h.box o p
 have HC:Hid (Calls Tryz.prog 18 #[xpV o,I p.r,I p.a,I p.b,I p.c,I p.d] _ _):=zzh HB.out hR i o ho p.r p.a p.b p.c p.d
 clear h hR ho HB
 have HZ:Hid (∀w',Kz (bxs w o p++Z) w'->Blk w' w.heap.size #[xpV o,wpV o] 75∧Blk w' (w.heap.size+1) p.cells 70):=fun w' hz=>hz.boxes
 generalize bxs w o p=Y at *
 obtain⟨k,s,r,a,b,c,d⟩:=p
 have hk:k=3:=hk
 subst hk
 simp only [Wop.cells] at *
 generalize xpV o=xp at *
 generalize wpV o=wp at *
 go_enter Tryz.func57,Tryz.ntmps57
 go_wp2_with fail
 refine HC.out.mono ?_
 rintro e w1 ⟨z,rfl,hz,hc⟩
 have HD:Hid (Calls _ _ _ _ _):=hc
 obtain⟨k1,k2⟩:=HZ.out w1 hz
 have lt1:w.heap.size<w1.heap.size:=k1.lt
 have lt2:w.heap.size+1<w1.heap.size:=k2.lt
 have c1:w1.cell? ⟨w.heap.size,1,none⟩=some wp:=k1.cell 1
 have d2:w1.cell? ⟨w.heap.size+1,2,none⟩=some (I r):=k2.cell 2
 have d3:w1.cell? ⟨w.heap.size+1,3,none⟩=some (I a):=k2.cell 3
 have d4:w1.cell? ⟨w.heap.size+1,4,none⟩=some (I b):=k2.cell 4
 have d5:w1.cell? ⟨w.heap.size+1,5,none⟩=some (I c):=k2.cell 5
 have d6:w1.cell? ⟨w.heap.size+1,6,none⟩=some (I d):=k2.cell 6
 clear hz hc k1 k2 HC HZ
 go_wp2_with fail
 refine HD.out.mono ?_
 rintro e w2 ⟨rfl,hn⟩
 have HN:Hid (Nx Z av w0 eb ef G ents os many w2):=hn.less
 clear hn HD lt1 lt2 c1 d2 d3 d4 d5 d6
 go_wp2
 go_ret
 exact⟨rfl,HN.out⟩
theorem zos(h:Gm Z av w0 w eb ef G ents os many)(hR:Rels ents)(i:Nat)(o:Option Ent)(ho:ents[i]?=some o)(p:Wop)(hk:p.k=5):
  Calls Tryz.prog 57 #[.agg #[xpV o,wpV o], .agg p.cells] w fun e w'=>e= .returned (.bool true)∧Nx Z av w0 eb ef G ents os many w':=by
 have HB:Hid (Gm (bxs w o p++Z) av w0 ((w.alloc (.cells #[xpV o,wpV o] 75)).alloc (.cells p.cells 70)) eb ef G ents os many):=h.box o p
 have HC:Hid (Calls Tryz.prog 20 #[xpV o,I p.r] _ _):=zrf HB.out hR i o ho p.r
 clear h hR ho HB
 have HZ:Hid (∀w',Kz (bxs w o p++Z) w'->Blk w' w.heap.size #[xpV o,wpV o] 75∧Blk w' (w.heap.size+1) p.cells 70):=fun w' hz=>hz.boxes
 generalize bxs w o p=Y at *
 obtain⟨k,s,r,a,b,c,d⟩:=p
 have hk:k=5:=hk
 subst hk
 simp only [Wop.cells] at *
 generalize xpV o=xp at *
 generalize wpV o=wp at *
 go_enter Tryz.func57,Tryz.ntmps57
 go_wp2_with fail
 refine HC.out.mono ?_
 rintro e w1 ⟨z,rfl,hz,hc⟩
 have HD:Hid (Calls _ _ _ _ _):=hc
 obtain⟨k1,k2⟩:=HZ.out w1 hz
 have lt1:w.heap.size<w1.heap.size:=k1.lt
 have lt2:w.heap.size+1<w1.heap.size:=k2.lt
 have c1:w1.cell? ⟨w.heap.size,1,none⟩=some wp:=k1.cell 1
 have d2:w1.cell? ⟨w.heap.size+1,2,none⟩=some (I r):=k2.cell 2
 have d3:w1.cell? ⟨w.heap.size+1,3,none⟩=some (I a):=k2.cell 3
 have d4:w1.cell? ⟨w.heap.size+1,4,none⟩=some (I b):=k2.cell 4
 have d5:w1.cell? ⟨w.heap.size+1,5,none⟩=some (I c):=k2.cell 5
 have d6:w1.cell? ⟨w.heap.size+1,6,none⟩=some (I d):=k2.cell 6
 clear hz hc k1 k2 HC HZ
 go_wp2_with fail
 refine HD.out.mono ?_
 rintro e w2 ⟨rfl,hn⟩
 have HN:Hid (Nx Z av w0 eb ef G ents os many w2):=hn.less
 clear hn HD lt1 lt2 c1 d2 d3 d4 d5 d6
 go_wp2
 go_ret
 exact⟨rfl,HN.out⟩
theorem zmf(h:Gm Z av w0 w eb ef G ents os many)(hIt:zay)(hR:Rels ents)(i:Nat)(o:Option Ent)(ho:ents[i]?=some o)(p:Wop)(hk:p.k=6):
  Calls Tryz.prog 57 #[.agg #[xpV o,wpV o], .agg p.cells] w fun e w'=>e= .returned (.bool true)∧Nx Z av w0 eb ef G ents os many w':=by
 have HB:Hid (Gm (bxs w o p++Z) av w0 ((w.alloc (.cells #[xpV o,wpV o] 75)).alloc (.cells p.cells 70)) eb ef G ents os many):=h.box o p
 have HC:Hid (Calls Tryz.prog 21 #[xpV o,I p.r] _ _):=zon HB.out hIt hR i o ho p.r
 clear h hR ho HB
 have HZ:Hid (∀w',Kz (bxs w o p++Z) w'->Blk w' w.heap.size #[xpV o,wpV o] 75∧Blk w' (w.heap.size+1) p.cells 70):=fun w' hz=>hz.boxes
 generalize bxs w o p=Y at *
 obtain⟨k,s,r,a,b,c,d⟩:=p
 have hk:k=6:=hk
 subst hk
 simp only [Wop.cells] at *
 generalize xpV o=xp at *
 generalize wpV o=wp at *
 go_enter Tryz.func57,Tryz.ntmps57
 go_wp2_with fail
 refine HC.out.mono ?_
 rintro e w1 ⟨z1,z,rfl,hz,hc⟩
 have HD:Hid (Calls _ _ _ _ _):=hc
 obtain⟨k1,k2⟩:=HZ.out w1 hz
 have lt1:w.heap.size<w1.heap.size:=k1.lt
 have lt2:w.heap.size+1<w1.heap.size:=k2.lt
 have c1:w1.cell? ⟨w.heap.size,1,none⟩=some wp:=k1.cell 1
 have d2:w1.cell? ⟨w.heap.size+1,2,none⟩=some (I r):=k2.cell 2
 have d3:w1.cell? ⟨w.heap.size+1,3,none⟩=some (I a):=k2.cell 3
 have d4:w1.cell? ⟨w.heap.size+1,4,none⟩=some (I b):=k2.cell 4
 have d5:w1.cell? ⟨w.heap.size+1,5,none⟩=some (I c):=k2.cell 5
 have d6:w1.cell? ⟨w.heap.size+1,6,none⟩=some (I d):=k2.cell 6
 clear hz hc k1 k2 HC HZ
 go_wp2_with fail
 refine HD.out.mono ?_
 rintro e w2 ⟨rfl,hn⟩
 have HN:Hid (Nx Z av w0 eb ef G ents os many w2):=hn.less
 clear hn HD lt1 lt2 c1 d2 d3 d4 d5 d6
 go_wp2
 go_ret
 exact⟨rfl,HN.out⟩
end
section
variable {Z : List (Nat × Obj)} {av : Value} {w0 w : World} {eb ef : Addr} {G : Nat} {ents : List (Option Ent)} {os : List Ow} {many : Int}
def Ny(Z:List (Nat×Obj))(av:Value)(w0:World)(eb ef:Addr)(G:Nat)(ents:List (Option Ent))(os:List Ow)(many:Int)(w:World):Prop:=∃os' many',os'.length<=os.length+4∧many'<=many+1∧Nx Z av w0 eb ef G ents os' many' w
theorem Nx.ny(h:Nx Z av w0 eb ef G ents os many w):Ny Z av w0 eb ef G ents os many w:=⟨os,many,by omega,by omega,h⟩
theorem Ny.less{Y:List (Nat×Obj)}{w':World}(h:Ny (Y++Z) av w0 eb ef G ents os many w'):Ny Z av w0 eb ef G ents os many w':=by
 obtain⟨os',m',h1,h2,h3⟩:=h
 exact⟨os',m',h1,h2,h3.less⟩
theorem TwoL.num{w2 w3:World}{v v':Value}(h:TwoL Z av w0 eb ef G ents os many w v v' w2)(hR:Rels ents)(hb3:Below w2.heap.size w2 w3)(hm:many<=1048576)(ho:os.length<=10000000):
  Calls Tryz.prog 89 #[.pointer (some ⟨G,0,none⟩),v] w3 fun e w'=>e= .returned (.tuple #[])∧Ny Z av w0 eb ef G ents os many w':=by
 obtain⟨l,la,la',lc,lc',hl,rfl,rfl,hrow,hat,hG,hb⟩:=h
 obtain⟨owns,lw,oa,oc,hI⟩:=hG
 have hb':Below w.heap.size w w3:=hb.trans (hb3.mono hb.size)
 obtain⟨owns',hI3⟩:=hI.news hb' 1
 have hrow3:=zah hrow (fun g e=>hb3.block g (hrow.lt g e).2)
 refine(zm6 G av many os oa oc la lc l w3 hI3.blk hI3.lst (zbr hrow3 (Nat.zero_le _)) hI3.m0 hm hl ho).mono ?_
 rintro e w4 ⟨rfl,hn⟩
 obtain⟨os',h1,h2⟩:=Gm.num hI3 hl (fun g e=>by
  obtain⟨q1,q2⟩:=hrow3.lt g e
  refine⟨zae _ _ _ _ q1, ?_, ?_, ?_,q2⟩
  ·have:=hI.blk.lt;omega
  ·intro q;have:=(hI.all.lt g q).2;omega
  ·intro q;have:=(hI.lst.lt g q).2;omega) hn
 exact⟨rfl,os',many+1,by omega,by omega,h2.nx hR⟩
theorem TwoL.same{w2:World}{v v':Value}(h:TwoL Z av w0 eb ef G ents os many w v v' w2):Calls Tryz.prog 88 #[v,v'] w2 fun e w'=>e= .returned (.bool true)∧Below w2.heap.size w2 w':=by
 obtain⟨l,la,la',lc,lc',hl,rfl,rfl,hrow,hat,hG,hb⟩:=h
 exact zs0 l la la' lc lc' w2 (zaw hrow) hat (by omega)
theorem ztv(h:Gm Z av w0 w eb ef G ents os many)(hR:Rels ents)(i:Nat)(o:Option Ent)(ho:ents[i]?=some o)(p:Wop)(hk:p.k=4)(hm:many<=1048576)(hol:os.length<=10000000):
  Calls Tryz.prog 58 #[.pointer (some ⟨G,0,none⟩), .agg #[xpV o,wpV o], .agg p.cells] w fun e w'=>e= .returned (.bool true)∧Ny Z av w0 eb ef G ents os many w':=by
 have HB:Hid (Gm (bxs w o p++Z) av w0 ((w.alloc (.cells #[xpV o,wpV o] 75)).alloc (.cells p.cells 70)) eb ef G ents os many):=h.box o p
 have HC:Hid (Calls Tryz.prog 31 #[xpV o,I p.r,I p.a] _ _):=zu4 HB.out hR i o ho p.r p.a
 have HR:Hid (Rels ents):=hR
 have HM:Hid (many<=1048576∧os.length<=10000000):=⟨hm,hol⟩
 clear h hR ho HB hm hol
 have HZ:Hid (∀w',Kz (bxs w o p++Z) w'->Blk w' w.heap.size #[xpV o,wpV o] 75∧Blk w' (w.heap.size+1) p.cells 70):=fun w' hz=>hz.boxes
 generalize bxs w o p=Y at *
 obtain⟨k,s,r,a,b,c,d⟩:=p
 have hk:k=4:=hk
 subst hk
 simp only [Wop.cells] at *
 generalize xpV o=xp at *
 generalize wpV o=wp at *
 go_enter Tryz.func58,Tryz.ntmps58
 go_wp2_with fail
 refine HC.out.mono ?_
 rintro e w1 ⟨z1,z,rfl,hz,hc⟩
 have HD:Hid (Calls _ _ _ _ _):=hc
 obtain⟨k1,k2⟩:=HZ.out w1 hz
 have lt1:w.heap.size<w1.heap.size:=k1.lt
 have lt2:w.heap.size+1<w1.heap.size:=k2.lt
 have c1:w1.cell? ⟨w.heap.size,1,none⟩=some wp:=k1.cell 1
 have d2:w1.cell? ⟨w.heap.size+1,2,none⟩=some (I r):=k2.cell 2
 have d3:w1.cell? ⟨w.heap.size+1,3,none⟩=some (I a):=k2.cell 3
 clear hz hc k1 k2 HC HZ
 go_wp2_with fail
 refine HD.out.mono ?_
 rintro e w2 ⟨v2,rfl,ht⟩
 have HT:Hid (TwoL _ _ _ _ _ _ _ _ _ _ _ _ _):=ht
 have HS:Hid (Calls _ _ _ _ _):=ht.same
 clear ht HD lt1 lt2 c1 d2 d3
 go_wp2_with fail
 refine HS.out.mono ?_
 rintro e w3 ⟨rfl,h3⟩
 have HN:Hid (Calls _ _ _ _ _):=HT.out.num HR.out h3 HM.out.1 HM.out.2
 clear h3 HS HT
 go_wp2_with fail
 refine HN.out.mono ?_
 rintro e w4 ⟨rfl,h4⟩
 have HY:Hid (Ny Z av w0 eb ef G ents os many w4):=h4.less
 clear h4 HN HM HR
 go_wp2
 go_ret
 exact⟨rfl,HY.out⟩
theorem zpv(h:Gm Z av w0 w eb ef G ents os many)(hR:Rels ents)(i:Nat)(o:Option Ent)(ho:ents[i]?=some o)(p:Wop)(hk:p.k=7)(hm:many<=1048576)(hol:os.length<=10000000):
  Calls Tryz.prog 58 #[.pointer (some ⟨G,0,none⟩), .agg #[xpV o,wpV o], .agg p.cells] w fun e w'=>e= .returned (.bool true)∧Ny Z av w0 eb ef G ents os many w':=by
 have HB:Hid (Gm (bxs w o p++Z) av w0 ((w.alloc (.cells #[xpV o,wpV o] 75)).alloc (.cells p.cells 70)) eb ef G ents os many):=h.box o p
 have HC:Hid (Calls Tryz.prog 22 #[xpV o,I p.r] _ _):=zrd HB.out hR i o ho p.r
 have HR:Hid (Rels ents):=hR
 have HM:Hid (many<=1048576∧os.length<=10000000):=⟨hm,hol⟩
 clear h hR ho HB hm hol
 have HZ:Hid (∀w',Kz (bxs w o p++Z) w'->Blk w' w.heap.size #[xpV o,wpV o] 75∧Blk w' (w.heap.size+1) p.cells 70):=fun w' hz=>hz.boxes
 generalize bxs w o p=Y at *
 obtain⟨k,s,r,a,b,c,d⟩:=p
 have hk:k=7:=hk
 subst hk
 simp only [Wop.cells] at *
 generalize xpV o=xp at *
 generalize wpV o=wp at *
 go_enter Tryz.func58,Tryz.ntmps58
 go_wp2_with fail
 refine HC.out.mono ?_
 rintro e w1 ⟨z1,z,rfl,hz,hc⟩
 have HD:Hid (Calls _ _ _ _ _):=hc
 obtain⟨k1,k2⟩:=HZ.out w1 hz
 have lt1:w.heap.size<w1.heap.size:=k1.lt
 have lt2:w.heap.size+1<w1.heap.size:=k2.lt
 have c1:w1.cell? ⟨w.heap.size,1,none⟩=some wp:=k1.cell 1
 have d2:w1.cell? ⟨w.heap.size+1,2,none⟩=some (I r):=k2.cell 2
 have d3:w1.cell? ⟨w.heap.size+1,3,none⟩=some (I a):=k2.cell 3
 clear hz hc k1 k2 HC HZ
 go_wp2_with fail
 refine HD.out.mono ?_
 rintro e w2 ⟨v2,rfl,ht⟩
 have HT:Hid (TwoL _ _ _ _ _ _ _ _ _ _ _ _ _):=ht
 have HS:Hid (Calls _ _ _ _ _):=ht.same
 clear ht HD lt1 lt2 c1 d2 d3
 go_wp2_with fail
 refine HS.out.mono ?_
 rintro e w3 ⟨rfl,h3⟩
 have HN:Hid (Calls _ _ _ _ _):=HT.out.num HR.out h3 HM.out.1 HM.out.2
 clear h3 HS HT
 go_wp2_with fail
 refine HN.out.mono ?_
 rintro e w4 ⟨rfl,h4⟩
 have HY:Hid (Ny Z av w0 eb ef G ents os many w4):=h4.less
 clear h4 HN HM HR
 go_wp2
 go_ret
 exact⟨rfl,HY.out⟩
theorem zw2(h:Gm Z av w0 w eb ef G ents os many)(hR:Rels ents)(i:Nat)(o:Option Ent)(ho:ents[i]?=some o)(p:Wop)(hk:p.k=8)(hm:many<=1048576)(hol:os.length<=10000000):
  Calls Tryz.prog 58 #[.pointer (some ⟨G,0,none⟩), .agg #[xpV o,wpV o], .agg p.cells] w fun e w'=>e= .returned (.bool true)∧Ny Z av w0 eb ef G ents os many w':=by
 have HB:Hid (Gm (bxs w o p++Z) av w0 ((w.alloc (.cells #[xpV o,wpV o] 75)).alloc (.cells p.cells 70)) eb ef G ents os many):=h.box o p
 have HC:Hid (Calls Tryz.prog 91 #[xpV o,I p.r] _ _):=zyc HB.out hR i o ho p.r
 have HR:Hid (Rels ents):=hR
 have HM:Hid (many<=1048576∧os.length<=10000000):=⟨hm,hol⟩
 clear h hR ho HB hm hol
 have HZ:Hid (∀w',Kz (bxs w o p++Z) w'->Blk w' w.heap.size #[xpV o,wpV o] 75∧Blk w' (w.heap.size+1) p.cells 70):=fun w' hz=>hz.boxes
 generalize bxs w o p=Y at *
 obtain⟨k,s,r,a,b,c,d⟩:=p
 have hk:k=8:=hk
 subst hk
 simp only [Wop.cells] at *
 generalize xpV o=xp at *
 generalize wpV o=wp at *
 go_enter Tryz.func58,Tryz.ntmps58
 go_wp2_with fail
 refine HC.out.mono ?_
 rintro e w1 ⟨z1,z,rfl,hz,hc⟩
 have HD:Hid (Calls _ _ _ _ _):=hc
 obtain⟨k1,k2⟩:=HZ.out w1 hz
 have lt1:w.heap.size<w1.heap.size:=k1.lt
 have lt2:w.heap.size+1<w1.heap.size:=k2.lt
 have c1:w1.cell? ⟨w.heap.size,1,none⟩=some wp:=k1.cell 1
 have d2:w1.cell? ⟨w.heap.size+1,2,none⟩=some (I r):=k2.cell 2
 have d3:w1.cell? ⟨w.heap.size+1,3,none⟩=some (I a):=k2.cell 3
 clear hz hc k1 k2 HC HZ
 go_wp2_with fail
 refine HD.out.mono ?_
 rintro e w2 ⟨rfl,hn⟩
 have HY:Hid (Ny Z av w0 eb ef G ents os many w2):=hn.less.ny
 clear hn HD lt1 lt2 c1 d2 d3 HM HR
 go_wp2
 go_ret
 exact⟨rfl,HY.out⟩
end
section
variable {Z : List (Nat × Obj)} {av : Value} {w0 w : World} {eb ef : Addr} {G : Nat} {ents : List (Option Ent)} {os : List Ow} {many : Int}
theorem zq2(h:Gm Z av w0 w eb ef G ents os many)(hR:Rels ents)(i:Nat)(o:Option Ent)(ho:ents[i]?=some o)(p:Wop)(hk:p.k=2):
  Calls Tryz.prog 34 #[.pointer (some ⟨G,0,none⟩), .agg #[xpV o,wpV o], .agg p.cells] w fun e w'=>∃c,e= .returned (.tuple #[.bool true,I c])∧Ny Z av w0 eb ef G ents os many w':=by
 have HB:Hid (Gm (bxs w o p++Z) av w0 ((w.alloc (.cells #[xpV o,wpV o] 75)).alloc (.cells p.cells 70)) eb ef G ents os many):=h.box o p
 have HC:Hid (Calls Tryz.prog 57 #[.agg #[xpV o,wpV o], .agg p.cells] _ _):=zor HB.out hR i o ho p hk
 clear h hR ho HB
 generalize bxs w o p=Y at *
 obtain⟨k,s,r,a,b,c,d⟩:=p
 have hk:k=2:=hk
 subst hk
 simp only [Wop.cells] at *
 generalize xpV o=xp at *
 generalize wpV o=wp at *
 go_enter Tryz.func34,Tryz.ntmps34
 go_wp2_with fail
 refine HC.out.mono ?_
 rintro e w1 ⟨rfl,h1⟩
 have HY:Hid (Ny Z av w0 eb ef G ents os many w1):=h1.less.ny
 clear h1 HC
 go_wp2
 go_ret2
 first | exact⟨_,rfl,HY.out⟩ | exact⟨⟨_,rfl⟩,HY.out⟩
theorem zy8(h:Gm Z av w0 w eb ef G ents os many)(hR:Rels ents)(i:Nat)(o:Option Ent)(ho:ents[i]?=some o)(p:Wop)(hk:p.k=3):
  Calls Tryz.prog 34 #[.pointer (some ⟨G,0,none⟩), .agg #[xpV o,wpV o], .agg p.cells] w fun e w'=>∃c,e= .returned (.tuple #[.bool true,I c])∧Ny Z av w0 eb ef G ents os many w':=by
 have HB:Hid (Gm (bxs w o p++Z) av w0 ((w.alloc (.cells #[xpV o,wpV o] 75)).alloc (.cells p.cells 70)) eb ef G ents os many):=h.box o p
 have HC:Hid (Calls Tryz.prog 57 #[.agg #[xpV o,wpV o], .agg p.cells] _ _):=zyg HB.out hR i o ho p hk
 clear h hR ho HB
 generalize bxs w o p=Y at *
 obtain⟨k,s,r,a,b,c,d⟩:=p
 have hk:k=3:=hk
 subst hk
 simp only [Wop.cells] at *
 generalize xpV o=xp at *
 generalize wpV o=wp at *
 go_enter Tryz.func34,Tryz.ntmps34
 go_wp2_with fail
 refine HC.out.mono ?_
 rintro e w1 ⟨rfl,h1⟩
 have HY:Hid (Ny Z av w0 eb ef G ents os many w1):=h1.less.ny
 clear h1 HC
 go_wp2
 go_ret2
 first | exact⟨_,rfl,HY.out⟩ | exact⟨⟨_,rfl⟩,HY.out⟩
theorem zq3(h:Gm Z av w0 w eb ef G ents os many)(hR:Rels ents)(i:Nat)(o:Option Ent)(ho:ents[i]?=some o)(p:Wop)(hk:p.k=5):
  Calls Tryz.prog 34 #[.pointer (some ⟨G,0,none⟩), .agg #[xpV o,wpV o], .agg p.cells] w fun e w'=>∃c,e= .returned (.tuple #[.bool true,I c])∧Ny Z av w0 eb ef G ents os many w':=by
 have HB:Hid (Gm (bxs w o p++Z) av w0 ((w.alloc (.cells #[xpV o,wpV o] 75)).alloc (.cells p.cells 70)) eb ef G ents os many):=h.box o p
 have HC:Hid (Calls Tryz.prog 57 #[.agg #[xpV o,wpV o], .agg p.cells] _ _):=zos HB.out hR i o ho p hk
 clear h hR ho HB
 generalize bxs w o p=Y at *
 obtain⟨k,s,r,a,b,c,d⟩:=p
 have hk:k=5:=hk
 subst hk
 simp only [Wop.cells] at *
 generalize xpV o=xp at *
 generalize wpV o=wp at *
 go_enter Tryz.func34,Tryz.ntmps34
 go_wp2_with fail
 refine HC.out.mono ?_
 rintro e w1 ⟨rfl,h1⟩
 have HY:Hid (Ny Z av w0 eb ef G ents os many w1):=h1.less.ny
 clear h1 HC
 go_wp2
 go_ret2
 first | exact⟨_,rfl,HY.out⟩ | exact⟨⟨_,rfl⟩,HY.out⟩
theorem zn8(h:Gm Z av w0 w eb ef G ents os many)(hIt:zay)(hR:Rels ents)(i:Nat)(o:Option Ent)(ho:ents[i]?=some o)(p:Wop)(hk:p.k=6):
  Calls Tryz.prog 34 #[.pointer (some ⟨G,0,none⟩), .agg #[xpV o,wpV o], .agg p.cells] w fun e w'=>∃c,e= .returned (.tuple #[.bool true,I c])∧Ny Z av w0 eb ef G ents os many w':=by
 have HB:Hid (Gm (bxs w o p++Z) av w0 ((w.alloc (.cells #[xpV o,wpV o] 75)).alloc (.cells p.cells 70)) eb ef G ents os many):=h.box o p
 have HC:Hid (Calls Tryz.prog 57 #[.agg #[xpV o,wpV o], .agg p.cells] _ _):=zmf HB.out hIt hR i o ho p hk
 clear h hR ho HB
 generalize bxs w o p=Y at *
 obtain⟨k,s,r,a,b,c,d⟩:=p
 have hk:k=6:=hk
 subst hk
 simp only [Wop.cells] at *
 generalize xpV o=xp at *
 generalize wpV o=wp at *
 go_enter Tryz.func34,Tryz.ntmps34
 go_wp2_with fail
 refine HC.out.mono ?_
 rintro e w1 ⟨rfl,h1⟩
 have HY:Hid (Ny Z av w0 eb ef G ents os many w1):=h1.less.ny
 clear h1 HC
 go_wp2
 go_ret2
 first | exact⟨_,rfl,HY.out⟩ | exact⟨⟨_,rfl⟩,HY.out⟩
theorem zup(h:Gm Z av w0 w eb ef G ents os many)(hR:Rels ents)(i:Nat)(o:Option Ent)(ho:ents[i]?=some o)(p:Wop)(hk:p.k=4)(hm:many<=1048576)(hol:os.length<=10000000):
  Calls Tryz.prog 34 #[.pointer (some ⟨G,0,none⟩), .agg #[xpV o,wpV o], .agg p.cells] w fun e w'=>∃c,e= .returned (.tuple #[.bool true,I c])∧Ny Z av w0 eb ef G ents os many w':=by
 have HB:Hid (Gm (bxs w o p++Z) av w0 ((w.alloc (.cells #[xpV o,wpV o] 75)).alloc (.cells p.cells 70)) eb ef G ents os many):=h.box o p
 have HC:Hid (Calls Tryz.prog 58 #[.pointer (some ⟨G,0,none⟩), .agg #[xpV o,wpV o], .agg p.cells] _ _):=ztv HB.out hR i o ho p hk hm hol
 clear h hR ho HB hm hol
 generalize bxs w o p=Y at *
 obtain⟨k,s,r,a,b,c,d⟩:=p
 have hk:k=4:=hk
 subst hk
 simp only [Wop.cells] at *
 generalize xpV o=xp at *
 generalize wpV o=wp at *
 go_enter Tryz.func34,Tryz.ntmps34
 go_wp2_with fail
 refine HC.out.mono ?_
 rintro e w1 ⟨rfl,h1⟩
 have HY:Hid (Ny Z av w0 eb ef G ents os many w1):=h1.less
 clear h1 HC
 go_wp2
 go_ret2
 first | exact⟨_,rfl,HY.out⟩ | exact⟨⟨_,rfl⟩,HY.out⟩
theorem zq1(h:Gm Z av w0 w eb ef G ents os many)(hR:Rels ents)(i:Nat)(o:Option Ent)(ho:ents[i]?=some o)(p:Wop)(hk:p.k=7)(hm:many<=1048576)(hol:os.length<=10000000):
  Calls Tryz.prog 34 #[.pointer (some ⟨G,0,none⟩), .agg #[xpV o,wpV o], .agg p.cells] w fun e w'=>∃c,e= .returned (.tuple #[.bool true,I c])∧Ny Z av w0 eb ef G ents os many w':=by
 have HB:Hid (Gm (bxs w o p++Z) av w0 ((w.alloc (.cells #[xpV o,wpV o] 75)).alloc (.cells p.cells 70)) eb ef G ents os many):=h.box o p
 have HC:Hid (Calls Tryz.prog 58 #[.pointer (some ⟨G,0,none⟩), .agg #[xpV o,wpV o], .agg p.cells] _ _):=zpv HB.out hR i o ho p hk hm hol
 clear h hR ho HB hm hol
 generalize bxs w o p=Y at *
 obtain⟨k,s,r,a,b,c,d⟩:=p
 have hk:k=7:=hk
 subst hk
 simp only [Wop.cells] at *
 generalize xpV o=xp at *
 generalize wpV o=wp at *
 go_enter Tryz.func34,Tryz.ntmps34
 go_wp2_with fail
 refine HC.out.mono ?_
 rintro e w1 ⟨rfl,h1⟩
 have HY:Hid (Ny Z av w0 eb ef G ents os many w1):=h1.less
 clear h1 HC
 go_wp2
 go_ret2
 first | exact⟨_,rfl,HY.out⟩ | exact⟨⟨_,rfl⟩,HY.out⟩
theorem zxu(h:Gm Z av w0 w eb ef G ents os many)(hR:Rels ents)(i:Nat)(o:Option Ent)(ho:ents[i]?=some o)(p:Wop)(hk:p.k=8)(hm:many<=1048576)(hol:os.length<=10000000):
  Calls Tryz.prog 34 #[.pointer (some ⟨G,0,none⟩), .agg #[xpV o,wpV o], .agg p.cells] w fun e w'=>∃c,e= .returned (.tuple #[.bool true,I c])∧Ny Z av w0 eb ef G ents os many w':=by
 have HB:Hid (Gm (bxs w o p++Z) av w0 ((w.alloc (.cells #[xpV o,wpV o] 75)).alloc (.cells p.cells 70)) eb ef G ents os many):=h.box o p
 have HC:Hid (Calls Tryz.prog 58 #[.pointer (some ⟨G,0,none⟩), .agg #[xpV o,wpV o], .agg p.cells] _ _):=zw2 HB.out hR i o ho p hk hm hol
 clear h hR ho HB hm hol
 generalize bxs w o p=Y at *
 obtain⟨k,s,r,a,b,c,d⟩:=p
 have hk:k=8:=hk
 subst hk
 simp only [Wop.cells] at *
 generalize xpV o=xp at *
 generalize wpV o=wp at *
 go_enter Tryz.func34,Tryz.ntmps34
 go_wp2_with fail
 refine HC.out.mono ?_
 rintro e w1 ⟨rfl,h1⟩
 have HY:Hid (Ny Z av w0 eb ef G ents os many w1):=h1.less
 clear h1 HC
 go_wp2
 go_ret2
 first | exact⟨_,rfl,HY.out⟩ | exact⟨⟨_,rfl⟩,HY.out⟩
theorem zuq(h:Gm Z av w0 w eb ef G ents os many)(hR:Rels ents)(o:Option Ent)(p:Wop)(hk:p.k<1):
  Calls Tryz.prog 34 #[.pointer (some ⟨G,0,none⟩), .agg #[xpV o,wpV o], .agg p.cells] w fun e w'=>∃c,e= .returned (.tuple #[.bool true,I c])∧Ny Z av w0 eb ef G ents os many w':=by
 have HB:Hid (Gm (bxs w o p++Z) av w0 ((w.alloc (.cells #[xpV o,wpV o] 75)).alloc (.cells p.cells 70)) eb ef G ents os many):=h.box o p
 have HY:Hid (Ny Z av w0 eb ef G ents os many ((w.alloc (.cells #[xpV o,wpV o] 75)).alloc (.cells p.cells 70))):=(HB.out.nx hR).less.ny
 clear h hR HB
 generalize bxs w o p=Y at *
 obtain⟨k,s,r,a,b,c,d⟩:=p
 have hk:k<1:=hk
 have e2:(k==2)=false:=by simp;omega
 have e3:(k==3)=false:=by simp;omega
 have e4:(k==4)=false:=by simp;omega
 have e5:(k==5)=false:=by simp;omega
 have e6:(k==6)=false:=by simp;omega
 have l7:¬(7<=k):=by omega
 have l10:¬(10<=k):=by omega
 have l16:¬(16<=k):=by omega
 simp only [Wop.cells] at *
 generalize xpV o=xp at *
 generalize wpV o=wp at *
 go_enter Tryz.func34,Tryz.ntmps34
 go_wp2
 go_ret2
 first | exact⟨_,rfl,HY.out⟩ | exact⟨⟨_,rfl⟩,HY.out⟩
theorem zxv(h:Gm Z av w0 w eb ef G ents os many)(hIt:zay)(hR:Rels ents)(i:Nat)(o:Option Ent)(ho:ents[i]?=some o)(p:Wop)(hk8:p.k<=8)(hk1:p.k ≠ 1)(hm:many<=1048576)(hol:os.length<=10000000):
  Calls Tryz.prog 34 #[.pointer (some ⟨G,0,none⟩), .agg #[xpV o,wpV o], .agg p.cells] w fun e w'=>∃c,e= .returned (.tuple #[.bool true,I c])∧Ny Z av w0 eb ef G ents os many w':=by
 by_cases h0:p.k<1
 ·exact zuq h hR o p h0
 ·have hk:p.k=2∨p.k=3∨p.k=4∨p.k=5∨p.k=6∨p.k=7∨p.k=8:=by omega
  rcases hk with hk | hk | hk | hk | hk | hk | hk
  ·exact zq2 h hR i o ho p hk
  ·exact zy8 h hR i o ho p hk
  ·exact zup h hR i o ho p hk hm hol
  ·exact zq3 h hR i o ho p hk
  ·exact zn8 h hIt hR i o ho p hk
  ·exact zq1 h hR i o ho p hk hm hol
  ·exact zxu h hR i o ho p hk hm hol
end
theorem zi6{α:Type}{l:List (Option α)}{x:Option α}{i:Nat}{e:α}(h:(l++ [x])[i]?=some (some e)):(i<l.length∧l[i]?=some (some e))∨(i=l.length∧x=some e):=by
 by_cases hi:i<l.length
 ·rw [List.getElem?_append_left hi] at h
  exact .inl ⟨hi,h⟩
 ·rw [List.getElem?_append_right (by omega)] at h
  by_cases hq:i=l.length
  ·subst hq
   rw [Nat.sub_self] at h
   exact .inr ⟨rfl,by simpa using h⟩
  ·rw [List.getElem?_eq_none (by simp;omega)] at h
   cases h
section
variable {w0 w : World} {eb ef : Addr} {owns : Nat -> Clr} {lw : Clr} {ents : List (Option Ent)}
theorem GaW.none(h:GaW w0 w eb ef owns lw ents):GaW w0 w eb ef owns lw (ents++ [.none]):=by
 refine⟨fun i e he=> ?_,h.dis,h.law,h.prg,h.env⟩
 rcases zi6 he with⟨_,q⟩ | ⟨_,q⟩
 ·exact h.st i e q
 ·cases q
theorem GaW.add{w1 w2:World}{own' lw':Clr}{s q:Nat}{S:Sto}{Q:Rs}(h:GaW w0 w eb ef owns lw ents)(hb1:Below w.heap.size w w1)(hE:Ext (newTo (fun _=>0) w0.heap.size 700) own' w.heap.size)(hS:∃rg cc pp ch pv prs,StIn w1 own' s rg cc pp ch pv prs S)(hen:Env w0 w1 own' eb ef)(hb2:Below w1.heap.size w1 w2)(hL:Ext (newTo lw w.heap.size 2) lw' w1.heap.size)(hQ:RsAt w2 lw' (10+10*ents.length) q Q):
  ∃owns',GaW w0 w2 eb ef owns' lw' (ents++ [some ⟨s,S,q,Q⟩]):=by
 have s1:=hb1.size
 have s2:=hb2.size
 have s0:w0.heap.size<=w.heap.size:=(h.env 0).bel.size
 have hb:Below w.heap.size w w2:=hb1.trans (hb2.mono s1)
 have hl1:∀b,b<w.heap.size->lw' b=lw b:=fun b hq=>(hL b (by omega)).trans (zac _ _ _ _ hq)
 have hl2:∀b,w.heap.size<=b->b<w1.heap.size->lw' b=2:=fun b h1 h2=>(hL b h2).trans (zae _ _ _ _ h1)
 have ho1:∀b,b<w0.heap.size->own' b=0:=fun b hq=>(hE b (by omega)).trans (zac _ _ _ _ hq)
 have ho2:∀b,w0.heap.size<=b->b<w.heap.size->own' b=700:=fun b h1 h2=>(hE b h2).trans (zae _ _ _ _ h1)
 obtain⟨owns',oi,oj⟩:∃owns':Nat->Clr,owns' ents.length=newTo own' w1.heap.size 700∧∀j,j ≠ ents.length->owns' j=newTo (owns j) w.heap.size 700:=⟨fun j=>if j=ents.length then newTo own' w1.heap.size 700 else newTo (owns j) w.heap.size 700,if_pos rfl,fun j hj=>if_neg hj⟩
 have hen':∀j,Env w0 w2 (owns' j) eb ef:=fun j=>by
  by_cases hj:j=ents.length
  ·rw [hj,oi]
   exact hen.tch (F:=fun _=>False) (Tch.below hb2) (fun _ _ q=>q) (zaf _ _ _)
  ·rw [oj j hj]
   exact(h.env j).tch (F:=fun _=>False) (Tch.below hb) (fun _ _ q=>q) (zaf _ _ _)
 refine⟨owns',fun i e he=> ?_,fun i j b hij hbl h1 h2=> ?_,fun i b hbl hn=> ?_,fun i b hbl hn=> ?_,hen'⟩
 ·rcases zi6 he with⟨hi,hq⟩ | ⟨hi,hq⟩
  ·have hj:i ≠ ents.length:=by omega
   have hK:Kp (fun _=>True) lw lw' w w2:=fun b hq _=>⟨hb.block b hq,hl1 b hq⟩
   have hen2:=hen' i
   rw [oj i hj] at hen2 ⊢
   exact(h.st i e hq).kp (fun d _ b hb' _=>hb.block b hb') (zaf _ _ _) hen2 hK trivial (fun _ _ _=>trivial)
  ·cases hq
   subst hi
   have hen2:=hen' ents.length
   rw [oi] at hen2 ⊢
   obtain⟨rg,cc,pp,ch,pv,prs,hS⟩:=hS
   exact⟨⟨rg,cc,pp,ch,pv,prs,hS.kp (fun d _ b hb' _=>hb2.block b hb') (zaf _ _ _)⟩,hen2,hQ⟩
 ·by_cases hi:i=ents.length
  ·have hj:j ≠ ents.length:=fun q=>hij (hi.trans q.symm)
   rw [hi,oi] at h1 h2
   by_cases hbo:b<w1.heap.size
   ·rw [zac _ _ _ _ hbo] at h1 h2
    rw [oj j hj]
    by_cases hb3:b<w.heap.size
    ·exfalso
     by_cases hb0:b<w0.heap.size
     ·have:=ho1 b hb0;omega
     ·have:=ho2 b (by omega) hb3;omega
    ·exact zae _ _ _ _ (by omega)
   ·rw [zae _ _ _ _ (by omega)] at h2
    omega
  ·rw [oj i hi] at h1 h2
   by_cases hb3:b<w.heap.size
   ·rw [zac _ _ _ _ hb3] at h1 h2
    by_cases hj:j=ents.length
    ·rw [hj,oi,zac _ _ _ _ (by omega)]
     refine ho2 b ?_ hb3
     refine Classical.byContradiction (fun q=> ?_)
     have:=(h.env i).own0 b (by omega)
     omega
    ·rw [oj j hj,zac _ _ _ _ hb3]
     exact h.dis i j b hij hb3 h1 h2
   ·rw [zae _ _ _ _ (by omega)] at h2
    omega
 ·by_cases hi:i=ents.length
  ·rw [hi,oi]
   by_cases hbo:b<w1.heap.size
   ·rw [zac _ _ _ _ hbo]
    by_cases hb3:b<w.heap.size
    ·by_cases hb0:b<w0.heap.size
     ·have:=ho1 b hb0;omega
     ·have:=ho2 b (by omega) hb3;omega
    ·exact absurd (hl2 b (by omega) hbo) hn
   ·rw [zae _ _ _ _ (by omega)];omega
  ·rw [oj i hi]
   by_cases hb3:b<w.heap.size
   ·rw [zac _ _ _ _ hb3]
    exact h.law i b hb3 (by rw [←hl1 b hb3];exact hn)
   ·rw [zae _ _ _ _ (by omega)];omega
 ·by_cases hi:i=ents.length
  ·rw [hi,oi] at hn
   by_cases hbo:b<w1.heap.size
   ·rw [zac _ _ _ _ hbo] at hn
    by_cases hb3:b<w.heap.size
    ·by_cases hb0:b<w0.heap.size
     ·rw [hl1 b hb3]
      exact h.prg 0 b hb3 (by rw [(h.env 0).own0 b hb0];omega)
     ·exact absurd (ho2 b (by omega) hb3) hn
    ·exact .inr (hl2 b (by omega) hbo)
   ·exact absurd (zae _ _ _ _ (by omega)) hn
  ·rw [oj i hi] at hn
   by_cases hb3:b<w.heap.size
   ·rw [zac _ _ _ _ hb3] at hn
    rw [hl1 b hb3]
    exact h.prg i b hb3 hn
   ·exact absurd (zae _ _ _ _ (by omega)) hn
end
structure GmJ(Z:List (Nat×Obj))(w0 w:World)(eb ef:Addr)(G:Nat)(ents:List (Option Ent))(e:Option Ent)(os:List Ow)(many:Int)(owns:Nat->Clr)(lw:Clr)(av:Value)(oa:Option Addr)(oc:Nat):Prop where
 ga:GaW w0 w eb ef owns lw (ents++ [e])
 blk:Blk w G #[av, .slice oa os.length oc,I many] 68
 oG:lw G=1
 all:w.ownsRow 0 75 2 av ents.length (flat prC ents)
 oA:∀g,av.ownBlock=some g->lw g=1
 lst:w.ownsRow 0 115 3 (.slice oa os.length oc) os.length (flat Ow.cells os)
 oL:∀g,(Value.slice oa os.length oc).ownBlock=some g->lw g=1
 fil:∀o∈os,At0 w lw o.a o.full∧0<=o.k∧o.k<=many∧o.n<=1000004
 m0:0<=many
 zz:∀p∈Z,lw p.1=0∧w.heap[p.1]?=some p.2
def Gn(Z:List (Nat×Obj))(av:Value)(w0 w:World)(eb ef:Addr)(G:Nat)(ents:List (Option Ent))(e:Option Ent)(os:List Ow)(many:Int):Prop:=∃owns lw oa oc,GmJ Z w0 w eb ef G ents e os many owns lw av oa oc
section
variable {Z : List (Nat × Obj)} {w0 w w' : World} {eb ef : Addr} {G : Nat} {ents : List (Option Ent)} {os : List Ow} {many : Int} {owns owns' : Nat -> Clr} {lw lw' : Clr} {av : Value} {oa : Option Addr} {oc : Nat} {e : Option Ent}
theorem GmI.kn(h:GmI Z w0 w eb ef G ents os many owns lw av oa oc)(hg:GaW w0 w' eb ef owns' lw' (ents++ [e]))(hk:∀b,b<w.heap.size->lw' b=lw b∧w'.heap[b]?=w.heap[b]?):GmJ Z w0 w' eb ef G ents e os many owns' lw' av oa oc:=by
 have hK:Kp (fun _=>True) lw lw' w w':=fun b hb _=>⟨(hk b hb).2,(hk b hb).1⟩
 have hG:=hk G h.blk.lt
 refine⟨hg,hG.2.trans h.blk,hG.1.trans h.oG,(zcn h.all h.oA hK trivial).1,(zcn h.all h.oA hK trivial).2,(zcn h.lst h.oL hK trivial).1,(zcn h.lst h.oL hK trivial).2,fun o ho=>⟨(h.fil o ho).1.kp hK trivial,(h.fil o ho).2⟩,h.m0,fun p hp=> ?_⟩
 obtain⟨z1,z2⟩:=h.zz p hp
 obtain⟨z3,z4⟩:=hk p.1 (zh4 z2)
 exact⟨z3.trans z1,z4.trans z2⟩
theorem RelS.new(s q n:Nat)(h2:2<=n)(h4:n<=4):RelS ⟨s,newS n,q,newQ n⟩:=by
 have e1:(newS n).reps.length=n:=by simp [newS]
 have e2:(newQ n).reps.length=n:=by simp [newQ]
 refine⟨by show(newS n).reps.length=(newQ n).reps.length;omega,by show 2<=(newS n).reps.length;omega,by show(newS n).reps.length<=4;omega,fun r R x h1 h3=> ?_⟩
 show AlR (newS n).reps.length r R x
 rw [e1]
 have h1:(newS n).reps[r]?=some R:=h1
 have h3:(newQ n).reps[r]?=some x:=h3
 have hr:r<n:=by
  obtain⟨q1,_⟩:=List.getElem?_eq_some_iff.1 h1
  omega
 have g1:R=newR r n:=by
  have:(newS n).reps[r]?=some (newR r n):=by simp [newS,hr]
  rw [this] at h1
  exact(Option.some.inj h1).symm
 have g2:x=⟨[],false, [], [],0⟩:=by
  have:(newQ n).reps[r]?=some ⟨[],false, [], [],0⟩:=by simp [newQ,hr]
  rw [this] at h3
  exact(Option.some.inj h3).symm
 rw [g1,g2]
 exact AlR.new h2 h4 hr
theorem zyb(h:Gm Z av w0 w eb ef G ents os many)(n:Int):
  Calls Tryz.prog 14 #[I n] w fun x w1=>Below w.heap.size w w1∧∃xp z,x= .returned (.tuple #[xp,I z])∧Calls Tryz.prog 33 #[I n] w1 fun y w2=>Below w1.heap.size w1 w2∧∃e,xp=xpV e∧y= .returned (.tuple #[wpV e,I z])∧Gn Z av w0 w2 eb ef G ents e os many∧(∀e',e=some e'->RelS e'):=by
 obtain⟨owns,lw,oa,oc,h⟩:=h
 by_cases hn:2<=n∧n<=4
 ·obtain⟨n,rfl⟩:=Int.eq_ofNat_of_zero_le (show 0<=n by omega)
  have s0:w0.heap.size<=w.heap.size:=(h.ga.env 0).bel.size
  have hen:Env w0 w (newTo (fun _=>0) w0.heap.size 700) eb ef:=⟨(h.ga.env 0).gl,(h.ga.env 0).pw,(h.ga.env 0).bel,fun b hb=>zac _ _ _ _ hb⟩
  refine(zvd _ n w w0 eb ef hen (by omega) (by omega)).mono ?_
  rintro x w1 ⟨s,rfl,⟨own',rg,cc,pp,ch,pv,prs,hE,hS,hen1,_⟩,hb1⟩
  refine⟨hb1,_,0,rfl, ?_⟩
  refine(zyo (newTo lw w.heap.size 2) (10+10*ents.length) n w1 (by omega) (by omega)).mono ?_
  rintro y w2 ⟨q,lw',rfl,hb2,hL,_,hQ⟩
  obtain⟨owns',hg⟩:=h.ga.add hb1 hE ⟨rg,cc,pp,ch,pv,prs,hS⟩ hen1 hb2 hL hQ
  have s1:=hb1.size
  refine⟨hb2,some ⟨s,newS n,q,newQ n⟩,rfl,rfl,⟨owns',lw',oa,oc,h.kn hg (fun b hb=>⟨(hL b (by omega)).trans (zac _ _ _ _ hb),(hb2.block b (by omega)).trans (hb1.block b hb)⟩)⟩,fun e' he=> ?_⟩
  cases he
  exact RelS.new s q n (by omega) (by omega)
 ·refine(zvc n hn w).mono ?_
  rintro x w1 ⟨rfl,rfl⟩
  refine⟨Below.refl _ _,_,2,rfl,(zv1 n hn w1).mono ?_⟩
  rintro y w2 ⟨rfl,rfl⟩
  exact⟨Below.refl _ _,none,rfl,rfl,⟨owns,lw,oa,oc,h.kn h.ga.none (fun b _=>⟨rfl,rfl⟩)⟩,fun e' he=>(by cases he)⟩
theorem GmJ.put{g7 cap7:Nat}{w7:World}(h:GmJ Z w0 w eb ef G ents e os many owns lw av oa oc)(hT:Tch (fun j=>av.ownBlock=some j) w w7)(hrow:w7.ownsRow 0 75 2 (.slice (some ⟨g7,0,none⟩) (ents.length+1) cap7) (ents.length+1) (flat prC ents++prC e))(hat:av.ownBlock=some g7∨w.heap.size<=g7):Gm Z (.slice (some ⟨g7,0,none⟩) (ents.length+1) cap7) w0 (w7.setCell ⟨G,0,none⟩ (.slice (some ⟨g7,0,none⟩) (ents.length+1) cap7)) eb ef G (ents++ [e]) os many:=by
 have hGty:w.heap[G]?=some (.cells #[av, .slice oa os.length oc,I many] 68):=h.blk
 have hAG:∀g,av.ownBlock=some g->g ≠ G∧(Value.slice oa os.length oc).ownBlock ≠ some g:=fun g e=>by
  obtain⟨cs,h1⟩:=zcq h.all e
  refine⟨fun q=> ?_,fun q=> ?_⟩
  ·rw [q,hGty] at h1;cases h1
  ·obtain⟨cs',h2⟩:=zcq h.lst q
   rw [h2] at h1;cases h1
 have n1:av.ownBlock ≠ some G:=fun q=>(hAG G q).1 rfl
 have hGl:=h.blk.lt
 have hgG:g7 ≠ G:=by
  rcases hat with e | e
  ·rintro rfl;exact n1 e
  ·omega
 obtain⟨W,hW⟩:∃W,W=w7.setCell ⟨G,0,none⟩ (.slice (some ⟨g7,0,none⟩) (ents.length+1) cap7):=⟨_,rfl⟩
 have hT8:Tch (fun j=>j=G∨av.ownBlock=some j) w W:=by
  rw [hW]
  exact Tch.setCell (F:=fun j=>j=G∨av.ownBlock=some j) (hT.mono (fun _ _ q=> .inr q)) ⟨G,0,none⟩ _ (.inl (.inl rfl))
 have hT1:Tch (fun k=>lw k=1) w W:=hT8.mono (fun k _ q=>by
  rcases q with q | q
  ·rw [q];exact h.oG
  ·exact h.oA k q)
 have o1:∀b,b<w.heap.size->newTo lw w.heap.size 1 b=lw b:=fun b hb=>zac _ _ _ _ hb
 have hK:Kp (fun d=>d=0) lw (newTo lw w.heap.size 1) w W:=fun b hb hd=>⟨hT1.block b hb (by rw [hd];omega),o1 b hb⟩
 obtain⟨owns',hg⟩:=h.ga.mine (newTo lw w.heap.size 1) hT1 (fun b hl _=>o1 b hl)
 rw [←hW]
 refine⟨owns',newTo lw w.heap.size 1,oa,oc,hg, ?_,(o1 G hGl).trans h.oG, ?_,fun g q=> ?_, ?_,fun g q=>(o1 g (h.lst.lt g q).2).trans (h.oL g q),fun o ho=> ?_,h.m0,fun p hp=> ?_⟩
 ·rw [hW]
  exact(hT.blk h.blk n1).set 0 _
 ·rw [List.length_append,zk4,hW]
  exact zah hrow (fun b q=>heap_setCell_other _ ⟨G,0,none⟩ b _ (by cases q;exact hgG))
 ·cases q
  rcases hat with q | q
  ·exact(o1 g7 (h.all.lt g7 q).2).trans (h.oA g7 q)
  ·exact zae _ _ _ _ q
 ·refine zah h.lst (fun g q=>hT8.block g (h.lst.lt g q).2 (fun q2=> ?_))
  rcases q2 with q2 | q2
  ·obtain⟨cs',h2⟩:=zcq h.lst q
   rw [q2,hGty] at h2;cases h2
  ·exact(hAG g q2).2 q
 ·exact⟨(h.fil o ho).1.kp hK rfl,(h.fil o ho).2⟩
 ·obtain⟨z1,z2⟩:=h.zz p hp
  obtain⟨z3,z4⟩:=hK p.1 (zh4 z2) z1
  exact⟨z4.trans z1,z3.trans z2⟩
end
def Wop.list(p:Wop):List Value:= [I p.k,I p.s,I p.r,I p.a,I p.b,I p.c,I p.d]
theorem zrj(p:Wop):p.list.length=7:=rfl
theorem zsg{w:World}{a:Option Addr}{ls:List Wop}(h:At w a (flat Wop.list ls))(hl:0<ls.length):∃p q,a=some ⟨p,q,none⟩∧∀i (hi:i<ls.length) j u,ls[i].list[j]?=some u->w.cell? ⟨p,q+i*7+j,none⟩=some u:=by
 have hg:=fun(k:Nat) (hk:k<ls.length) (j:Nat) (hj:j<7)=>zak Wop.list 7 zrj ls k hk j hj
 obtain⟨p,q,e,_⟩:=h (0*7+0) (I ls[0].k) (by rw [hg 0 hl 0 (by omega)];rfl)
 refine⟨p,q,e,fun i hi j u hu=> ?_⟩
 have hj:j<7:=by have:=(List.getElem?_eq_some_iff.1 hu).1;rw [zrj] at this;exact this
 obtain⟨p2,q2,e2,hc⟩:=h (i*7+j) u (by rw [hg i hi j hj];exact hu)
 rw [e] at e2
 cases e2
 rw [Nat.add_assoc]
 exact hc
theorem tmodN(x:Int)(n:Nat)(h:0<=x):x.tmod n=((x.toNat % n:Nat):Int):=by
 obtain⟨m,rfl⟩:=Int.eq_ofNat_of_zero_le h
 rfl
def pkN(c:Int)(n:Nat):Nat:=(if c<0 then(-(c+1)).toNat else c.toNat) % n
theorem zwg(c:Int)(n:Nat)(h:0<n):pkN c n<n:=Nat.mod_lt _ h
theorem ztl(c:Int)(n:Nat)(w:World)(hn:0<n)(hc: -9223372036854775808<=c)(hc2:c<=9223372036854775807)(hn2:n<=4611686018427387904):
  Calls Tryz.prog 35 #[I c,I n] w fun e w'=>e= .returned (I (pkN c n))∧w'=w:=by
 have hn0:¬((n:Int)=0):=by omega
 have hk:=zwg c n hn
 unfold pkN at hk ⊢
 by_cases h0:c<0
 ·rw [if_pos h0] at hk ⊢
  have h1:IntKind.i64.wrap (c+1)=c+1:=zc0 _ (by omega) (by omega)
  have h2:IntKind.i64.wrap (-(c+1))= -(c+1):=zc0 _ (by omega) (by omega)
  have h3:(-(c+1)).tmod (n:Int)=(((-(c+1)).toNat % n:Nat):Int):=tmodN _ _ (by omega)
  generalize (-(c+1)).toNat % n=k at *
  have h4:IntKind.i64.wrap (k:Int)=k:=zc0 _ (by omega) (by omega)
  go_enter Tryz.func35,Tryz.ntmps35
  go_wp2
  go_ret
  exact⟨rfl,rfl⟩
 ·rw [if_neg h0] at hk ⊢
  have h3:c.tmod (n:Int)=((c.toNat % n:Nat):Int):=tmodN _ _ (by omega)
  generalize c.toNat % n=k at *
  have h4:IntKind.i64.wrap (k:Int)=k:=zc0 _ (by omega) (by omega)
  go_enter Tryz.func35,Tryz.ntmps35
  go_wp2
  go_ret
  exact⟨rfl,rfl⟩
def Gs(w0:World)(eb ef:Addr)(G i:Nat)(w:World):Prop:=∃ents os many av,Gm [] av w0 w eb ef G ents os many∧Rels ents∧ents.length<=i∧os.length<=4*i∧many<=i
section
variable {w0 w w' : World} {eb ef : Addr} {G i : Nat}
theorem Gm.bel{Z:List (Nat×Obj)}{av:Value}{ents:List (Option Ent)}{os:List Ow}{many:Int}(h:Gm Z av w0 w eb ef G ents os many):Below w0.heap.size w0 w:=by
 obtain⟨owns,lw,oa,oc,h⟩:=h
 exact(h.ga.env 0).bel
theorem Gs.bel(h:Gs w0 eb ef G i w):Below w0.heap.size w0 w:=by
 obtain⟨ents,os,many,av,h,_⟩:=h
 exact h.bel
theorem Gs.news(h:Gs w0 eb ef G i w)(hb:Below w.heap.size w w'):Gs w0 eb ef G i w':=by
 obtain⟨ents,os,many,av,h,h2⟩:=h
 exact⟨ents,os,many,av,h.news hb,h2⟩
theorem Gs.more{j:Nat}(h:Gs w0 eb ef G i w)(hj:i<=j):Gs w0 eb ef G j w:=by
 obtain⟨ents,os,many,av,h,h2,h3,h4,h5⟩:=h
 exact⟨ents,os,many,av,h,h2,by omega,by omega,by omega⟩
theorem Gs.kept(h:Gs w0 eb ef G i w)(hi:i<=1048577):Calls Tryz.prog 36 #[.pointer (some ⟨G,0,none⟩)] w fun e w'=>e= .returned (.bool true)∧Gs w0 eb ef G i w':=by
 have hh:=h
 obtain⟨ents,os,many,av,⟨owns,lw,oa,oc,h⟩,h2,h3,h4,h5⟩:=hh
 exact(zxa G av (I many) oa oc os w h.blk (zaw h.lst) (fun o ho=>⟨(h.fil o ho).1.at,(h.fil o ho).2.1,by have:=(h.fil o ho).2.2.1;omega,by have:=(h.fil o ho).2.2.2;omega⟩) (by omega)).mono (fun e w' q=>⟨q.1,Gs.news ‹_› q.2⟩)
theorem Gs.start(hg:Gl w0 eb ef)(hp:Pw w0):Gs w0 eb ef w0.heap.size 0 (w0.alloc (.cells #[.slice none 0 0, .slice none 0 0,I 0] 68)):=by
 have hb:Below w0.heap.size w0 (w0.alloc (.cells #[.slice none 0 0, .slice none 0 0,I 0] 68)):=(Below.refl _ _).alloc (Nat.le_refl _) _
 refine⟨[], [],0, .slice none 0 0,⟨fun _=>newTo (fun _=>0) w0.heap.size 700,newTo (fun _=>0) w0.heap.size 1,none,0,⟨fun i e he=>(by cases he),fun i j b _ _ h1 h2=> ?_,fun i b _ _=> ?_,fun i b _ hn=> ?_,fun i=>⟨hg,hp,hb,fun b hb=>zac _ _ _ _ hb⟩⟩,heap_alloc_new w0 _,zae _ _ _ _ (Nat.le_refl _),World.ownsRow_nil _ _ _ _,fun g e=>(by cases e),World.ownsRow_nil _ _ _ _,fun g e=>(by cases e),fun o ho=>(by cases ho),by omega,fun p hp=>(by cases hp)⟩,fun i e he=>(by cases he),by simp,by simp,by simp⟩
 ·by_cases hq:b<w0.heap.size
  ·have:newTo (fun _=>0) w0.heap.size 700 b=0:=zac _ _ _ _ hq
   omega
  ·exact zae _ _ _ _ (by omega)
 ·show¬(1<=newTo (fun _=>0) w0.heap.size 700 b∧newTo (fun _=>0) w0.heap.size 700 b<=100)
  by_cases hq:b<w0.heap.size
  ·rw [zac _ _ _ _ hq];omega
  ·rw [zae _ _ _ _ (by omega)];omega
 ·by_cases hq:b<w0.heap.size
  ·exact .inl (zac _ _ _ _ hq)
  ·exact absurd (zae _ _ _ _ (by omega)) hn
end
def Fct(G B ga k:Nat)(av xp wp:Value)(s:Wop)(w:World):Prop:=w.cell? ⟨G,0,none⟩=some av∧w.cell? ⟨B,0,none⟩=some (I s.k)∧w.cell? ⟨B,1,none⟩=some (I s.s)∧w.cell? ⟨B,2,none⟩=some (I s.r)∧w.cell? ⟨B,3,none⟩=some (I s.a)∧w.cell? ⟨B,4,none⟩=some (I s.b)∧w.cell? ⟨B,5,none⟩=some (I s.c)∧w.cell? ⟨B,6,none⟩=some (I s.d)∧w.cell? ⟨ga,k*2,none⟩=some xp∧w.cell? ⟨ga,k*2+1,none⟩=some wp
section
variable {w0 w : World} {eb ef : Addr} {G : Nat} {ents : List (Option Ent)} {os : List Ow} {many : Int}
theorem Gm.fct{B ga cap k:Nat}{s:Wop}{o:Option Ent}(h:Gm [(B, .cells s.cells 70)] (.slice (some ⟨ga,0,none⟩) ents.length cap) w0 w eb ef G ents os many){l:List (Option Ent)}(hl:flat prC ents=flat prC l)(hk:l[k]?=some o):Fct G B ga k (.slice (some ⟨ga,0,none⟩) ents.length cap) (xpV o) (wpV o) s w:=by
 obtain⟨owns,lw,oa,oc,h⟩:=h
 have hb:Blk w B s.cells 70:=(h.zz (B, .cells s.cells 70) (by simp)).2
 have hat:=zaw h.all
 rw [hl] at hat
 obtain⟨hk1,hk2⟩:=List.getElem?_eq_some_iff.1 hk
 have hc:∀j u,j<2->(prC o)[j]?=some u->w.cell? ⟨ga,k*2+j,none⟩=some u:=by
  intro j u hj hu
  obtain⟨p,q,e,hc⟩:=hat (k*2+j) u (by rw [zak prC 2 zys l k hk1 j hj,hk2];exact hu)
  cases e
  rw [Nat.zero_add] at hc
  exact hc
 exact⟨h.blk.cell 0,hb.cell 0,hb.cell 1,hb.cell 2,hb.cell 3,hb.cell 4,hb.cell 5,hb.cell 6,hc 0 _ (by omega) rfl,hc 1 _ (by omega) rfl⟩
theorem zst{B ga cap k i:Nat}{s:Wop}{o:Option Ent}(h:Gm [(B, .cells s.cells 70)] (.slice (some ⟨ga,0,none⟩) ents.length cap) w0 w eb ef G ents os many)(hIt:zay)(hR:Rels ents)(hk:ents[k]?=some o)(hk8:s.k<=8)(hk1:s.k ≠ 1)(h1:ents.length<=i)(h2:os.length<=4*i)(h3:many<=i)(hi:i<1048576):
  Calls Tryz.prog 34 #[.pointer (some ⟨G,0,none⟩), .agg #[xpV o,wpV o], .agg s.cells] w fun e w'=>∃c,e= .returned (.tuple #[.bool true,I c])∧Fct G B ga k (.slice (some ⟨ga,0,none⟩) ents.length cap) (xpV o) (wpV o) s w'∧Gs w0 eb ef G (i+1) w':=by
 refine(zxv h hIt hR k o hk s hk8 hk1 (by omega) (by omega)).mono ?_
 rintro e w' ⟨c,rfl,os',many',q1,q2,ents',⟨q3,q4⟩,q5,q6⟩
 rw [←q3] at q5
 refine⟨c,rfl, ?_,ents',os',many',_,Gm.less (Y:= [_]) (Z:= []) q5,q6,by omega,by omega,by omega⟩
 have:=q5.fct q4 hk
 rw [q3] at this
 exact this
end
end Go.Proofs.YtfmcngncaffloaaGreatDoor
