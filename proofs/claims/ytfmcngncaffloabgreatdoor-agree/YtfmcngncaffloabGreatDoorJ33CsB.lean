import Derived.Test.YtfmcngncaffloabGreatDoorJ32StG
set_option maxHeartbeats 3200000
namespace Go.Proofs.YtfmcngncaffloabGreatDoor
open Go.RowKit Go.Proofs.Tryz Wv
set_option maxRecDepth 100000
abbrev ptrV (p:Nat):Value:= .pointer (some ⟨p,0,none⟩)
theorem infoPr:(prog.info? 58).map (fun i=>(i.zero,i.size,i.bytes))=some (some (.pointer none),1,8):=by kernel_rfl
def newS(n:Nat):Sto:=⟨(List.range n).map (fun i=>newR i n), []⟩
def WnewOk(w0 w:World)(own:Clr)(n:Nat)(eb ef:Addr)(e:Ending)(w':World):Prop:=∃s,e= .returned (.tuple #[.pointer (some ⟨s,0,none⟩),I 0])∧StOk w0 w own s (newS n) eb ef w'∧Below w.heap.size w w'
structure NsAt(w wr:World)(own own':Clr)(s n pp ch:Nat)(rv:Value)(prs:List Nat):Prop where
 bel:Below w.heap.size w wr
 ext:Ext own own' w.heap.size
 blk:Blk wr s #[rv, .pointer (some ⟨pp,0,none⟩)] 92
 ls:w.heap.size<=s
 row:wr.ownsRow w.heap.size 58 1 rv prs.length (prs.map ptrV)
 reps:∀r (h:r<prs.length),RpAt wr own' (1+11*r) prs[r] (newR r n)
 post:PoIn wr own' 100 pp ch (.slice none 0 0) []
 c1:own' s=900
 c2:∀g,rv.ownBlock=some g->own' g=900
theorem NsAt.begin{w w1:World}{own own1:Clr}{n pp ch:Nat}(hb:Below w.heap.size w w1)(he:Ext own own1 w.heap.size)(hp:PoIn w1 own1 100 pp ch (.slice none 0 0) []):NsAt w (w1.alloc (.cells #[.slice none 0 0, .pointer (some ⟨pp,0,none⟩)] 92)) own (newTo own1 w1.heap.size 900) w1.heap.size n pp ch (.slice none 0 0) []:=
 ⟨hb.alloc hb.size _,he.trans (zab _ _ _) hb.size,heap_alloc_new w1 _,hb.size,⟨rfl, .inl ⟨rfl,rfl⟩⟩,fun r h=>absurd h (by simp),hp.keep (fun b hl _=>Below.heap_alloc _ _ _ hl) (zab _ _ _),zaf _ _ _ _ (ac _),fun g e=>(by simp [Value.ownBlock] at e)⟩
theorem NsAt.kept{w wr w5:World}{own own' own5:Clr}{s n pp ch:Nat}{rv:Value}{prs:List Nat}(h:NsAt w wr own own' s n pp ch rv prs)(hb:Below wr.heap.size wr w5)(he:Ext own' own5 wr.heap.size):NsAt w w5 own own5 s n pp ch rv prs:=
 ⟨h.bel.trans (hb.mono h.bel.size),h.ext.trans he h.bel.size,h.blk.kept hb h.blk.lt,h.ls,zag h.row (fun g e=>hb.block g (h.row.lt g e).2),fun r hr=>(h.reps r hr).keep (fun b hl _=>hb.block b hl) (fun _ _ _ b hl _=>hb.block b hl) he,h.post.keep (fun b hl _=>hb.block b hl) he,(he s h.blk.lt).trans h.c1,fun g e=>(he g (h.row.lt g e).2).trans (h.c2 g e)⟩
theorem NsAt.ne{w wr:World}{own own':Clr}{s n pp ch:Nat}{rv:Value}{prs:List Nat}(h:NsAt w wr own own' s n pp ch rv prs):¬rv.ownBlock=some s:=by
 intro e;rcases h.row.2 with⟨rfl,_⟩ | ⟨g,cap,cur,rfl,_,hg,_⟩
 ·cases e
 ·have e:g=s:=by simpa [Value.ownBlock] using e
  subst e;have h9:=hg.symm.trans h.blk;simp at h9
theorem NsAt.step{w w5 w6 w7:World}{own own5:Clr}{s n pp ch g7 cap7 p:Nat}{rv:Value}{prs:List Nat}(h:NsAt w w5 own own5 s n pp ch rv prs)(hl:prs.length<=4)(hR:RpAt w5 own5 (1+11*prs.length) p (newR prs.length n))(hb:Below w5.heap.size w5 w6)(hg:w6.grownBy w7 rv.ownBlock)(ho:w7.ownsRow w.heap.size 58 1 (.slice (some ⟨g7,0,none⟩) (prs.length+1) cap7) (prs.length+1) (prs.map ptrV++ [ptrV p]))(ha:rv.ownBlock=some g7∨w5.heap.size<=g7):
  NsAt w (w7.setCell ⟨s,0,none⟩ (.slice (some ⟨g7,0,none⟩) (prs.length+1) cap7)) own (newTo own5 w5.heap.size 900) s n pp ch (.slice (some ⟨g7,0,none⟩) (prs.length+1) cap7) (prs++ [p]):=by
 have he:=zab own5 w5.heap.size 900;have h6:NsAt w w6 own (newTo own5 w5.heap.size 900) s n pp ch rv prs:=h.kept hb he;have hR6:RpAt w6 (newTo own5 w5.heap.size 900) (1+11*prs.length) p (newR prs.length n):=hR.keep (fun b hl _=>hb.block b hl) (fun _ _ _ b hl _=>hb.block b hl) he;have hne:=h6.ne;have hT7:Tch (fun k=>rv.ownBlock=some k) w6 w7:=Tch.grown hg;have hT8:Tch (fun k=>rv.ownBlock=some k∨k=s) w6 (w7.setCell ⟨s,0,none⟩ (.slice (some ⟨g7,0,none⟩) (prs.length+1) cap7)):=(hT7.mono (fun _ _ h=>Or.inl h)).setCell ⟨s,0,none⟩ _ (Or.inl (Or.inr rfl))
 have hS:∀d,d ≠ 900->Same (newTo own5 w5.heap.size 900) d w6 (w7.setCell ⟨s,0,none⟩ (.slice (some ⟨g7,0,none⟩) (prs.length+1) cap7)):=fun d hd=>hT8.same (fun k e e2=>hd (by
  rcases e2 with e2 | e2
  ·rw [←e];exact h6.c2 k e2
  ·rw [←e,e2];exact h6.c1))
 have hlen:(prs++ [p]).length=prs.length+1:=by simp
 have hsg:s ≠ g7:=by
  rcases ha with ha | ha
  ·rintro rfl;exact h.ne ha
  ·have:=h.blk.lt;omega
 have hsw:=h.ls;refine⟨?_,h6.ext,(hT7.blk h6.blk hne).set 0 _,h.ls, ?_,fun r hr=> ?_,h6.post.keep (hS 100 (by omega)) (Ext.refl _ _),h6.c1,fun g e=> ?_⟩
 ·refine h6.bel.trans (hT8.toBelow h6.bel.size (fun k hk e=> ?_))
  rcases e with e | e
  ·have:=(h6.row.lt k e).1;omega
  ·omega
 ·rw [hlen,aO]
  exact zag ho (fun b e=>heap_setCell_other _ ⟨s,0,none⟩ b _ (by cases e;exact hsg.symm))
 ·by_cases hrl:r<prs.length
  ·rw [List.getElem_append_left hrl]
   exact(h6.reps r hrl).keep (hS 0 (by omega)) (fun d a b=>hS d (by omega)) (Ext.refl _ _)
  ·have:r=prs.length:=by simp at hr;omega
   subst this;rw [List.getElem_concat_length rfl];exact hR6.keep (hS 0 (by omega)) (fun d a b=>hS d (by omega)) (Ext.refl _ _)
 ·cases e
  rcases ha with ha | ha
  ·exact h6.c2 _ ha
  ·exact zaf _ _ _ _ ha
theorem NsAt.fin{w wr w0:World}{own own':Clr}{s n pp ch:Nat}{rv:Value}{prs:List Nat}{eb ef:Addr}(h:NsAt w wr own own' s n pp ch rv prs)(hl:prs.length=n)(hn2:2<=n)(hn4:n<=4)(hen:Env w0 w own eb ef):StOk w0 w own s (newS n) eb ef wr:=by
 obtain⟨g,cp,rfl⟩:=zc6 h.row (by omega);have e:(newS n).reps.length=n:=by simp [newS]
 refine⟨own',g,cp,pp,ch, .slice none 0 0,prs,h.ext,⟨?_,fun r hr=> ?_,by rw [e,hl],by rw [e];exact hn4,by rw [e];exact hn2,h.c1,h.c2 g rfl,fun r h1 h2=> ?_,h.post⟩,hen.tch (F:=fun _=>False) (Tch.below h.bel) (fun _ _ h=>h) h.ext,Tch.below h.bel⟩
 ·rw [e,←hl];exact h.blk
 ·have:=h.row.cells (g:=g) rfl r (ptrV prs[r]) (by simp [hr])
  rw [Addr.add_lit,aV] at this;exact this
 ·have e2:(newS n).reps[r]=newR r n:=by simp [newS]
  rw [e2];exact h.reps r h1
theorem zyc(own:Clr)(n:Nat)(w w0:World)(eb ef:Addr)(hen:Env w0 w own eb ef)(hn2:2<=n)(hn4:n<=4):
  Calls prog 25 #[I n] w fun e w'=>WnewOk w0 w own n eb ef e w':=by
 have hni:¬(n:Int)<2:=by omega
 have hnj:¬(n:Int)>4:=by omega
 have HEN:Hid (Env w0 w own eb ef):=hen;clear hen;obtain⟨ii,HI⟩:∃i,Hid (prog.info? 58=some i∧i.zero=some (.pointer none)∧i.size=1∧i.bytes=8):=by obtain⟨i,h⟩:=info_parts infoPr;exact⟨i,h⟩
 go_enter func25,ntmps25;go_wp2_with fail
 refine(zzb own 100 w).mono ?_;rintro e w1 ⟨pp,ch,own1,rfl,hb1,he1,hp1⟩;have HN:Hid (NsAt w (w1.alloc (.cells #[.slice none 0 0, .pointer (some ⟨pp,0,none⟩)] 92)) own (newTo own1 w1.heap.size 900) w1.heap.size n pp ch (.slice none 0 0) []):=NsAt.begin hb1 he1 hp1;clear hb1 he1 hp1;go_wp2_with fail
 generalize w1.heap.size=s at *
 go_loopw [16] (fun x wX=>∃(own':Clr) (rv:Value) (prs:List Nat),prs.length<=n∧x=I prs.length∧Hid (NsAt w wX own own' s n pp ch rv prs)) (fun x _=>n - (intOf x).toNat)
 case atStart=>exact⟨_,_, [],by simp,rfl,HN⟩
 case round=>
  obtain⟨own',rv,prs,hl,rfl,HL⟩:=hrel;clear HN;by_cases hlt:prs.length<n
  ·have hki:(prs.length:Int)<n:=by omega
   have c0:wr.cell? ⟨s,0,none⟩=some rv:=HL.out.blk.cell 0;have hp4:prs.length<=4:=by omega
   go_wp2_with fail
   go_region_law (first
    | (go_simp;go_at_call 54;refine(zo9 own' (1+11*prs.length) prs.length n _ hn4).mono ?_;rintro e w5 ⟨p,own5,rfl,hb5,he5,hr5⟩;have HB5:Hid (Below wr.heap.size wr w5):=(by first | exact(Below.refl _ _).drew.trans hb5 | exact hb5);have HN5:Hid (NsAt w w5 own own5 s n pp ch rv prs):=HL.out.kept HB5.out he5;have HR5:Hid (RpAt w5 own5 (1+11*prs.length) p (newR prs.length n)):=hr5;clear hb5 he5 hr5;have c5:w5.cell? ⟨s,0,none⟩=some rv:=HN5.out.blk.cell 0;have c6:(w5.alloc (.cells #[.pointer (some ⟨p,0,none⟩)] 58)).cell? ⟨s,0,none⟩=some rv:=zaa ((Below.refl _ _).alloc (ac _) _) c5)
    | (refine step_append_lies _ (by rfl) _ _ _ (by rfl) w.heap.size 58 ii (.pointer none) 1 8 underlying90 HI.out.1 HI.out.2.1 HI.out.2.2.1 HI.out.2.2.2 (by rfl) (by omega) rv prs.length (prs.map ptrV) (by rfl) (by first | exact HN5.out.row.alloc _ | exact(HN5.out.row.alloc _).drew) ⟨w5.heap.size,0,none⟩ 1 1 [ptrV p] (by rfl) (by rfl) (by first | exact zcf w5 _ _ | exact zdb w5 _ _) (by intro u hu;simp at hu;subst hu;rfl) (by omega) (by unfold maxLen;omega) (by omega) (by have:=HN5.out.bel.size;simp;omega) (w5.heap.size+1) (by simp) ?_;intro g7 cap7 w7 hown7 hgrow7 hat7 hlt7;have HE7:Hid (NsAt w (w7.setCell ⟨s,0,none⟩ (.slice (some ⟨g7,0,none⟩) (prs.length+1) cap7)) own (newTo own5 w5.heap.size 900) s n pp ch (.slice (some ⟨g7,0,none⟩) (prs.length+1) cap7) (prs++ [p])):=HN5.out.step hp4 HR5.out ((Below.refl _ _).alloc (ac _) _) hgrow7 hown7 (hat7.imp id (fun e=>by omega));have HK7:Hid (Blk w7 s #[rv, .pointer (some ⟨pp,0,none⟩)] 92):=(Tch.grown hgrow7).blk (HN5.out.blk.alloc _) HN5.out.ne;have c7:w7.cell? ⟨s,0,none⟩=some rv:=HK7.out.cell 0;have z7:w7.frozen? ⟨s,0,none⟩=false:=HK7.out.frozen 0;clear hown7 hgrow7 hat7 hlt7))
   all_goals
    (have HLN:Hid ((prs++ [p]).length=prs.length+1):=by show _=_;simp
     clear c5 c6 c7 z7 HK7 HR5 HN5 HB5 HL;go_wp2_with fail
     go_roundw
     case rel=>exact⟨_,_,prs++ [p],by rw [HLN.out];omega,by rw [HLN.out];go_num,HE7⟩
     case measure=>simp [intOf];omega)
  ·have hki:¬(prs.length:Int)<n:=by omega
   have HE:Hid (StOk w0 w own s (newS n) eb ef wr):=HL.out.fin (by omega) hn2 hn4 HEN.out;go_wp2;go_ret2;exact⟨s,rfl,HE.out,HL.out.bel⟩
theorem zuv{w:World}{a:Option Addr}{xs:List Int}(h:At w a (xs.map I)){k:Nat}(hk:k<xs.length):∃b o,a=some ⟨b,o,none⟩∧w.cell? ⟨b,o+k,none⟩=some (I xs[k]):=
 h k (I xs[k]) (by simp [hk])
theorem zxg(xs ys:List Int)(a b:Option Addr)(ca cb:Nat)(w:World)(ha:At w a (xs.map I))(hb:At w b (ys.map I))(hl:xs.length<=1048576):
  Calls prog 15 #[.slice a xs.length ca, .slice b ys.length cb] w fun e w'=>e= .returned (.bool (decide (xs=ys)))∧Below w.heap.size w w':=by
 have HA:Hid (At w a (xs.map I)):=ha;have HB:Hid (At w b (ys.map I)):=hb;clear ha hb;obtain⟨bq,HQ⟩:∃bq,Hid (decide (xs=ys)=bq):=⟨_,rfl⟩
 rw [HQ.out];go_enter func15,ntmps15;by_cases hne:xs.length=ys.length
 ·have hni:(xs.length:Int)=(ys.length:Int):=by omega
  have HNE:Hid (xs.length=ys.length):=hne;have hb1:((xs.length:Int) !=(ys.length:Int))=false:=by simp [hne]
  have hb2:((xs.length:Int)==(ys.length:Int))=true:=by simp [hne]
  clear hne hni;go_wp2_with fail
  go_loopw [5] (fun x wX=>∃k:Nat,k<=xs.length∧x=I k∧Hid (Below w.heap.size w wX)∧Hid (xs.take k=ys.take k)) (fun x _=>xs.length - (intOf x).toNat)
  case atStart=>exact⟨0,az _,rfl,Below.refl _ _,(rfl:xs.take 0=ys.take 0)⟩
  case round=>
   obtain⟨k,hk,rfl,HW,HT⟩:=hrel;by_cases hlt:k<xs.length
   ·have hltb:k<ys.length:=by have:=HNE.out;omega
    have HAr:Hid (At wr a (xs.map I)):=HA.out.kept HW.out;have HBr:Hid (At wr b (ys.map I)):=HB.out.kept HW.out;obtain⟨ga,oa,rfl,ea⟩:=zuv HAr.out hlt;obtain⟨gb,ob,rfl,eb⟩:=zuv HBr.out hltb;have hki:(k:Int)<xs.length:=by omega
    have hkj:(k:Int)<ys.length:=by omega
    have HE1:Hid (xs[k]=ys[k]->xs.take (k+1)=ys.take (k+1)):=fun e=>by rw [aC hlt,aC hltb,HT.out,e]
    have HE2:Hid (¬xs[k]=ys[k]->false=bq):=fun e=>by
     rw [←HQ.out];refine(decide_eq_false (fun h=>e ?_)).symm;subst h;rfl
    clear HT HAr HBr;obtain⟨xk,HXK⟩:∃z,Hid (xs[k]=z):=by exact⟨xs[k],rfl⟩
    obtain⟨yk,HYK⟩:∃z,Hid (ys[k]=z):=by exact⟨ys[k],rfl⟩
    rw [HXK.out] at ea HE1 HE2;rw [HYK.out] at eb HE1 HE2;by_cases he:xk=yk
    ·have HN:=HE1.out he
     have HN:Hid (xs.take (k+1)=ys.take (k+1)):=HN;have hq1:(xk !=yk)=false:=by simp [he]
     have hq2:(xk==yk)=true:=by simp [he]
     clear he HE1 HE2;go_wp2_with fail
     go_quiet (fail)
     have HW2:Hid (Below w.heap.size w (wr.drewN nq)):=za7 HW.out nq;go_wp2_with fail
     go_roundw
     case rel=>exact⟨k+1,hlt,by go_num,HW2,HN⟩
     case measure=>simp [intOf];omega
    ·have HN:Hid (false=bq):=HE2.out he
     have hq1:(xk !=yk)=true:=by simp [he]
     have hq2:(xk==yk)=false:=by simp [he]
     clear HE1 HE2;go_wp2_with fail
     go_quiet (fail)
     have HW2:Hid (Below w.heap.size w (wr.drewN nq)):=za7 HW.out nq;go_wp2;go_ret;exact⟨by rw [←HN.out];rfl,HW2.out⟩
   ·have hki:¬(k:Int)<xs.length:=by omega
    have HN:Hid (true=bq):=by
     rw [←HQ.out];refine(aT ?_).symm;have h1:=HT.out;have h2:=HNE.out;rw [aM (by omega),aM (by omega)] at h1;exact h1
    go_wp2;go_ret;exact⟨by rw [←HN.out];rfl,HW.out⟩
 ·have HN:Hid (false=bq):=by
   rw [←HQ.out];exact(decide_eq_false (fun h=>hne (by rw [h]))).symm
  have hb1:((xs.length:Int) !=(ys.length:Int))=true:=by simp;omega
  have hb2:((xs.length:Int)==(ys.length:Int))=false:=by simp;omega
  clear hne;go_wp2;go_ret;exact⟨by rw [←HN.out];rfl,Below.refl _ _⟩
structure Ac where
 op:Int
 ob:Nat
 x:Int
 y:Int
structure DoCan(R:Rp)(a:Ac)(o:Ob):Prop where
 up:Rup R
 st:R.st=1
 op:1<=a.op∧a.op<=6
 n5:R.effs.length<5
 ls:¬(0:Int)<rLeastD a.op
 ms:¬(0:Int)>rMostD a.op
 kd:(a.ob:Int) % 4=rKind a.op
 pl:o.plain
 er:((seeTo (pendB R) a.ob o R.effs.length).says a.op a.x a.y).2.2=0
 at_:R.obs[a.ob]?=some o
theorem Rok.same{R R':Rp}(h:Rok R)(e1:R'.obs=R.obs)(e2:R'.clock=R.clock)(e3:R'.log=R.log)(e4:R'.held=R.held)(e5:R'.time=R.time):Rok R':=
 ⟨by rw [e1];exact h.obs8,by rw [e1,e2];exact h.bd,by rw [e2,e3];exact h.logl,by rw [e2];exact h.len,by rw [e2];exact h.clk,by rw [e4];exact h.held,by rw [e4];exact h.most,by rw [e5];exact h.time0,by rw [e5];exact h.time1⟩
theorem zkx{R:Rp}:dueB R.clock (pendB R)=true:=by
 rw [zn9 R.clock (pendB R) rfl (fun j _=>Int.le_refl _)];simp [pendB]
theorem Rok.new(i n:Nat)(hn:n<=4):Rok (newR i n):=by
 refine⟨rfl,fun o ho=> ?_,by simp [newR],by simp [newR];exact hn,fun z hz=> ?_,fun b hb=>(by simp [newR] at hb),by simp [newR],by simp [newR],by simp [newR]⟩
 ·simp only [newR,ar,List.not_mem_nil,or_false] at ho
  rcases ho with rfl | rfl | rfl | rfl | rfl | rfl | rfl | rfl
  ·exact⟨by omega,by omega⟩
  ·exact az _
  ·exact az _
  ·exact az _
  ·exact⟨by omega,by omega⟩
  ·exact az _
  ·exact az _
  ·exact az _
 ·simp only [newR] at hz
  have:=List.eq_of_mem_replicate hz;omega
theorem zvk{α:Type}(less:α->α->Bool)(f:α->Bool):takeP less f ([]:List α)=(none, []):=rfl
