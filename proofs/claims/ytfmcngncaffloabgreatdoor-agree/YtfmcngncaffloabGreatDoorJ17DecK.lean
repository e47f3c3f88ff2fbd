import Derived.Test.YtfmcngncaffloabGreatDoorJ16DecE
set_option maxHeartbeats 3200000
namespace Go.Proofs.YtfmcngncaffloabGreatDoor
open Go.RowKit Go.Proofs.Tryz
set_option maxRecDepth 100000
abbrev bat0:Array Value:= #[.int .i64 0, .int .i64 0, .int .i64 0, .slice none 0 0, .slice none 0 0]
structure Bw(w w0 wi:World)(g E:Nat)(c:List UInt8)(q:Wv.St)(es:Array Value):Prop where
 rd:Rd wi g c q
 grown:w.grownBy wi (some g)
 below:Below w0.heap.size w0 wi
 kR:Blk wi w.heap.size bat0 134
 kE:Blk wi E es 134
 lt:w.heap.size<E
 lg:g<w.heap.size
 gg:w0.heap.size<=g
theorem Bw.kept{w w0 wi wj:World}{g E:Nat}{c:List UInt8}{q:Wv.St}{es:Array Value}(h:Bw w w0 wi g E c q es)(hb:Below wi.heap.size wi wj):Bw w w0 wj g E c q es:=
 ⟨h.rd.kept hb h.rd.lt,zaw h.grown ⟨hb.os,hb.tape,hb.output,hb.size,fun k hk _=>hb.block k hk⟩,h.below.trans (hb.mono h.below.size),h.kR.kept hb h.kR.lt,h.kE.kept hb h.kE.lt,h.lt,h.lg,h.gg⟩
theorem Bw.alloc{w w0 wi:World}{g E:Nat}{c:List UInt8}{q:Wv.St}{es:Array Value}(h:Bw w w0 wi g E c q es)(o:Obj):Bw w w0 (wi.alloc o) g E c q es:=
 h.kept ((Below.refl _ _).alloc (ac _) _)
theorem Bw.read{w w0 wi wj:World}{g E:Nat}{c:List UInt8}{q q':Wv.St}{es:Array Value}(h:Bw w w0 wi g E c q es)(hg:wi.grownBy wj (some g))(hr:Rd wj g c q'):Bw w w0 wj g E c q' es:=
 ⟨hr,zaw h.grown hg,za8 h.below hg h.gg,h.kR.grown hg (by have:=h.lg;simp;omega),h.kE.grown hg (by have:=h.lg;have:=h.lt;simp;omega),h.lt,h.lg,h.gg⟩
theorem Bw.set{w w0 wi:World}{g E:Nat}{c:List UInt8}{q:Wv.St}{es:Array Value}(h:Bw w w0 wi g E c q es)(j:Nat)(u:Value):Bw w w0 (wi.setCell ⟨E,j,none⟩ u) g E c q (es.setIfInBounds j u):=
 ⟨h.rd.other (by have:=h.lg;have:=h.lt;show g ≠ E;omega) u,zap h.grown (by have:=h.lt;show w.heap.size<=E;omega) u,h.below.setCell (by have:=h.lt;have:=h.lg;have:=h.gg;show w0.heap.size<=E;omega) u,h.kR.other (by have:=h.lt;show w.heap.size ≠ E;omega) u,h.kE.set j u,h.lt,h.lg,h.gg⟩
theorem Bw.begin{w w0 w3:World}{g:Nat}{c:List UInt8}{q:Wv.St}(h1:Rd w3 g c q)(h2:w.grownBy w3 (some g))(h3:Below w0.heap.size w0 w3)(h4:Blk w3 w.heap.size bat0 134)(h5:g<w.heap.size)(h6:w0.heap.size<=g)(es:Array Value):
  Bw w w0 (w3.alloc (.cells es 134)) g w3.heap.size c q es:=
 ⟨h1.alloc _,zaw h2 (zev (zco _ _)),h3.alloc h3.size _,h4.alloc _,heap_alloc_new w3 _,h4.lt,h5,h6⟩
abbrev put5 (w:World) (R:Nat) (a0 a1 a2 a3 a4:Value):World:=((((w.setCell ⟨R,0,none⟩ a0).setCell ⟨R,1,none⟩ a1).setCell ⟨R,2,none⟩ a2).setCell ⟨R,3,none⟩ a3).setCell ⟨R,4,none⟩ a4
theorem zh4(w:World)(R:Nat)(a0 a1 a2 a3 a4:Value)(k:Nat)(h:k ≠ R):(put5 w R a0 a1 a2 a3 a4).heap[k]?=w.heap[k]?:=by
 unfold put5;rw [heap_setCell_other _ ⟨R,4,none⟩ k _ h,heap_setCell_other _ ⟨R,3,none⟩ k _ h,heap_setCell_other _ ⟨R,2,none⟩ k _ h,heap_setCell_other _ ⟨R,1,none⟩ k _ h,heap_setCell_other _ ⟨R,0,none⟩ k _ h]
theorem zdy{w:World}{R:Nat}(h:Blk w R bat0 134)(a0 a1 a2 a3 a4:Value):Blk (put5 w R a0 a1 a2 a3 a4) R #[a0,a1,a2,a3,a4] 134:=
 ((((h.set 0 a0).set 1 a1).set 2 a2).set 3 a3).set 4 a4
theorem Bw.fin{w w0 wi:World}{g E:Nat}{c:List UInt8}{q:Wv.St}{es:Array Value}(h:Bw w w0 wi g E c q es)(a0 a1 a2 a3 a4:Value):
  Rd (put5 wi w.heap.size a0 a1 a2 a3 a4) g c q∧w.grownBy (put5 wi w.heap.size a0 a1 a2 a3 a4) (some g):=by
 have hl:=h.lg;refine⟨?_, ?_⟩
 ·unfold put5
  exact((((h.rd.other (by show g ≠ w.heap.size;omega) _).other (by show g ≠ w.heap.size;omega) _).other (by show g ≠ w.heap.size;omega) _).other (by show g ≠ w.heap.size;omega) _).other (by show g ≠ w.heap.size;omega) _
 ·unfold put5
  exact zap (zap (zap (zap (zap h.grown (ac _) _) (ac _) _) (ac _) _) (ac _) _) (ac _) _
theorem Bw.drew{w w0 wi:World}{g E:Nat}{c:List UInt8}{q:Wv.St}{es:Array Value}(h:Bw w w0 wi g E c q es):Bw w w0 wi.drew g E c q es:=
 ⟨h.rd.drew,⟨h.grown.os,h.grown.tape,h.grown.output,h.grown.size,h.grown.block⟩,h.below.drew,h.kR.drew,h.kE.drew,h.lt,h.lg,h.gg⟩
theorem Bw.grow{w w0 wi wj:World}{g E:Nat}{c:List UInt8}{q:Wv.St}{es:Array Value}{row:Option Nat}(h:Bw w w0 wi g E c q es)(hg:wi.grownBy wj row)(hr:∀b,row=some b->E<b):Bw w w0 wj g E c q es:=by
 have h1:=h.lt;have h2:=h.lg;have h3:=h.gg;have ne:∀k,k<=E->some k ≠ row:=fun k hk e=>by have:=hr k e.symm;omega
 exact⟨h.rd.grown hg (ne _ (by omega)),⟨hg.os.trans h.grown.os,hg.tape.trans h.grown.tape,hg.output.trans h.grown.output,aQ h.grown.size hg.size,fun k hk hk2=>(hg.block k (Nat.lt_of_lt_of_le hk h.grown.size) (ne _ (by omega))).trans (h.grown.block k hk hk2)⟩,
  h.below.grown hg h.below.size (fun k e=>by have:=hr k e;omega),h.kR.grown hg (ne _ (by omega)),h.kE.grown hg (ne _ (by omega)),h.lt,h.lg,h.gg⟩
theorem infoI:(prog.info? 3).map (fun i=>(i.zero,i.size,i.bytes))=some (some (.int .i64 0),1,8):=by kernel_rfl
theorem infoEf:(prog.info? 128).map (fun i=>(i.zero,i.size,i.bytes))=some (some (.agg #[.int .i64 0, .int .i64 0, .int .i64 0, .int .i64 0, .int .i64 0, .int .i64 0, .slice none 0 0]),7,72):=by kernel_rfl
theorem int_one(z:Int):∀u∈ [I z],u.oneCell'=true:=by
 intro u hu;simp only [ar,List.mem_nil_iff,or_false] at hu;rw [hu];rfl
theorem em_one(m:Em):∀u∈m.cells,u.oneCell'=true:=by
 intro u hu;simp only [Em.cells,Em.dv,ar,List.mem_nil_iff,or_false] at hu;rcases hu with rfl | rfl | rfl | rfl | rfl | rfl | rfl<;>rfl
structure OwB(w:World)(base:Nat)(vC vE:Value)(cl:List Int)(ms:List Em):Prop where
 clock:w.ownsRow base 3 1 vC cl.length (cl.map I)
 cells:w.ownsRow base 128 7 vE ms.length (flat Em.cells ms)
 dots:∀m∈ms,w.ownsRow base 125 3 m.dv m.e.dots.length (flat zac m.e.dots)
 ce:∀g,vC.ownBlock=some g->vE.ownBlock ≠ some g
 cd:∀m∈ms,∀g,m.dv.ownBlock=some g->vC.ownBlock ≠ some g∧vE.ownBlock ≠ some g
 dd:ms.Pairwise fun m m'=>∀g,m.dv.ownBlock=some g->m'.dv.ownBlock ≠ some g
theorem OwB.kept{w w':World}{base:Nat}{vC vE:Value}{cl:List Int}{ms:List Em}(h:OwB w base vC vE cl ms)(hk:∀b,b<w.heap.size->base<=b->w'.heap[b]?=w.heap[b]?):OwB w' base vC vE cl ms:=
 ⟨zag h.clock fun b hb=>hk b (h.clock.lt b hb).2 (h.clock.lt b hb).1,zag h.cells fun b hb=>hk b (h.cells.lt b hb).2 (h.cells.lt b hb).1,
  fun m hm=>zag (h.dots m hm) fun b hb=>hk b ((h.dots m hm).lt b hb).2 ((h.dots m hm).lt b hb).1,h.ce,h.cd,h.dd⟩
theorem OwB.mono{w:World}{base base':Nat}{vC vE:Value}{cl:List Int}{ms:List Em}(h:OwB w base vC vE cl ms)(hb:base'<=base):OwB w base' vC vE cl ms:=
 ⟨zfo h.clock hb,zfo h.cells hb,fun m hm=>zfo (h.dots m hm) hb,h.ce,h.cd,h.dd⟩
theorem OwB.push{w w':World}{base:Nat}{vC vE vE':Value}{cl:List Int}{ms:List Em}{m:Em}(h:OwB w base vC vE cl ms)
  (hk:∀b,b<w.heap.size->base<=b->vE.ownBlock ≠ some b->w'.heap[b]?=w.heap[b]?)
  (hE:w'.ownsRow base 128 7 vE' (ms.length+1) (flat Em.cells ms++m.cells))
  (hat:vE'.ownBlock=vE.ownBlock∨∃b,vE'.ownBlock=some b∧w.heap.size<=b)
  (hD:w'.ownsRow base 125 3 m.dv m.e.dots.length (flat zac m.e.dots))
  (hDn:∀b,m.dv.ownBlock=some b->w.heap.size<=b∧vE'.ownBlock ≠ some b):OwB w' base vC vE' cl (ms++ [m]):=by
 have hE':∀b,b<w.heap.size->vE.ownBlock ≠ some b->vE'.ownBlock ≠ some b:=by
  intro b hb hn;rcases hat with e | ⟨b',e,hb'⟩
  ·rw [e];exact hn
  ·rw [e];intro x;cases x;omega
 refine⟨zag h.clock fun b hb=>hk b (h.clock.lt b hb).2 (h.clock.lt b hb).1 (h.ce b hb), ?_, ?_,fun b hb=>hE' b (h.clock.lt b hb).2 (h.ce b hb), ?_, ?_⟩
 ·rw [zms,ah];exact hE
 ·intro x hx
  rw [ao,aB] at hx;rcases hx with hx | rfl
  ·exact zag (h.dots x hx) fun b hb=>hk b ((h.dots x hx).lt b hb).2 ((h.dots x hx).lt b hb).1 (h.cd x hx b hb).2
  ·exact hD
 ·intro x hx b hb
  rw [ao,aB] at hx;rcases hx with hx | rfl
  ·exact⟨(h.cd x hx b hb).1,hE' b ((h.dots x hx).lt b hb).2 (h.cd x hx b hb).2⟩
  ·refine⟨fun e=> ?_,(hDn b hb).2⟩
   have:=(h.clock.lt b e).2;have:=(hDn b hb).1;omega
 ·rw [List.pairwise_append]
  refine⟨h.dd,List.pairwise_singleton _ _, ?_⟩;intro x hx y hy b hb;rw [aB] at hy;subst hy;intro e;have:=((h.dots x hx).lt b hb).2;have:=(hDn b e).1;omega
theorem zhg(c:List UInt8)(q:Wv.St)(g:Nat)(w w0:World)(eb ef:Addr)(gl:Gl w0 eb ef)(g0:Gd w0)(hb:Below w0.heap.size w0 w)(hg:w0.heap.size<=g)(h:Rd w g c q)(hc:c.length<=9223372036854775807):
  Calls prog 164 #[.pointer (some ⟨g,0,none⟩)] w fun e w'=>∃ca ea cc ec ms,e= .returned (bV (Wv.batF true c q).1 ca ea cc ec)∧(Wv.batF true c q).1.effs=ms.map (·.e)∧OwB w' w.heap.size (.slice ca (Wv.batF true c q).1.clock.length cc) (.slice ea (Wv.batF true c q).1.effs.length ec) (Wv.batF true c q).1.clock ms∧Rd w' g c (Wv.batF true c q).2∧w.grownBy w' (some g):=by
 have hlt:=h.lt;have hne:g ≠ w.heap.size:=by omega
 have G0:Hid (Gd w0):=g0;have GL:Hid (Gl w0 eb ef):=gl;have HA1:Hid (Rd (w.alloc (.cells #[.int .i64 0, .int .i64 0, .int .i64 0, .slice none 0 0, .slice none 0 0] 134)) g c q):=h.alloc _;have HA2:Hid (Below w0.heap.size w0 (w.alloc (.cells #[.int .i64 0, .int .i64 0, .int .i64 0, .slice none 0 0, .slice none 0 0] 134))):=hb.alloc hb.size _;have HA3:Hid (Blk (w.alloc (.cells #[.int .i64 0, .int .i64 0, .int .i64 0, .slice none 0 0, .slice none 0 0] 134)) w.heap.size #[.int .i64 0, .int .i64 0, .int .i64 0, .slice none 0 0, .slice none 0 0] 134):=heap_alloc_new w _;have HA4:Hid (w.grownBy (w.alloc (.cells #[.int .i64 0, .int .i64 0, .int .i64 0, .slice none 0 0, .slice none 0 0] 134)) (some g)):=zev (zco _ _);clear h hb g0 gl;go_enter func164,ntmps164;go_wp2_with fail
 generalize w.alloc (.cells #[.int .i64 0, .int .i64 0, .int .i64 0, .slice none 0 0, .slice none 0 0] 134)=wA at *
 refine(zb3 c _ g _ w0 G0.out HA2.out HA1.out hc).mono ?_;rintro e w1 ⟨rfl,hR,hG⟩;have HR1:Hid (Rd w1 g c (Wv.nxt c q)):=hR;have HG1:Hid (w.grownBy w1 (some g)):=zaw HA4.out hG;have HB1:Hid (Below w0.heap.size w0 w1):=za8 HA2.out hG hg;have HK1:Hid (Blk w1 w.heap.size #[.int .i64 0, .int .i64 0, .int .i64 0, .slice none 0 0, .slice none 0 0] 134):=HA3.out.grown hG (by simp;omega);clear hR hG HA1 HA2 HA3 HA4;go_wp2_with fail
 refine(zb3 c _ g _ w0 G0.out HB1.out HR1.out hc).mono ?_;rintro e w2 ⟨rfl,hR,hG⟩;have HR2:Hid (Rd w2 g c (Wv.nxt2 c q)):=hR;have HG2:Hid (w.grownBy w2 (some g)):=zaw HG1.out hG;have HB2:Hid (Below w0.heap.size w0 w2):=za8 HB1.out hG hg;have HK2:Hid (Blk w2 w.heap.size #[.int .i64 0, .int .i64 0, .int .i64 0, .slice none 0 0, .slice none 0 0] 134):=HK1.out.grown hG (by simp;omega);clear hR hG HR1 HB1 HK1 HG1;go_wp2_with fail
 refine(zb3 c _ g _ w0 G0.out HB2.out HR2.out hc).mono ?_;rintro e w3 ⟨rfl,hR,hG⟩;have HR3:Hid (Rd w3 g c (Wv.nxt3 c q)):=hR;have HG3:Hid (w.grownBy w3 (some g)):=zaw HG2.out hG;have HB3:Hid (Below w0.heap.size w0 w3):=za8 HB2.out hG hg;have HK3:Hid (Blk w3 w.heap.size #[.int .i64 0, .int .i64 0, .int .i64 0, .slice none 0 0, .slice none 0 0] 134):=HK2.out.grown hG (by simp;omega);clear hR hG HR2 HB2 HK2 HG2;have EW:Hid (Bw w w0 (w3.alloc (.cells #[I (Wv.one c q),I (Wv.one c (Wv.nxt c q)),I (Wv.one c (Wv.nxt2 c q)), .slice none 0 0, .slice none 0 0] 134)) g w3.heap.size c (Wv.nxt3 c q) #[I (Wv.one c q),I (Wv.one c (Wv.nxt c q)),I (Wv.one c (Wv.nxt2 c q)), .slice none 0 0, .slice none 0 0]):=Bw.begin HR3.out HG3.out HB3.out HK3.out hlt hg _;clear HR3 HG3 HB3 HK3;have HE1:Hid (Wv.batF true c q=(⟨Wv.one c q,Wv.one c (Wv.nxt c q),Wv.one c (Wv.nxt2 c q),(Wv.batC c q).1,(Wv.batE true c q).1⟩,(Wv.batE true c q).2)):=rfl;have HEC:Hid (Wv.batC c q=Wv.run (Wv.oneF c) (Wv.one c (Wv.nxt3 c q)).toNat (Wv.nxt c (Wv.nxt3 c q))):=rfl;have HEE:Hid (Wv.batE true c q=Wv.run (Wv.effF true c) (Wv.one c (Wv.batC c q).2).toNat (Wv.nxt c (Wv.batC c q).2)):=rfl;go_wp2_with fail
 generalize Wv.one c q=o at *
 generalize Wv.one c (Wv.nxt c q)=sq at *
 generalize Wv.one c (Wv.nxt2 c q)=tm at *
 generalize Wv.nxt3 c q=q3 at *
 refine(zb3 c q3 g _ w0 G0.out EW.out.below EW.out.rd hc).mono ?_;rintro e w4 ⟨rfl,hR,hG⟩;have EW4:Hid (Bw w w0 w4 g w3.heap.size c (Wv.nxt c q3) #[I o,I sq,I tm, .slice none 0 0, .slice none 0 0]):=EW.out.read hG hR;clear EW hR hG;obtain⟨n1,n2⟩:=Wv.one_lt c q3;obtain⟨N,hN⟩:=aN n1;have HNN:Hid ((Wv.one c q3).toNat=N):=by show _=_;omega
 rw [hN] at n2 ⊢;clear hN n1;have O4:Hid (w4.ownsRow (w3.heap.size+1) 3 1 (.slice none 0 0) 0 (([]:List Int).map I)):=⟨rfl, .inl ⟨rfl,rfl⟩⟩
 obtain⟨i,hi,hz0,hz1,hz2⟩:=info_parts infoI;go_wp2_with fail
 go_loopw [13] (fun x wr=>∃(k:Nat) (ca:Option Addr) (cc:Nat),k<=N∧x=I k∧Hid (Bw w w0 wr g w3.heap.size c (Wv.run (Wv.oneF c) k (Wv.nxt c q3)).2 #[I o,I sq,I tm, .slice ca k cc, .slice none 0 0])∧Hid (wr.ownsRow (w3.heap.size+1) 3 1 (.slice ca k cc) k ((Wv.run (Wv.oneF c) k (Wv.nxt c q3)).1.map I))) (fun x _=>N - (intOf x).toNat)
 case atStart=>exact⟨0,none,0,az _,rfl,EW4,O4⟩
 case round=>
  obtain⟨k,ca,cc,hk,rfl,HE,HO2⟩:=hrel;clear EW4 O4;by_cases hlt2:k<N
  ·have e3:wr.cell? ⟨w3.heap.size,3,none⟩=some (.slice ca k cc):=HE.out.kE.cell 3
   have hEl:w3.heap.size<wr.heap.size:=HE.out.kE.lt;have HRN:Hid ((Wv.run (Wv.oneF c) (k+1) (Wv.nxt c q3))=((Wv.run (Wv.oneF c) k (Wv.nxt c q3)).1++ [Wv.one c (Wv.run (Wv.oneF c) k (Wv.nxt c q3)).2],Wv.nxt c (Wv.run (Wv.oneF c) k (Wv.nxt c q3)).2)):=rfl;generalize (Wv.run (Wv.oneF c) k (Wv.nxt c q3))=rr at *
   generalize hdd:Wv.one c rr.2=d at *
   go_wp2_with fail
   go_region_law ((first
    | (go_simp;go_at_call 188;refine(zb3 c rr.2 g _ w0 G0.out (by first | exact HE.out.below | exact HE.out.below.drew) (by first | exact HE.out.rd | exact HE.out.rd.drew) hc).mono ?_;rintro e w10 ⟨rfl,hR10,hG10⟩;rw [hdd];have E10:Hid (Bw w w0 w10 g w3.heap.size c (Wv.nxt c rr.2) #[I o,I sq,I tm, .slice ca k cc, .slice none 0 0]):=(by first | exact HE.out.read hG10 hR10 | exact HE.out.drew.read hG10 hR10);have O10:Hid (w10.ownsRow (w3.heap.size+1) 3 1 (.slice ca k cc) k (rr.1.map I)):=zag HO2.out (fun b hb=>hG10.block b (HO2.out.lt b hb).2 (fun e=>by cases e;have:=(HO2.out.lt _ hb).1;have:=HE.out.lt;have:=HE.out.lg;omega));have e3a:w10.cell? ⟨w3.heap.size,3,none⟩=some (.slice ca k cc):=E10.out.kE.cell 3;have e3c:(w10.alloc (.cells #[I d] 3)).cell? ⟨w3.heap.size,3,none⟩=some (.slice ca k cc):=(E10.out.alloc _).kE.cell 3;clear hR10 hG10;dsimp only)
    | (refine step_append_lies _ (by rfl) _ _ _ (by rfl) (w3.heap.size+1) 3 i (.int .i64 0) 1 8 underlying32 hi hz0 hz1 hz2 (by rfl) (by omega) (.slice ca k cc) k (rr.1.map I) (by rfl) (by first | exact O10.out.alloc _ | exact(O10.out.alloc _).drew | exact(O10.out.drew).alloc _) ⟨w10.heap.size,0,none⟩ 1 1 [I d] (by rfl) (by rfl) (by first | exact zcf w10 _ _ | exact zdb w10 _ _) (int_one d) (by omega) (by unfold maxLen;omega) (by omega) (by have:=E10.out.kE.lt;simp;omega) (w10.heap.size+1) (by simp) ?_;intro g5 cap5 w11 hown5 hgrow5 hat5 hlt5;have E11:Hid (Bw w w0 w11 g w3.heap.size c (Wv.nxt c rr.2) #[I o,I sq,I tm, .slice ca k cc, .slice none 0 0]):=(E10.out.alloc _).grow hgrow5 (fun b hb=>by have:=(O10.out.lt b hb).1;omega);have e3b:w11.cell? ⟨w3.heap.size,3,none⟩=some (.slice ca k cc):=E11.out.kE.cell 3;have x3b:=E11.out.kE.frozen 3)))
   all_goals
    (have LF:Hid (Bw w w0 (w11.setCell ⟨w3.heap.size,3,none⟩ (.slice (some ⟨g5,0,none⟩) (k+1) cap5)) g w3.heap.size c (Wv.nxt c rr.2) #[I o,I sq,I tm, .slice (some ⟨g5,0,none⟩) (k+1) cap5, .slice none 0 0]):=E11.out.set 3 _
     have LO:Hid ((w11.setCell ⟨w3.heap.size,3,none⟩ (.slice (some ⟨g5,0,none⟩) (k+1) cap5)).ownsRow (w3.heap.size+1) 3 1 (.slice (some ⟨g5,0,none⟩) (k+1) cap5) (k+1) ((rr.1++ [d]).map I)):=by
      rw [aO];refine zag hown5 fun b hb=>heap_setCell_other _ ⟨w3.heap.size,3,none⟩ _ _ ?_
      have:=(hown5.lt b hb).1;show b ≠ w3.heap.size;omega
     clear E11 E10 O10 e3 e3a e3b e3c x3b hown5 hgrow5 hat5 hlt5 HE HO2;go_wp2_with fail
     go_roundw
     case rel=>
      refine⟨k+1,some ⟨g5,0,none⟩,cap5,by omega,by go_num, ?_, ?_⟩
      ·rw [HRN.out];exact LF
      ·rw [HRN.out];exact LO
     case measure=>simp [intOf];omega)
  ·obtain rfl:k=N:=by omega
   have hlenC:(Wv.run (Wv.oneF c) k (Wv.nxt c q3)).1.length=k:=Wv.run_len _ _ _;have HC:Hid (Wv.batC c q=(Wv.run (Wv.oneF c) k (Wv.nxt c q3))):=by show _=_;rw [HEC.out,HNN.out]
   have HEE2:Hid (Wv.batE true c q=Wv.run (Wv.effF true c) (Wv.one c (Wv.run (Wv.oneF c) k (Wv.nxt c q3)).2).toNat (Wv.nxt c (Wv.run (Wv.oneF c) k (Wv.nxt c q3)).2)):=by show _=_;rw [HEE.out,HC.out]
   clear HNN HEC HEE;generalize (Wv.run (Wv.oneF c) k (Wv.nxt c q3))=rc at *
   go_wp2_with fail
   refine(zb3 c rc.2 g _ w0 G0.out HE.out.below HE.out.rd hc).mono ?_;rintro e w5 ⟨rfl,hR,hG⟩;have EW5:Hid (Bw w w0 w5 g w3.heap.size c (Wv.nxt c rc.2) #[I o,I sq,I tm, .slice ca k cc, .slice none 0 0]):=HE.out.read hG hR
   have O5:Hid (OwB w5 (w3.heap.size+1) (.slice ca k cc) (.slice none 0 0) rc.1 []):=
    ⟨by rw [hlenC];exact zag HO2.out (fun b hb=>hG.block b (HO2.out.lt b hb).2 (fun e=>by cases e;have:=(HO2.out.lt _ hb).1;have:=HE.out.lt;have:=HE.out.lg;omega)),⟨rfl, .inl ⟨rfl,rfl⟩⟩,(fun _ h=>by cases h),(fun _ _ h=>by cases h),(fun _ h=>by cases h),List.Pairwise.nil⟩
   clear HE HO2 hR hG;obtain⟨n3,n4⟩:=Wv.one_lt c rc.2;obtain⟨M,hM⟩:=aN n3;have HMM:Hid ((Wv.one c rc.2).toNat=M):=by show _=_;omega
   rw [hM] at n4 ⊢;clear hM n3 hi hz0 hz1 hz2;obtain⟨i2,hi2,hy0,hy1,hy2⟩:=info_parts infoEf;go_wp2_with fail
   go_loopw [25] (fun x wr=>∃(j:Nat) (ea:Option Addr) (ec:Nat) (ms:List Em),j<=M∧x=I j∧Hid (Bw w w0 wr g w3.heap.size c (Wv.run (Wv.effF true c) j (Wv.nxt c rc.2)).2 #[I o,I sq,I tm, .slice ca k cc, .slice ea j ec])∧Hid (OwB wr (w3.heap.size+1) (.slice ca k cc) (.slice ea j ec) rc.1 ms)∧Hid (ms.map (·.e)=(Wv.run (Wv.effF true c) j (Wv.nxt c rc.2)).1)) (fun x _=>M - (intOf x).toNat)
   case atStart=>exact⟨0,none,0, [],az _,rfl,EW5,O5,rfl⟩
   case round=>
    obtain⟨j,ea,ec,ms,hj,rfl,HE,HO2,HMS⟩:=hrel;clear EW5 O5;have hml:ms.length=j:=by have:=aD List.length HMS.out;rw [Wv.run_len] at this;simpa using this
    by_cases hlt3:j<M
    ·have e4:wr.cell? ⟨w3.heap.size,4,none⟩=some (.slice ea j ec):=HE.out.kE.cell 4
     have hEl:w3.heap.size<wr.heap.size:=HE.out.kE.lt;have hE2:w.heap.size<w3.heap.size:=HE.out.lt;have HRN:Hid ((Wv.run (Wv.effF true c) (j+1) (Wv.nxt c rc.2))=((Wv.run (Wv.effF true c) j (Wv.nxt c rc.2)).1++ [(Wv.effF true c (Wv.run (Wv.effF true c) j (Wv.nxt c rc.2)).2).1],(Wv.effF true c (Wv.run (Wv.effF true c) j (Wv.nxt c rc.2)).2).2)):=rfl;have HOE:Hid (wr.ownsRow (w3.heap.size+1) 128 7 (.slice ea j ec) j (flat Em.cells ms)):=by have:=HO2.out.cells;rw [hml] at this;exact this
     generalize (Wv.run (Wv.effF true c) j (Wv.nxt c rc.2))=rr at *
     go_wp2_with fail
     go_region_law ((first
      | (go_simp;go_at_call 189;refine(zy2 c rr.2 g _ w0 eb ef GL.out G0.out (by first | exact HE.out.below | exact HE.out.below.drew) hg (by first | exact HE.out.rd | exact HE.out.rd.drew) hc).mono ?_;rintro e w10 ⟨m,rfl,hme,hDo,hR10,hG10⟩;have HME:Hid (m.e=(Wv.effF true c rr.2).1):=hme;have HDo:Hid (w10.ownsRow wr.heap.size 125 3 m.dv m.e.dots.length (flat zac m.e.dots)):=hDo;have HGK:Hid (wr.grownBy w10 (some g)):=(by first | exact hG10 | exact⟨hG10.os,hG10.tape,hG10.output,hG10.size,hG10.block⟩);have E10:Hid (Bw w w0 w10 g w3.heap.size c (Wv.effF true c rr.2).2 #[I o,I sq,I tm, .slice ca k cc, .slice ea j ec]):=(by first | exact HE.out.read hG10 hR10 | exact HE.out.drew.read hG10 hR10);have O10:Hid (w10.ownsRow (w3.heap.size+1) 128 7 (.slice ea j ec) j (flat Em.cells ms)):=zag HOE.out (fun b hb=>hG10.block b (HOE.out.lt b hb).2 (fun e=>by cases e;have:=(HOE.out.lt _ hb).1;omega));have e4a:w10.cell? ⟨w3.heap.size,4,none⟩=some (.slice ea j ec):=E10.out.kE.cell 4;have e4c:(w10.alloc (.cells #[I m.e.op,I m.e.ob,I m.e.va,I m.e.ref.o,I m.e.ref.s,I m.e.ref.i, .slice m.da m.e.dots.length m.dc] 128)).cell? ⟨w3.heap.size,4,none⟩=some (.slice ea j ec):=(E10.out.alloc _).kE.cell 4;clear hR10 hG10 hme hDo;dsimp only)
      | (refine step_append_lies _ (by rfl) _ _ _ (by rfl) (w3.heap.size+1) 128 i2 (.agg #[.int .i64 0, .int .i64 0, .int .i64 0, .int .i64 0, .int .i64 0, .int .i64 0, .slice none 0 0]) 7 72 underlying108 hi2 hy0 hy1 hy2 (by rfl) (by omega) (.slice ea j ec) j (flat Em.cells ms) (by rfl) (by first | exact O10.out.alloc _ | exact(O10.out.alloc _).drew | exact(O10.out.drew).alloc _) ⟨w10.heap.size,0,none⟩ 1 1 [I m.e.op,I m.e.ob,I m.e.va,I m.e.ref.o,I m.e.ref.s,I m.e.ref.i, .slice m.da m.e.dots.length m.dc] (by rfl) (by rfl) (by first | exact zcf w10 _ _ | exact zdb w10 _ _) (em_one m) (by omega) (by unfold maxLen;omega) (by omega) (by have:=E10.out.kE.lt;simp;omega) (w10.heap.size+1) (by simp) ?_;intro g5 cap5 w11 hown5 hgrow5 hat5 hlt5;have E11:Hid (Bw w w0 w11 g w3.heap.size c (Wv.effF true c rr.2).2 #[I o,I sq,I tm, .slice ca k cc, .slice ea j ec]):=(E10.out.alloc _).grow hgrow5 (fun b hb=>by have:=(O10.out.lt b hb).1;omega);have e4b:w11.cell? ⟨w3.heap.size,4,none⟩=some (.slice ea j ec):=E11.out.kE.cell 4;have x4b:=E11.out.kE.frozen 4)))
     all_goals
      (have LF:Hid (Bw w w0 (w11.setCell ⟨w3.heap.size,4,none⟩ (.slice (some ⟨g5,0,none⟩) (j+1) cap5)) g w3.heap.size c (Wv.effF true c rr.2).2 #[I o,I sq,I tm, .slice ca k cc, .slice (some ⟨g5,0,none⟩) (j+1) cap5]):=E11.out.set 4 _
       have hs10:wr.heap.size<=w10.heap.size:=HGK.out.size;have hnb:∀b,(Value.slice ea j ec).ownBlock=some b->b<wr.heap.size:=fun b hb=>(HOE.out.lt b hb).2
       have LO:Hid (OwB (w11.setCell ⟨w3.heap.size,4,none⟩ (.slice (some ⟨g5,0,none⟩) (j+1) cap5)) (w3.heap.size+1) (.slice ca k cc) (.slice (some ⟨g5,0,none⟩) (j+1) cap5) rc.1 (ms++ [m])):=by
        refine HO2.out.push ?_ ?_ ?_ ?_ ?_
        ·intro b h1 h2 h3
         rw [heap_setCell_other _ ⟨w3.heap.size,4,none⟩ b _ (by show b ≠ w3.heap.size;omega),hgrow5.block b (by simp;omega) (fun e=>h3 e.symm),Below.heap_alloc w10 _ b (by omega),HGK.out.block b h1 (by simp;omega)]
        ·rw [hml]
         refine zag hown5 fun b hb=>heap_setCell_other _ ⟨w3.heap.size,4,none⟩ _ _ ?_
         have:=(hown5.lt b hb).1;show b ≠ w3.heap.size;omega
        ·rcases hat5 with e | e
         ·exact Or.inl e.symm
         ·exact Or.inr ⟨g5,rfl,by omega⟩
        ·refine zfo (zag HDo.out fun b hb=> ?_) (by omega)
         obtain⟨b1,b2⟩:=HDo.out.lt b hb;rw [heap_setCell_other _ ⟨w3.heap.size,4,none⟩ b _ (by show b ≠ w3.heap.size;omega),hgrow5.block b (by simp;omega) (fun e=>by have:=hnb b e.symm;omega),Below.heap_alloc w10 _ b b2]
        ·intro b hb
         obtain⟨b1,b2⟩:=HDo.out.lt b hb;refine⟨b1,fun e=> ?_⟩;have e':g5=b:=by simpa [Value.ownBlock] using e
         subst e';clear e;rcases hat5 with e | e
         ·have:=hnb _ e;omega
         ·omega
       have LM:Hid ((ms++ [m]).map (·.e)=rr.1++ [(Wv.effF true c rr.2).1]):=by show List.map _ _=_;rw [aO,HMS.out,←HME.out];rfl
       clear E11 E10 O10 e4 e4a e4b e4c x4b hown5 hgrow5 hat5 hlt5 HE HO2 HDo HGK HME hnb HOE;go_wp2_with fail
       go_roundw
       case rel=>
        refine⟨j+1,some ⟨g5,0,none⟩,cap5,ms++ [m],by omega,by go_num, ?_, ?_, ?_⟩
        ·rw [HRN.out];exact LF
        ·exact LO
        ·rw [HRN.out];exact LM
       case measure=>simp [intOf];omega)
    ·obtain rfl:j=M:=by omega
     have HD2:Hid (Wv.batE true c q=(Wv.run (Wv.effF true c) j (Wv.nxt c rc.2))):=by show _=_;rw [HEE2.out,HMM.out]
     clear HMM HEE2;have hlenE:(Wv.run (Wv.effF true c) j (Wv.nxt c rc.2)).1.length=j:=Wv.run_len _ _ _;generalize (Wv.run (Wv.effF true c) j (Wv.nxt c rc.2))=rr at *
     have hE3:=HE.out.lt;have e0:wr.cell? ⟨w3.heap.size,0,none⟩=some (I o):=HE.out.kE.cell 0;have e1:wr.cell? ⟨w3.heap.size,1,none⟩=some (I sq):=HE.out.kE.cell 1;have e2:wr.cell? ⟨w3.heap.size,2,none⟩=some (I tm):=HE.out.kE.cell 2;have e3:wr.cell? ⟨w3.heap.size,3,none⟩=some (.slice ca k cc):=HE.out.kE.cell 3;have e4:wr.cell? ⟨w3.heap.size,4,none⟩=some (.slice ea j ec):=HE.out.kE.cell 4;have k0:wr.cell? ⟨w.heap.size,0,none⟩=some (.int .i64 0):=HE.out.kR.cell 0;have z0:=HE.out.kR.frozen 0;have k1:wr.cell? ⟨w.heap.size,1,none⟩=some (.int .i64 0):=HE.out.kR.cell 1;have z1:=HE.out.kR.frozen 1;have k2:wr.cell? ⟨w.heap.size,2,none⟩=some (.int .i64 0):=HE.out.kR.cell 2;have z2:=HE.out.kR.frozen 2;have k3:wr.cell? ⟨w.heap.size,3,none⟩=some (.slice none 0 0):=HE.out.kR.cell 3;have z3:=HE.out.kR.frozen 3;have k4:wr.cell? ⟨w.heap.size,4,none⟩=some (.slice none 0 0):=HE.out.kR.cell 4;have z4:=HE.out.kR.frozen 4;go_wp2;have HF:Hid (Blk (put5 wr w.heap.size (I o) (I sq) (I tm) (.slice ca k cc) (.slice ea j ec)) w.heap.size #[I o,I sq,I tm, .slice ca k cc, .slice ea j ec] 134):=zdy HE.out.kR _ _ _ _ _;have HY:Hid (Rd (put5 wr w.heap.size (I o) (I sq) (I tm) (.slice ca k cc) (.slice ea j ec)) g c _∧w.grownBy (put5 wr w.heap.size (I o) (I sq) (I tm) (.slice ca k cc) (.slice ea j ec)) (some g)):=HE.out.fin _ _ _ _ _;have HP:Hid (∀bb,bb ≠ w.heap.size->(put5 wr w.heap.size (I o) (I sq) (I tm) (.slice ca k cc) (.slice ea j ec)).heap[bb]?=wr.heap[bb]?):=fun bb hk=>zh4 _ _ _ _ _ _ _ bb hk
     unfold put5 at HF HY HP;generalize (((((wr.setCell ⟨w.heap.size,0,none⟩ (I o)).setCell ⟨w.heap.size,1,none⟩ (I sq)).setCell ⟨w.heap.size,2,none⟩ (I tm)).setCell ⟨w.heap.size,3,none⟩ (.slice ca k cc)).setCell ⟨w.heap.size,4,none⟩ (.slice ea j ec))=wF at *
     have f0:wF.cell? ⟨w.heap.size,0,none⟩=some (I o):=HF.out.cell 0;have f1:wF.cell? ⟨w.heap.size,1,none⟩=some (I sq):=HF.out.cell 1;have f2:wF.cell? ⟨w.heap.size,2,none⟩=some (I tm):=HF.out.cell 2;have f3:wF.cell? ⟨w.heap.size,3,none⟩=some (.slice ca k cc):=HF.out.cell 3;have f4:wF.cell? ⟨w.heap.size,4,none⟩=some (.slice ea j ec):=HF.out.cell 4;have HBB:Hid (Wv.batF true c q=(⟨o,sq,tm,rc.1,rr.1⟩,rr.2)):=by show _=_;rw [HE1.out,HC.out,HD2.out]
     rw [HBB.out];refine bodyPost_ret (v:=bV ⟨o,sq,tm,rc.1,rr.1⟩ ca ea cc ec) (by simp [results,Tryz.results164,go_sem,f0,f1,f2,f3,f4,hlenC,hlenE]) rfl ⟨ca,ea,cc,ec,ms,rfl,HMS.out.symm, ?_,HY.out.1,HY.out.2⟩;have hp2:∀b,b ≠ w.heap.size->wF.heap[b]?=wr.heap[b]?:=HP.out;show OwB wF w.heap.size (.slice ca rc.1.length cc) (.slice ea rr.1.length ec) rc.1 ms;rw [hlenC,hlenE];exact(HO2.out.kept (fun b _ h2=>hp2 b (by omega))).mono (by omega)
end Go.Proofs.YtfmcngncaffloabGreatDoor
namespace Go.Proofs.YtfmcngncaffloabGreatDoor.Wv
theorem two_first(l:List UInt8)(h:2<=l.length):two true l (some 0)=num2 l:=by
 simp [two,one,nxt,num2,show 0<l.length by omega,show 1<l.length by omega]
theorem nxt_first(l:List UInt8)(h:2<=l.length):nxt2 l (some 0)=some 2:=by
 simp [nxt2,nxt,show 0<l.length by omega,show 1<l.length by omega]
theorem nxt_short(l:List UInt8)(h:l.length<2):nxt2 l (some 0)=none:=by
 unfold nxt2;by_cases h0:0<l.length
 ·simp [nxt,h0,show¬1<l.length by omega]
 ·simp [nxt,h0]
theorem num2_le(l:List UInt8):0<=num2 l∧num2 l<=65535:=by
 have h1:=byte_lt (l.getD 0 0);have h2:=byte_lt (l.getD 1 0);unfold num2;omega
end Go.Proofs.YtfmcngncaffloabGreatDoor.Wv
namespace Go.Proofs.YtfmcngncaffloabGreatDoor
open Go.RowKit Go.Proofs.Tryz
set_option maxRecDepth 100000
theorem zqc(l:List UInt8)(w:World)(g0:Gd w)(h:l.length<2):
  Calls prog 163 #[.string ⟨l.toArray⟩] w fun e w'=>(∃n y,e= .returned (.tuple #[.pointer none,FltF n y]))∧Below w.heap.size w w':=by
 have hlen:l.length<=9223372036854775807:=by omega
 have G0:Hid (Gd w):=g0;have HR:Hid (Rd (w.alloc (.cells #[.string ⟨l.toArray⟩,I 0, .nilIface] 245)) w.heap.size l (some 0)):=heap_alloc_new w _;have HB:Hid (Below w.heap.size w (w.alloc (.cells #[.string ⟨l.toArray⟩,I 0, .nilIface] 245))):=(Below.refl _ _).alloc (ac _) _;have HQ:Hid (Wv.nxt2 l (some 0)=none):=Wv.nxt_short l h;clear g0;go_enter func163,ntmps163;go_wp2_with fail
 refine(zel l (some 0) w.heap.size _ w G0.out HB.out (ac _) HR.out hlen).mono ?_;rintro e w1 ⟨rfl,hR,hG⟩;rw [HQ.out] at hR;obtain⟨a,n,y,hR⟩:=hR;have HB1:Hid (Below w.heap.size w w1):=za8 HB.out hG (ac _);have c2:w1.cell? ⟨w.heap.size,2,none⟩=some (FltF n y):=hR.cell 2;clear hR hG HR;go_wp2;go_region
 all_goals
  (go_wp2
   go_ret2
   exact⟨⟨_,_,rfl⟩,HB1.out.drew⟩)
theorem zw9(l:List UInt8)(w:World)(g0:Gd w)(h:2<=l.length)(hlen:l.length<=9223372036854775807)(hn:¬Wv.num2 l=l.length):
  Calls prog 163 #[.string ⟨l.toArray⟩] w fun e w'=>(∃n y,e= .returned (.tuple #[.pointer none,FltF n y]))∧Below w.heap.size w w':=by
 have G0:Hid (Gd w):=g0;have hs:=zaz l;have HR:Hid (Rd (w.alloc (.cells #[.string ⟨l.toArray⟩,I 0, .nilIface] 245)) w.heap.size l (some 0)):=heap_alloc_new w _;have HB:Hid (Below w.heap.size w (w.alloc (.cells #[.string ⟨l.toArray⟩,I 0, .nilIface] 245))):=(Below.refl _ _).alloc (ac _) _;have HQ:Hid (Wv.nxt2 l (some 0)=some 2):=Wv.nxt_first l h;have HT:Hid (Wv.two true l (some 0)=Wv.num2 l):=Wv.two_first l h;clear g0;go_enter func163,ntmps163;go_wp2_with fail
 refine(zel l (some 0) w.heap.size _ w G0.out HB.out (ac _) HR.out hlen).mono ?_;rintro e w1 ⟨rfl,hR,hG⟩;rw [HQ.out] at hR;rw [HT.out];have HB1:Hid (Below w.heap.size w w1):=za8 HB.out hG (ac _);have c1:w1.cell? ⟨w.heap.size,1,none⟩=some (I 2):=Blk.cell hR 1;have c2:w1.cell? ⟨w.heap.size,2,none⟩=some .nilIface:=Blk.cell hR 2;obtain⟨ad,ha⟩:=(G0.out.kept HB1.out).len;have hz:=zad ha;clear hR hG HR;generalize Wv.num2 l=nn at *
 have hn':(nn==(l.length:Int))=false:=beq_eq_false_iff_ne.2 hn;have hn2:(nn !=(l.length:Int))=true:=by rw [bne,hn'];rfl
 go_wp2;go_region
 all_goals
  (go_wp2
   go_ret2
   exact⟨⟨_,_,rfl⟩,HB1.out.drew⟩)
def opens(l:List UInt8):Prop:=4<=l.length∧Wv.num2 l=l.length∧Wv.tail4 l=Wv.be4 (Wv.sum (Wv.body l):Nat)
theorem zw8(l:List UInt8)(w:World)(g0:Gd w)(h:2<=l.length)(hlen:l.length<=9223372036854775807)(hn:Wv.num2 l=l.length)(ho:¬opens l):
  Calls prog 163 #[.string ⟨l.toArray⟩] w fun e w'=>(∃n y,e= .returned (.tuple #[.pointer none,FltF n y]))∧Below w.heap.size w w':=by
 have G0:Hid (Gd w):=g0;have hs:=zaz l;have h6:l.length<=65535:=by have:=(Wv.num2_le l).2;omega
 have HR:Hid (Rd (w.alloc (.cells #[.string ⟨l.toArray⟩,I 0, .nilIface] 245)) w.heap.size l (some 0)):=heap_alloc_new w _;have HB:Hid (Below w.heap.size w (w.alloc (.cells #[.string ⟨l.toArray⟩,I 0, .nilIface] 245))):=(Below.refl _ _).alloc (ac _) _;have HQ:Hid (Wv.nxt2 l (some 0)=some 2):=Wv.nxt_first l h;have HT:Hid (Wv.two true l (some 0)=(l.length:Int)):=(Wv.two_first l h).trans hn
 have HS:Hid (∀w1:World,Calls prog 167 #[.string ⟨l.toArray⟩] w1 fun e w'=>e= .returned (.tuple #[.string ⟨#[]⟩, .bool false])∧Below w1.heap.size w1 w'):=by
  intro w1;by_cases h4:4<=l.length
  ·exact zo3 l w1 h4 h6 (fun e=>ho ⟨h4,hn,e⟩)
  ·exact zo2 l w1 (by omega)
 clear g0 ho hn;go_enter func163,ntmps163;go_wp2_with fail
 refine(zel l (some 0) w.heap.size _ w G0.out HB.out (ac _) HR.out hlen).mono ?_;rintro e w1 ⟨rfl,hR,hG⟩;rw [HQ.out] at hR;rw [HT.out];have HB1:Hid (Below w.heap.size w w1):=za8 HB.out hG (ac _);have HK:Hid (Blk w1 w.heap.size #[.string ⟨l.toArray⟩,I 2, .nilIface] 245):=hR;have c2:w1.cell? ⟨w.heap.size,2,none⟩=some .nilIface:=HK.out.cell 2;clear hR hG HR;go_wp2_with fail
 refine(HS.out _).mono ?_;rintro e w2 ⟨rfl,hb2⟩;have HB2:Hid (Below w.heap.size w w2):=HB1.out.trans (hb2.mono HB1.out.size);have c1:w2.cell? ⟨w.heap.size,1,none⟩=some (I 2):=zaa hb2 (HK.out.cell 1);obtain⟨ad,ha⟩:=(G0.out.kept HB2.out).sum;have hz:=zad ha;clear hb2 c2;go_wp2;go_region
 all_goals
  (go_wp2
   go_ret2
   exact⟨⟨_,_,rfl⟩,HB2.out.drew⟩)
theorem zf7(l:List UInt8)(w:World)(g0:Gd w)(ho:opens l):
  Calls prog 163 #[.string ⟨l.toArray⟩] w fun e w'=>e= .returned (.tuple #[.pointer (some ⟨w.heap.size,0,none⟩), .nilIface])∧Rd w' w.heap.size (Wv.body l) (some 2)∧Below w.heap.size w w':=by
 obtain⟨h4,hn,ht⟩:=ho;have G0:Hid (Gd w):=g0;have hs:=zaz l;have h6:l.length<=65535:=by have:=(Wv.num2_le l).2;omega
 have HR:Hid (Rd (w.alloc (.cells #[.string ⟨l.toArray⟩,I 0, .nilIface] 245)) w.heap.size l (some 0)):=heap_alloc_new w _;have HB:Hid (Below w.heap.size w (w.alloc (.cells #[.string ⟨l.toArray⟩,I 0, .nilIface] 245))):=(Below.refl _ _).alloc (ac _) _;have HQ:Hid (Wv.nxt2 l (some 0)=some 2):=Wv.nxt_first l (by omega);have HT:Hid (Wv.two true l (some 0)=(l.length:Int)):=(Wv.two_first l (by omega)).trans hn;have HS:Hid (∀w1:World,Calls prog 167 #[.string ⟨l.toArray⟩] w1 fun e w'=>e= .returned (.tuple #[.string ⟨(Wv.body l).toArray⟩, .bool true])∧Below w1.heap.size w1 w'):=fun w1=>zl4 l w1 h4 h6 ht
 clear g0 hn ht;go_enter func163,ntmps163;go_wp2_with fail
 refine(zel l (some 0) w.heap.size _ w G0.out HB.out (ac _) HR.out (by omega)).mono ?_;rintro e w1 ⟨rfl,hR,hG⟩;rw [HQ.out] at hR;rw [HT.out];have HB1:Hid (Below w.heap.size w w1):=za8 HB.out hG (ac _);have HK:Hid (Blk w1 w.heap.size #[.string ⟨l.toArray⟩,I 2, .nilIface] 245):=hR;have c2:w1.cell? ⟨w.heap.size,2,none⟩=some .nilIface:=HK.out.cell 2;clear hR hG HR;go_wp2_with fail
 refine(HS.out _).mono ?_;rintro e w2 ⟨rfl,hb2⟩;have HB2:Hid (Below w.heap.size w w2):=HB1.out.trans (hb2.mono HB1.out.size);have HK2:Hid (Blk w2 w.heap.size #[.string ⟨l.toArray⟩,I 2, .nilIface] 245):=HK.out.kept hb2 HK.out.lt;have c0:w2.cell? ⟨w.heap.size,0,none⟩=some (.string ⟨l.toArray⟩):=HK2.out.cell 0;have z0:=HK2.out.frozen 0;clear hb2 c2;go_wp2;go_ret2;exact⟨rfl,HK2.out.set 0 _,HB2.out.setCell (ac _) _⟩
abbrev zeroBat:Value:= .agg #[I 0,I 0,I 0, .slice none 0 0, .slice none 0 0]
theorem fopen_no(l:List UInt8)(w:World)(g0:Gd w)(hlen:l.length<=9223372036854775807)(ho:¬opens l):
  Calls prog 163 #[.string ⟨l.toArray⟩] w fun e w'=>(∃n y,e= .returned (.tuple #[.pointer none,FltF n y]))∧Below w.heap.size w w':=by
 by_cases h:l.length<2
 ·exact zqc l w g0 h
 ·by_cases hn:Wv.num2 l=l.length
  ·exact zw8 l w g0 (by omega) hlen hn ho
  ·exact zw9 l w g0 (by omega) hlen hn
theorem znu{w:World}{base:Nat}{e:TypeId}{size n c:Nat}{a:Option Addr}{xs:List Value}(h:w.ownsRow base e size (.slice a n c) n xs):At w a xs:=by
 rcases h.2 with⟨h2,hn⟩ | ⟨g,cap,cur,hv,_⟩
 ·have:xs= []:=by have:=h.1;rw [hn,Nat.zero_mul] at this;exact aw this
  subst this;intro j u hj;simp at hj
 ·cases hv
  exact zsc h
theorem OwB.bat{w:World}{base:Nat}{b:Wv.Bt}{ca ea:Option Addr}{cc ec:Nat}{ms:List Em}(h:OwB w base (.slice ca b.clock.length cc) (.slice ea b.effs.length ec) b.clock ms)(he:b.effs=ms.map (·.e)):BatAt w b ca ea ms:=by
 refine⟨znu h.clock,he, ?_,fun m hm=>znu (h.dots m hm)⟩;have:=h.cells;have hl:b.effs.length=ms.length:=by rw [he];simp
 rw [hl] at this;exact znu this
theorem zqh(l:List UInt8)(w:World)(g0:Gd w)(hlen:l.length<=9223372036854775807)(ho:¬opens l):
  Calls prog 126 #[.string ⟨l.toArray⟩] w fun e w'=>(∃n y,e= .returned (.tuple #[zeroBat,FltF n y]))∧Below w.heap.size w w':=by
 have HA:Hid (Below w.heap.size w (w.alloc (.cells #[.int .i64 0, .int .i64 0, .int .i64 0, .slice none 0 0, .slice none 0 0] 134))):=(Below.refl _ _).alloc (ac _) _;have HK:Hid (Blk (w.alloc (.cells #[.int .i64 0, .int .i64 0, .int .i64 0, .slice none 0 0, .slice none 0 0] 134)) w.heap.size #[.int .i64 0, .int .i64 0, .int .i64 0, .slice none 0 0, .slice none 0 0] 134):=heap_alloc_new w _;have G0:Hid (Gd (w.alloc (.cells #[.int .i64 0, .int .i64 0, .int .i64 0, .slice none 0 0, .slice none 0 0] 134))):=g0.kept HA.out;have HO:Hid (¬opens l):=ho;clear g0 ho;go_enter func126,ntmps126;go_wp2_with fail
 generalize w.alloc (.cells #[.int .i64 0, .int .i64 0, .int .i64 0, .slice none 0 0, .slice none 0 0] 134)=wA at *
 refine(fopen_no l wA G0.out hlen HO.out).mono ?_;rintro e w1 ⟨⟨n,y,rfl⟩,hb1⟩;have HB1:Hid (Below w.heap.size w w1):=HA.out.trans (hb1.mono HA.out.size);have HK1:Hid (Blk w1 w.heap.size #[.int .i64 0, .int .i64 0, .int .i64 0, .slice none 0 0, .slice none 0 0] 134):=HK.out.kept hb1 HK.out.lt;clear hb1 HK;have k0:w1.cell? ⟨w.heap.size,0,none⟩=some (.int .i64 0):=HK1.out.cell 0;have z0:=HK1.out.frozen 0;have k1:w1.cell? ⟨w.heap.size,1,none⟩=some (.int .i64 0):=HK1.out.cell 1;have z1:=HK1.out.frozen 1;have k2:w1.cell? ⟨w.heap.size,2,none⟩=some (.int .i64 0):=HK1.out.cell 2;have z2:=HK1.out.frozen 2;have k3:w1.cell? ⟨w.heap.size,3,none⟩=some (.slice none 0 0):=HK1.out.cell 3;have z3:=HK1.out.frozen 3;have k4:w1.cell? ⟨w.heap.size,4,none⟩=some (.slice none 0 0):=HK1.out.cell 4;have z4:=HK1.out.frozen 4;go_wp2;have HF:Hid (Blk (put5 w1 w.heap.size (.int .i64 0) (.int .i64 0) (.int .i64 0) (.slice none 0 0) (.slice none 0 0)) w.heap.size #[.int .i64 0, .int .i64 0, .int .i64 0, .slice none 0 0, .slice none 0 0] 134):=zdy HK1.out _ _ _ _ _;have HY:Hid (Below w.heap.size w (put5 w1 w.heap.size (.int .i64 0) (.int .i64 0) (.int .i64 0) (.slice none 0 0) (.slice none 0 0))):=(((((HB1.out.setCell (ac _) _).setCell (ac _) _).setCell (ac _) _).setCell (ac _) _).setCell (ac _) _)
 have HP:Hid (∀bb,bb ≠ w.heap.size->(put5 w1 w.heap.size (.int .i64 0) (.int .i64 0) (.int .i64 0) (.slice none 0 0) (.slice none 0 0)).heap[bb]?=w1.heap[bb]?):=fun bb hk=>zh4 _ _ _ _ _ _ _ bb hk
 unfold put5 at HF HY HP;generalize (((((w1.setCell ⟨w.heap.size,0,none⟩ (.int .i64 0)).setCell ⟨w.heap.size,1,none⟩ (.int .i64 0)).setCell ⟨w.heap.size,2,none⟩ (.int .i64 0)).setCell ⟨w.heap.size,3,none⟩ (.slice none 0 0)).setCell ⟨w.heap.size,4,none⟩ (.slice none 0 0))=wF at *
 have f0:wF.cell? ⟨w.heap.size,0,none⟩=some (.int .i64 0):=HF.out.cell 0;have f1:wF.cell? ⟨w.heap.size,1,none⟩=some (.int .i64 0):=HF.out.cell 1;have f2:wF.cell? ⟨w.heap.size,2,none⟩=some (.int .i64 0):=HF.out.cell 2;have f3:wF.cell? ⟨w.heap.size,3,none⟩=some (.slice none 0 0):=HF.out.cell 3;have f4:wF.cell? ⟨w.heap.size,4,none⟩=some (.slice none 0 0):=HF.out.cell 4;refine bodyPost_ret (v:= .tuple #[zeroBat,FltF n y]) (by simp [results,Tryz.results126,go_sem,f0,f1,f2,f3,f4]) rfl ⟨⟨_,_,rfl⟩,HY.out⟩
structure Dw(w wA wi:World)(D base:Nat)(b:Wv.Bt)(ca ea:Option Addr)(cc ec:Nat)(ms:List Em):Prop where
 below:Below wA.heap.size wA wi
 kR:Blk wi w.heap.size #[.int .i64 0, .int .i64 0, .int .i64 0, .slice none 0 0, .slice none 0 0] 134
 kD:Blk wi D #[I b.o,I b.s,I b.t, .slice ca b.clock.length cc, .slice ea b.effs.length ec] 134
 ob:OwB wi base (.slice ca b.clock.length cc) (.slice ea b.effs.length ec) b.clock ms
 lt:w.heap.size<wA.heap.size
 ltb:wA.heap.size<base
 ltD:wA.heap.size<D
theorem Dw.kept{w wA wi wj:World}{D base:Nat}{b:Wv.Bt}{ca ea:Option Addr}{cc ec:Nat}{ms:List Em}(h:Dw w wA wi D base b ca ea cc ec ms)(hb:Below wi.heap.size wi wj):Dw w wA wj D base b ca ea cc ec ms:=
 ⟨h.below.trans (hb.mono h.below.size),h.kR.kept hb h.kR.lt,h.kD.kept hb h.kD.lt,h.ob.kept (fun b h1 _=>hb.block b h1),h.lt,h.ltb,h.ltD⟩
theorem Dw.drewN{w wA wi:World}{D base:Nat}{b:Wv.Bt}{ca ea:Option Addr}{cc ec:Nat}{ms:List Em}(h:Dw w wA wi D base b ca ea cc ec ms)(n:Nat):Dw w wA (wi.drewN n) D base b ca ea cc ec ms:=
 h.kept (za7 (Below.refl _ _) n)
theorem Dw.read{w wA wi wj:World}{D base:Nat}{b:Wv.Bt}{ca ea:Option Addr}{cc ec:Nat}{ms:List Em}(h:Dw w wA wi D base b ca ea cc ec ms)(hg:wi.grownBy wj (some wA.heap.size)):Dw w wA wj D base b ca ea cc ec ms:=by
 have h1:=h.lt;have h2:=h.ltb;have h3:=h.ltD;exact⟨za8 h.below hg (ac _),h.kR.grown hg (by simp;omega),h.kD.grown hg (by simp;omega),h.ob.kept (fun b hb1 hb2=>hg.block b hb1 (by simp;omega)),h1,h2,h3⟩
theorem Rd.drewN{w:World}{g:Nat}{c:List UInt8}{q:Wv.St}(h:Rd w g c q)(n:Nat):Rd (w.drewN n) g c q:=by
 cases q with
 | some k=>exact h
 | none=>obtain⟨b,n,y,h⟩:=h;exact⟨b,n,y,h⟩
theorem zxi(c:List UInt8)(q:Wv.St):(Wv.effF true c q).1.dots.length<=255:=by
 show(Wv.effD true c q).1.length<=255;unfold Wv.effD;split
 ·rw [Wv.run_len];have:=Wv.one_lt c (Wv.eff6 true c q);omega
 ·simp
theorem zua{α:Type}(F:Wv.St->α×Wv.St)(P:α->Prop)(hF:∀q,P (F q).1):∀(n:Nat) (q:Wv.St),∀e∈(Wv.run F n q).1,P e
 | 0,_,_,h=>by cases h
 | n+1,q,e,h=>by
  rw [Wv.run,ao,aB] at h;rcases h with h | rfl
  ·exact zua F P hF n q e h
  ·exact hF _
theorem zlf(c:List UInt8)(q:Wv.St):(Wv.batF true c q).1.clock.length<=9223372036854775807∧(Wv.batF true c q).1.effs.length<=9223372036854775807∧∀e∈(Wv.batF true c q).1.effs,e.dots.length<=9223372036854775807:=by
 refine⟨?_, ?_, ?_⟩
 ·show(Wv.batC c q).1.length<=_
  unfold Wv.batC;rw [Wv.run_len];have:=Wv.one_lt c (Wv.nxt3 c q);omega
 ·show(Wv.batE true c q).1.length<=_
  unfold Wv.batE;rw [Wv.run_len];have:=Wv.one_lt c (Wv.batC c q).2;omega
 ·exact zua _ _ (fun q=>by have:=zxi c q;omega) _ _
