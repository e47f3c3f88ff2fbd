import Derived.Test.YtfmcngncaffloabGreatDoorJ45AnD
set_option maxHeartbeats 8000000
namespace Go.Proofs.YtfmcngncaffloabGreatDoor
open Go.RowKit Go.Shelf Go.Proofs.Tryz
set_option maxRecDepth 100000
attribute [local go_sem] Oper.semAt_some
theorem zo8(own:Clr)(c p:Nat)(R:Rp)(w:World)(h:RpAt w own c p R)(hst:R.st ≠ 2):
  Calls prog 62 #[.pointer (some ⟨p,0,none⟩)] w fun e w'=>e= .returned (I 5)∧ROk w own c p R w':=by
 have HR:Hid (RpAt w own c p R):=h;obtain⟨cg,cc,hp,mv,hv,ev,hs,es,h⟩:=h;have c1:w.cell? ⟨p,1,none⟩=some (I R.st):=h.blk.cell 1;have hpl:p<w.heap.size:=h.blk.lt;clear h;go_enter func62,ntmps62;go_wp2;go_ret;exact⟨rfl,ROk.below HR.out ((Below.refl _ _).alloc (ac _) _)⟩
theorem rs_mv{w:World}{own:Clr}{c p i n:Nat}{cg cc hp:Nat}{mv hv ev:Value}{hs:List Bm}{es:List Em}(h:RpIn w own c p (newR i n) cg cc hp mv hv ev hs es):∃mb,mv= .map (some mb):=by
 rcases h.obs with⟨h1,_⟩ | ⟨mb,vs,e,_⟩
 ·cases h1
 ·exact⟨mb,e⟩
theorem rs_ev{w:World}{own:Clr}{c p i n:Nat}{cg cc hp:Nat}{mv hv ev:Value}{hs:List Bm}{es:List Em}(h:RpIn w own c p (newR i n) cg cc hp mv hv ev hs es):∃a k,ev= .slice a 0 k:=by
 obtain⟨a,k,e⟩:=zd0 h.effs.row;have h2:([]:List Wv.Ef)=es.map (·.e):=h.effsE;have h3:es= []:=by cases es with | nil=>rfl | cons=>cases h2
 rw [h3] at e;exact⟨a,k,e⟩
structure Rs3(w w3:World)(own own3:Clr)(c p q:Nat)(R:Rp)(i cg cc hp:Nat)(mv ev:Value)(cg3 cc3 hp3:Nat)(mv3 hv3 ev3:Value)(hs3:List Bm)(es3:List Em):Prop where
 old:Blk w3 p #[I R.n,I 2, .slice (some ⟨cg,0,none⟩) R.clock.length cc,I R.time,mv, .string ⟨R.log.toArray⟩,I R.synced, .pointer (some ⟨hp,0,none⟩),ev] 110
 new:RpIn w3 own3 c q (newR i R.clock.length) cg3 cc3 hp3 mv3 hv3 ev3 hs3 es3
 box:w3.cell? ⟨w.heap.size,0,none⟩=some (.pointer (some ⟨p,0,none⟩))
 lft:w3.cell? ⟨w.heap.size+1,0,none⟩=some (.string ⟨R.log.toArray⟩)
 ext:Ext own own3 w.heap.size
 bel:Below w.heap.size w w3
 pw:p<w.heap.size
 own:own3 p=c
 bx:own3 w.heap.size=999
structure RsC(w wx:World)(own own3:Clr)(c p:Nat)(R R':Rp):Prop where
 rp:RpAt wx own3 c p R'
 box:wx.cell? ⟨w.heap.size,0,none⟩=some (.pointer (some ⟨p,0,none⟩))
 lft:wx.cell? ⟨w.heap.size+1,0,none⟩=some (.string ⟨R.log.toArray⟩)
 ext:Ext own own3 w.heap.size
 tch:Tch (fun k=>k=p) w wx
 bx:own3 w.heap.size=999
theorem Rs3.fin{w w3 W:World}{own own3:Clr}{c p q:Nat}{R:Rp}{i cg cc hp:Nat}{mv ev:Value}{cg3 cc3 hp3:Nat}{mv3 hv3 ev3:Value}{hs3:List Bm}{es3:List Em}(h:Rs3 w w3 own own3 c p q R i cg cc hp mv ev cg3 cc3 hp3 mv3 hv3 ev3 hs3 es3)(hc0:0<c)(hT:Tch (fun k=>k=p) w3 W)
  (hb:Blk W p #[I (newR i R.clock.length).n,I (newR i R.clock.length).st, .slice (some ⟨cg3,0,none⟩) (newR i R.clock.length).clock.length cc3,I (newR i R.clock.length).time,mv3, .string ⟨(newR i R.clock.length).log.toArray⟩,I (newR i R.clock.length).synced, .pointer (some ⟨hp3,0,none⟩),ev3] 110):∃own3,RsC w W own own3 c p R (newR i R.clock.length):=by
 have hw:p ≠ w.heap.size:=by have:=h.pw;omega
 have hw2:p ≠ w.heap.size+1:=by have:=h.pw;omega
 refine⟨own3,⟨_,_,_,_,_,_,_,_,rs_copy h.new hc0 h.own hT hb (blk_ne h.new.clk h.old (by decide)) ?_⟩,zbb h.box (hT.block _ (zad h.box) (fun e=>hw e.symm)),zbb h.lft (hT.block _ (zad h.lft) (fun e=>hw2 e.symm)),h.ext,(Tch.below (F:=fun k=>k=p) h.bel).then hT,h.bx⟩;rintro rfl;rcases h.new.obs with⟨_,e⟩ | ⟨mb,vs,e,_,hm,_⟩
 ·cases e
 ·cases e
  obtain⟨xs,cl,hx,_⟩:=hm;cases h.old.symm.trans hx
theorem zlq(own:Clr)(c p:Nat)(R:Rp)(w w0:World)(eb ef:Addr)(hI:zaj)(hg:Gd w0)(hen:Env w0 w own eb ef)(hc0:0<c)(hc9:c+10<999)(h:RpAt w own c p R)(hst:R.st=2)(hn0:0<=R.n)(hcl:R.clock.length<=4)(hl:R.log.length<=10000000):
  Calls prog 62 #[.pointer (some ⟨p,0,none⟩)] w fun e w'=>e= .returned (I 0)∧ROk w own c p (zb6 R) w':=by
 obtain⟨cg,cc,hp,mv,hv,ev,hs,es,h⟩:=h;have HR:Hid (RpIn w own c p R cg cc hp mv hv ev hs es):=h;obtain⟨i,hi⟩:∃i:Nat,R.n=i:=⟨R.n.toNat,by omega⟩
 have c0:w.cell? ⟨p,0,none⟩=some (I R.n):=h.blk.cell 0;have c1:w.cell? ⟨p,1,none⟩=some (I 2):=by rw [←hst];exact h.blk.cell 1
 have c2:w.cell? ⟨p,2,none⟩=some (.slice (some ⟨cg,0,none⟩) R.clock.length cc):=h.blk.cell 2;have c5:w.cell? ⟨p,5,none⟩=some (.string ⟨R.log.toArray⟩):=h.blk.cell 5;have c6:w.cell? ⟨p,6,none⟩=some (I R.synced):=h.blk.cell 6;have hpl:p<w.heap.size:=h.blk.lt;clear h;refine(callsIn_wide (n:=6)).1 (callsIn_of_wp_marks func62 rfl trivial (wpIn_wide.2 ?_) rfl);simp only [ntmps62,List.size_toArray,aJ,List.length_nil,Nat.reduceAdd,Nat.reduceSub,Array.replicate_succ,Array.replicate_zero,List.push_toArray,List.append_toArray,List.nil_append,aR];go_wp2_with fail
 obtain⟨wA,hwA⟩:∃wA,wA=(w.alloc (.cells #[.pointer (some ⟨p,0,none⟩)] 58)).alloc (.cells #[.string ⟨R.log.toArray⟩, .int .i64 R.synced] 106):=⟨_,rfl⟩
 have hBA:Below w.heap.size w wA:=by rw [hwA];exact((Below.refl _ _).alloc (ac _) _).alloc (by simp) _
 have hxA:wA.cell? ⟨w.heap.size,0,none⟩=some (.pointer (some ⟨p,0,none⟩)):=by
  rw [hwA];exact zaa ((Below.refl _ _).alloc (ac _) _) (Blk.cell (heap_alloc_new w (.cells #[.pointer (some ⟨p,0,none⟩)] 58)) 0)
 have hlA:wA.cell? ⟨w.heap.size+1,0,none⟩=some (.string ⟨R.log.toArray⟩):=by
  rw [hwA];have:=Blk.cell (heap_alloc_new (w.alloc (.cells #[.pointer (some ⟨p,0,none⟩)] 58)) (.cells #[.string ⟨R.log.toArray⟩, .int .i64 R.synced] 106)) 0;rw [World.size_alloc] at this;exact this
 have HNW:Hid (∀wx:World,Calls prog 54 #[I i,I R.clock.length] wx fun e w'=>RnewOk wx (newTo own w.heap.size 999) c i R.clock.length e w'):=fun wx=>zo9 _ c i _ wx hcl
 have HW3:Hid (∀w3 q own3 cg3 cc3 hp3 mv3 hv3 ev3 hs3 es3,Below wA.heap.size wA w3->Ext (newTo own w.heap.size 999) own3 wA.heap.size->RpIn w3 own3 c q (newR i R.clock.length) cg3 cc3 hp3 mv3 hv3 ev3 hs3 es3->Rs3 w w3 own own3 c p q R i cg cc hp mv ev cg3 cc3 hp3 mv3 hv3 ev3 hs3 es3):=by
  intro w3 q own3 cg3 cc3 hp3 mv3 hv3 ev3 hs3 es3 hb hE hq;have hb2:=hBA.trans (hb.mono hBA.size);have hsz:w.heap.size<wA.heap.size:=zad hxA;refine⟨?_,hq,zaa hb hxA,zaa hb hlA,fun k hk=>(hE k (by omega)).trans (zae _ _ _ _ hk),hb2,hpl, ?_, ?_⟩
  ·have:=HR.out.blk.kept hb2 hpl
   rw [hst] at this;exact this
  ·rw [hE p (by omega),zae _ _ _ _ hpl];exact HR.out.own1
  ·rw [hE _ hsz];exact zaf _ _ _ _ (ac _)
 have a0:wA.cell? ⟨p,0,none⟩=some (I i):=by rw [←hi];exact zaa hBA c0
 have a2:wA.cell? ⟨p,2,none⟩=some (.slice (some ⟨cg,0,none⟩) R.clock.length cc):=zaa hBA c2;have hpA:p<wA.heap.size:=Nat.lt_of_lt_of_le hpl hBA.size;change Code.wp _ _ _ _ ((w.alloc (.cells #[.pointer (some ⟨p,0,none⟩)] 58)).alloc (.cells #[.string ⟨R.log.toArray⟩, .int .i64 R.synced] 106));rw [←hwA];clear hwA c0 c1 c2 c5 c6 hBA;go_cut [] from 15 to 28 (fun wx=>∃own3,Hid (RsC w wx own own3 c p R (newR i R.clock.length)))
 case first=>
  refine wp_region_noPanic ?_;go_region_law ((go_simp;go_at_call 54;refine(HNW.out wA.drew).mono ?_;rintro e w3 ⟨q,own3,rfl,hb3,hE3,cg3,cc3,hp3,mv3,hv3,ev3,hs3,es3,hq3⟩;obtain⟨mb,rfl⟩:=rs_mv hq3;obtain⟨ae,ke,rfl⟩:=rs_ev hq3;have H3:Hid (Rs3 w w3 own own3 c p q R i cg cc hp mv ev cg3 cc3 hp3 (.map (some mb)) hv3 (.slice ae 0 ke) hs3 es3):=HW3.out w3 q own3 cg3 cc3 hp3 (.map (some mb)) hv3 (.slice ae 0 ke) hs3 es3 ((Below.refl _ _).drew.trans hb3) hE3 hq3;clear hb3 hE3 hq3;have b0:w3.cell? ⟨w.heap.size,0,none⟩=some (.pointer (some ⟨p,0,none⟩)):=H3.out.box;have d0:w3.cell? ⟨p,0,none⟩=some (I R.n):=H3.out.old.cell 0;have z0:w3.frozen? ⟨p,0,none⟩=false:=H3.out.old.frozen 0;have n0:w3.cell? ⟨q,0,none⟩=some (I (newR i R.clock.length).n):=H3.out.new.blk.cell 0;have d1:w3.cell? ⟨p,1,none⟩=some (I 2):=H3.out.old.cell 1;have z1:w3.frozen? ⟨p,1,none⟩=false:=H3.out.old.frozen 1;have n1:w3.cell? ⟨q,1,none⟩=some (I (newR i R.clock.length).st):=H3.out.new.blk.cell 1;have d2:w3.cell? ⟨p,2,none⟩=some (.slice (some ⟨cg,0,none⟩) R.clock.length cc):=H3.out.old.cell 2;have z2:w3.frozen? ⟨p,2,none⟩=false:=H3.out.old.frozen 2;have n2:w3.cell? ⟨q,2,none⟩=some (.slice (some ⟨cg3,0,none⟩) (newR i R.clock.length).clock.length cc3):=H3.out.new.blk.cell 2;have d3:w3.cell? ⟨p,3,none⟩=some (I R.time):=H3.out.old.cell 3;have z3:w3.frozen? ⟨p,3,none⟩=false:=H3.out.old.frozen 3;have n3:w3.cell? ⟨q,3,none⟩=some (I (newR i R.clock.length).time):=H3.out.new.blk.cell 3;have d4:w3.cell? ⟨p,4,none⟩=some mv:=H3.out.old.cell 4;have z4:w3.frozen? ⟨p,4,none⟩=false:=H3.out.old.frozen 4;have n4:w3.cell? ⟨q,4,none⟩=some (.map (some mb)):=H3.out.new.blk.cell 4;have d5:w3.cell? ⟨p,5,none⟩=some (.string ⟨R.log.toArray⟩):=H3.out.old.cell 5;have z5:w3.frozen? ⟨p,5,none⟩=false:=H3.out.old.frozen 5;have n5:w3.cell? ⟨q,5,none⟩=some (.string ⟨(newR i R.clock.length).log.toArray⟩):=H3.out.new.blk.cell 5;have d6:w3.cell? ⟨p,6,none⟩=some (I R.synced):=H3.out.old.cell 6;have z6:w3.frozen? ⟨p,6,none⟩=false:=H3.out.old.frozen 6;have n6:w3.cell? ⟨q,6,none⟩=some (I (newR i R.clock.length).synced):=H3.out.new.blk.cell 6;have d7:w3.cell? ⟨p,7,none⟩=some (.pointer (some ⟨hp,0,none⟩)):=H3.out.old.cell 7;have z7:w3.frozen? ⟨p,7,none⟩=false:=H3.out.old.frozen 7;have n7:w3.cell? ⟨q,7,none⟩=some (.pointer (some ⟨hp3,0,none⟩)):=H3.out.new.blk.cell 7;have d8:w3.cell? ⟨p,8,none⟩=some ev:=H3.out.old.cell 8;have z8:w3.frozen? ⟨p,8,none⟩=false:=H3.out.old.frozen 8;have n8:w3.cell? ⟨q,8,none⟩=some (.slice ae 0 ke):=H3.out.new.blk.cell 8))
  all_goals
   (refine NoPanic.normal ?_
    go_wp2_with fail
    go_meet
    exact H3.out.fin hc0 (tch9 _ _ _ _ _ _ _ _ _ _ _) (blk9 H3.out.old _ _ _ _ _ _ _ _ _))
 case rest=>
  obtain⟨own3,HC⟩:=hcut;have x3:wc.cell? ⟨w.heap.size+1,0,none⟩=some (.string ⟨R.log.toArray⟩):=HC.out.lft;have HCR:Hid ((newR i R.clock.length).held= []∧(newR i R.clock.length).clock.length=R.clock.length):=⟨rfl,by show(List.replicate _ _).length=_;simp⟩
  obtain⟨R0,HR0⟩:∃R0,Hid (newR i R.clock.length=R0):=⟨_,rfl⟩
  have HOK:Hid (Rok R0):=by have:=Rok.new i R.clock.length hcl;rw [HR0.out] at this;exact this
  rw [HR0.out] at HC HCR;obtain⟨RF,HRF⟩:∃RF,Hid (zau R.log.length R0 R.log=RF):=⟨_,rfl⟩
  have HRS:Hid (syncR RF=zb6 R):=by
   show _=_;rw [←HRF.out,←HR0.out];unfold zb6;rw [hi,aj]
  have HEN:Hid (Env w0 w own eb ef):=hen;have HG:Hid (Gd w0):=hg;clear hxA hlA HNW HW3 a0 a2 hpA hen hg hi;clear wA;go_wp2_with fail
  refine(zi9 (w.heap.size+1) 0 R.log wc HC.out.lft).mono ?_;rintro e w5 ⟨rfl,hs5,hb5⟩;have HS5:Hid (w5.cell? ⟨wc.heap.size,0,none⟩=some (.string ⟨R.log.toArray⟩)):=hs5;have HB5:Hid (Below wc.heap.size wc w5):=hb5;clear hs5 hb5;go_wp2_with fail
  have hD:w.heap.size<w5.heap.size:=Nat.lt_of_lt_of_le (zad HC.out.box) HB5.out.size
  have H0:Hid (∀o1 o2,RsJ w w0 own c p R.clock.length w5.heap.size eb ef RF R.log ((w5.alloc o1).alloc o2)):=fun o1 o2=>by
   have hb:Below wc.heap.size wc ((w5.alloc o1).alloc o2):=(HB5.out.alloc HB5.out.size o1).alloc (by have:=HB5.out.size;simp;omega) o2;have ho:own p=c:=HR.out.own1;refine⟨newTo own3 wc.heap.size 999,R0,⟨?_, ?_, ?_,zaa hb HC.out.box, ?_,zaf _ _ _ _ HB5.out.size,zaf _ _ _ _ (by have:=HB5.out.size;omega),by simp⟩,HC.out.rp.keep (fun b hl _=>hb.block b hl) (fun _ _ _ b hl _=>hb.block b hl) (zab _ _ _),HOK.out,HCR.out.1,HCR.out.2,⟨R.log.length,ac _,HRF.out⟩,hl⟩
   ·exact(HEN.out.tch HC.out.tch (fun k e e2=>by rw [e2,ho] at e;omega) HC.out.ext).tch (F:=fun _=>False) (Tch.below hb) (fun _ _ h=>h) (zab _ _ _)
   ·exact HC.out.ext.trans (zab _ _ _) HC.out.tch.size
   ·exact HC.out.tch.trans (Tch.below (F:=fun _=>False) hb) (fun k _ e=>by rw [e,ho];exact⟨ac _,by omega⟩) (fun _ _ h=>h.elim)
   ·rw [zae _ _ _ _ (zad HC.out.box)];exact HC.out.bx
  refine(wpIn_wide (n:=6)).1 ?_;refine zgj 4 0 wc.heap.size R.log eb ef hI (by rfl) HS5.out (by rfl) (RsJ w w0 own c p R.clock.length w5.heap.size eb ef RF) (RsX w w0 own c p R.clock.length w5.heap.size eb ef RF) (fun r W h=>h.env HG.out) (fun r W W' h hb=>h.below hb) (fun r W o h=>h.put hD hc9 o) (fun W o h=>h.put hD hc9 o _ (Or.inr rfl)) H0.out ?hround ?hdone ?hstop
  case hround=>
   intro r x W0 W hlt hj hb hd hbat;have HRR:Hid (∀o,∃own' R',Hid (RsR w w0 own own' c p R.clock.length w5.heap.size eb ef R' x W.heap.size ((W.alloc (.cells (bmC x) 134)).putObj (w5.heap.size+1) o))∧Hid (Rok R')∧R'.held= []∧R'.clock.length=R.clock.length∧Hid (∃m,r.length<=m∧zau m R' r=RF)∧r.length<=10000000):=fun o=>rsr_of hj hb hbat hD hc9 o
   have HD:Hid (Wv.dec (fstB r)=some x.b):=hd;have HIB:Hid (Wv.isB x.b=true∧(fstB r).length<=65535):=zht hd;have HKP:Hid (Kp2 w5.heap.size W (W.alloc (.cells (bmC x) 134))):=Kp2.below ((Below.refl _ _).alloc (ac _) _) hlt;clear hj hb hd hbat HC H0 HCR HOK HRF HR0 HS5 HB5 HEN x3;gi_wp2
   refine⟨HKP.out,fun o=> ?_⟩;obtain⟨own4,R',HR4,HOK4,hhe,hcl4,HRUN,hrl⟩:=HRR.out o;obtain⟨W2,hW2⟩:∃W2,W2=(W.alloc (.cells (bmC x) 134)).putObj (w5.heap.size+1) o:=⟨_,rfl⟩
   change Code.wpIn _ _ _ _ (rPost w5.heap.size 0 (RsJ w w0 own c p R.clock.length w5.heap.size eb ef RF (r.drop (fstB r).length)) (RsX w w0 own c p R.clock.length w5.heap.size eb ef RF) ((W.alloc (.cells (bmC x) 134)).putObj (w5.heap.size+1) o)) _ ((W.alloc (.cells (bmC x) 134)).putObj (w5.heap.size+1) o);rw [←hW2] at HR4 ⊢;clear hW2 HRR HKP hlt;obtain⟨cg4,cc4,hp4,mv4,hv4,ev4,hs4,es4,hR4⟩:=HR4.out.rp;have HRP:Hid (RpIn W2 own4 c p R' cg4 cc4 hp4 mv4 hv4 ev4 hs4 es4):=hR4;clear hR4;have x1:W2.cell? ⟨w.heap.size,0,none⟩=some (.pointer (some ⟨p,0,none⟩)):=HR4.out.i.box;have y0:W2.cell? ⟨W.heap.size,0,none⟩=some (I x.b.o):=HR4.out.blk.cell 0;have y1:W2.cell? ⟨W.heap.size,1,none⟩=some (I x.b.s):=HR4.out.blk.cell 1;have y2:W2.cell? ⟨W.heap.size,2,none⟩=some (I x.b.t):=HR4.out.blk.cell 2;have y3:W2.cell? ⟨W.heap.size,3,none⟩=some (.slice x.ca x.b.clock.length x.cc):=HR4.out.blk.cell 3;have y4:W2.cell? ⟨W.heap.size,4,none⟩=some (.slice x.ea x.b.effs.length x.ec):=HR4.out.blk.cell 4;gi_wp2
   refine⟨trivial,(CallsIn.inRound _ (callsIn_wide.2 (zia p cg4 cc4 R'.clock x W2 HRP.out.clkAt HR4.out.bat.k.at.1 (zal HIB.out.1).2.1 (zal HIB.out.1).2.2.1 (aQ HOK4.out.len (by omega)) (fun j=>Int.le_trans (HOK4.out.getD j).2 (by omega)) (fun j=>Int.le_trans (by omega) (HOK4.out.getD j).1)))).mono ?_⟩;rintro e W3 ⟨rfl,hb3⟩;have HR5:Hid (RsR w w0 own (newTo own4 W2.heap.size 0) c p R.clock.length w5.heap.size eb ef R' x W.heap.size W3):=HR4.out.below hb3;have HRP5:Hid (RpIn W3 (newTo own4 W2.heap.size 0) c p R' cg4 cc4 hp4 mv4 hv4 ev4 hs4 es4):=HRP.out.keep (fun b hl _=>hb3.block b hl) (fun _ _ _ b hl _=>hb3.block b hl) (zab _ _ _);have HK3:Hid (Kp2 w5.heap.size W2 W3):=Kp2.below hb3 HR4.out.i.dlt;clear hb3 x1 y0 y1 y2 y3 y4 HR4 HRP;generalize newTo own4 W2.heap.size 0=own5 at *
   have x1:W3.cell? ⟨w.heap.size,0,none⟩=some (.pointer (some ⟨p,0,none⟩)):=HR5.out.i.box;have y0:W3.cell? ⟨W.heap.size,0,none⟩=some (I x.b.o):=HR5.out.blk.cell 0;have y1:W3.cell? ⟨W.heap.size,1,none⟩=some (I x.b.s):=HR5.out.blk.cell 1;have y2:W3.cell? ⟨W.heap.size,2,none⟩=some (I x.b.t):=HR5.out.blk.cell 2;have y3:W3.cell? ⟨W.heap.size,3,none⟩=some (.slice x.ca x.b.clock.length x.cc):=HR5.out.blk.cell 3;have y4:W3.cell? ⟨W.heap.size,4,none⟩=some (.slice x.ea x.b.effs.length x.ec):=HR5.out.blk.cell 4;cases hdu:dueB R'.clock x.b with
   | false=>
    have HX:Hid (RsX w w0 own c p R.clock.length w5.heap.size eb ef RF W3):=rs_stop HR5.out HRUN.out HD.out hdu;clear hdu;gi_wp2
    exact⟨HK3.out,rfl,HX.out⟩
   | true=>
    have HDU:Hid (dueB R'.clock x.b=true):=hdu
    have HLG:Hid (R'.log.length+(fstB r).length<=100000000):=by
     have h1:=HOK4.out.logl;have h2:=HOK4.out.sum;have h3:=HIB.out.2;show _<=_;omega
    have HNN:Hid (5*sumN R'.clock+x.b.effs.length<=100000):=by
     have h2:=HOK4.out.sum;obtain⟨_,_,_,_,_,_,_,h3⟩:=zal HIB.out.1;show _<=_;omega
    have HHS:Hid (hs4.length<=1000):=by
     have h1:=HRP5.out.heldB;rw [hhe] at h1;have h2:=aD List.length h1;rw [av] at h2;show _<=_;simp at h2;omega
    have HO1:Hid (x.b.o<(R'.clock.length:Int)):=by
     have h1:=(zbf hdu).1;have h2:=(zal HIB.out.1).2.2.1;show _<_;omega
    clear hdu;gi_wp2
    refine⟨trivial,(CallsIn.inRound _ (callsIn_wide.2 (zea own5 c p R' cg4 cc4 hp4 mv4 hv4 ev4 hs4 es4 x (fstB r) W3 hc0 HRP5.out (HR5.out.bat.k.mono (fun d e=>Or.inl e)) HHS.out HLG.out (zal HIB.out.1).2.1 HO1.out HOK4.out.obs8 (5*sumN R'.clock) HNN.out HOK4.out.bd (zhl HIB.out.1)))).mono ?_⟩;rintro e W4 ⟨rfl,hd4⟩;have HN:Hid (Kp2 w5.heap.size W3 W4∧RsJ w w0 own c p R.clock.length w5.heap.size eb ef RF (r.drop (fstB r).length) W4):=rs_next HR5.out HOK4.out hhe hcl4 HRUN.out hrl HD.out HDU.out hc0 hc9 HIB.out.1 HIB.out.2 HRP5.out hd4;clear hd4;gi_wp2
    exact⟨HK3.out.trans HN.out.1,HN.out.2⟩
  case hdone=>
   intro r W hd hj hK;have HX:Hid (RsX w w0 own c p R.clock.length w5.heap.size eb ef RF W):=hj.done hd;have HK:Hid (W.heap[w5.heap.size]?=some (.deferred (some []))):=hK;clear hd hj hK HC H0 HCR HOK HRF HR0 HS5 HB5 HEN x3 HG;gi_wp2
   obtain⟨own9,hI9,cg9,cc9,hp9,mv9,hv9,ev9,hs9,es9,hR9⟩:=HX.out;have HI9:Hid (RsI w w0 own own9 c p R.clock.length w5.heap.size eb ef W):=hI9;have HR9:Hid (RpIn W own9 c p RF cg9 cc9 hp9 mv9 hv9 ev9 hs9 es9):=hR9;have x1:W.cell? ⟨w.heap.size,0,none⟩=some (.pointer (some ⟨p,0,none⟩)):=hI9.box;clear hI9 hR9;go_wp2_with fail
   refine(zf5 own9 c p RF cg9 cc9 hp9 mv9 hv9 ev9 hs9 es9 W hc0 HR9.out).mono ?_;rintro e W5 ⟨rfl,hS5⟩;have HE:=zy0 HI9.out HR9.out.own1 hD hc0 hc9 hS5 HRS.out HK.out;clear hS5 x1;go_wp2_with fail
   refine⟨by simp, .inl ⟨_,_,rfl,run_takeDeferred HE.1, ?_⟩⟩;exact⟨_,results_tmp rfl _ _ _,rfl,HE.2 _⟩
  case hstop=>
   intro W hj hK;have HX:Hid (RsX w w0 own c p R.clock.length w5.heap.size eb ef RF W):=hj;have HK:Hid (W.heap[w5.heap.size]?=some (.deferred (some []))):=hK;clear hj hK HC H0 HCR HOK HRF HR0 HS5 HB5 HEN x3 HG;gi_wp2
   obtain⟨own9,hI9,cg9,cc9,hp9,mv9,hv9,ev9,hs9,es9,hR9⟩:=HX.out;have HI9:Hid (RsI w w0 own own9 c p R.clock.length w5.heap.size eb ef W):=hI9;have HR9:Hid (RpIn W own9 c p RF cg9 cc9 hp9 mv9 hv9 ev9 hs9 es9):=hR9;have x1:W.cell? ⟨w.heap.size,0,none⟩=some (.pointer (some ⟨p,0,none⟩)):=hI9.box;clear hI9 hR9;go_wp2_with fail
   refine(zf5 own9 c p RF cg9 cc9 hp9 mv9 hv9 ev9 hs9 es9 W hc0 HR9.out).mono ?_;rintro e W5 ⟨rfl,hS5⟩;have HE:=zy0 HI9.out HR9.out.own1 hD hc0 hc9 hS5 HRS.out HK.out;clear hS5 x1;go_wp2_with fail
   refine⟨by simp, .inl ⟨_,_,rfl,run_takeDeferred HE.1, ?_⟩⟩;exact⟨_,results_tmp rfl _ _ _,rfl,HE.2 _⟩
