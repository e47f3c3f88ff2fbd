import Derived.Test.YtfmcngncaffloabGreatDoorJ27RpJ
set_option maxHeartbeats 1600000
namespace Go.Proofs.YtfmcngncaffloabGreatDoor
open Go.RowKit Go.Proofs.Tryz
set_option maxRecDepth 100000
theorem nTakeC (p : Nat) (w : World) : (nilAhead 483 195 (.pointer (some ⟨p, 0, none⟩)) "Take").run prog w = .ok (some false) w := by kernel_rfl
theorem nTakeS (p : Nat) (w : World) : (nilAhead 483 198 (.pointer (some ⟨p, 0, none⟩)) "Take").run prog w = .ok (some false) w := by kernel_rfl
theorem nTakeR (p : Nat) (w : World) : (nilAhead 483 203 (.pointer (some ⟨p, 0, none⟩)) "Take").run prog w = .ok (some false) w := by kernel_rfl
theorem nTakeL (p : Nat) (w : World) : (nilAhead 483 205 (.pointer (some ⟨p, 0, none⟩)) "Take").run prog w = .ok (some false) w := by kernel_rfl
theorem ObAt.ahead {w : World} {own : Clr} {c : Nat} {t : TypeId} {q : Value} {o : Ob} (h : ObAt w own c (.iface t q) o) (w' : World) : (nilAhead 483 t q "Take").run prog w' = .ok (some false) w' := by
 cases o with
 | counter n=>obtain⟨p,e,_⟩:=h;cases e;exact nTakeC p w'
 | set m=>obtain⟨p,b,e,_⟩:=h;cases e;exact nTakeS p w'
 | reg m=>obtain⟨p,b,e,_⟩:=h;cases e;exact nTakeR p w'
 | list ls=>obtain⟨p,sv,e,_⟩:=h;cases e;exact nTakeL p w'
def seeTo(b:Wv.Bt)(k:Int)(o:Ob):Nat->Ob
 | 0=>o
 | i+1=>match b.effs[i]? with
  | some e=>if e.ob=k then(seeTo b k o i).take (zbi b i) e else seeTo b k o i
  | none=>seeTo b k o i
theorem zhp(own:Clr)(m n:Nat):∃d,m<d∧∀b,b<n->own b<d:=by
 induction n with
 | zero=>exact⟨m+1,by omega,fun b hb=>by omega⟩
 | succ n ih=>
  obtain⟨d,h1,h2⟩:=ih;refine⟨d+own n+1,by omega,fun b hb=> ?_⟩;by_cases hbn:b=n
  ·subst hbn;omega
  ·have:=h2 b (by omega);omega
def SeeNo(w:World)(e:Ending)(w':World):Prop:=e= .returned (.tuple #[.nilIface,I 8])∧Below w.heap.size w w'
theorem zyp(own:Clr)(c p:Nat)(R:Rp)(cg cc hp:Nat)(mv hv ev:Value)(hs:List Bm)(es:List Em)(k:Int)(w:World)(h:RpIn w own c p R cg cc hp mv hv ev hs es)(hobs:R.obs.length=8)(hk:¬(0<=k∧k<8)):
  Calls prog 66 #[.pointer (some ⟨p,0,none⟩),I k] w fun e w'=>SeeNo w e w':=by
 obtain⟨mb,vs,rfl,hmo,hom,hvl,_,hobA⟩:∃mb vs,mv= .map (some mb)∧own mb=c∧OmAt w mb vs∧vs.length=8∧R.obs.length=8∧∀j (h1:j<vs.length) (h2:j<R.obs.length),ObAt w own (c+1+j) vs[j] R.obs[j]:=by
  rcases h.obs with h | h
  ·have h8:=hobs;rw [h.1] at h8;cases h8
  ·exact h
 have c4:w.cell? ⟨p,4,none⟩=some (.map (some mb)):=h.blk.cell 4;have hlk:=zgo k w mb vs hom (by rw [hvl];exact hk);have hlk2:=zgo k w.drew mb vs (hom.same rfl) (by rw [hvl];exact hk);clear h hobA hom;go_enter func66,ntmps66;go_wp2_with fail
 exact bodyPost_ret (v:= .tuple #[.nilIface,I 8]) (by simp [results,Tryz.results66,go_sem]) rfl ⟨rfl,Below.refl _ _⟩
def SeeOk(own:Clr)(o:Ob)(w:World)(e:Ending)(w':World):Prop:=∃v d own',e= .returned (.tuple #[v,I 0])∧Ext own own' w.heap.size∧ObAt w' own' d v o∧Below w.heap.size w w'
structure SeAt(w wr:World)(own own':Clr)(c d:Nat)(v:Value)(o:Ob)(x:Bm)(bx:Nat):Prop where
 ob:ObAt wr own' d v o
 bat:BatK (fun d=>d=0∨d=c+10) wr own' x
 box:Blk wr bx (bmC x) 134
 boxc:own' bx=0
 ext:Ext own own' w.heap.size
 bel:Below w.heap.size w wr
theorem SeAt.below{w wr w2:World}{own own':Clr}{c d:Nat}{v:Value}{o:Ob}{x:Bm}{bx:Nat}(h:SeAt w wr own own' c d v o x bx)(hb:Below wr.heap.size wr w2):SeAt w w2 own (newTo own' wr.heap.size 0) c d v o x bx:=
 ⟨h.ob.keep (fun b hl _=>hb.block b hl) (zab _ _ _),h.bat.keep (fun _ _ b hl _=>hb.block b hl) (zab _ _ _),h.box.kept hb h.box.lt,(zae _ _ _ _ h.box.lt).trans h.boxc,h.ext.trans (zab _ _ _) h.bel.size,h.bel.trans (hb.mono h.bel.size)⟩
theorem SeAt.took{w wr w2:World}{own own':Clr}{c d:Nat}{v:Value}{o o2:Ob}{x:Bm}{bx:Nat}(hd:c+10<d)(hf:∀b,b<w.heap.size->own b<d)(h:SeAt w wr own own' c d v o x bx)(hT:zee own' d v o2 wr (.returned (.tuple #[])) w2):∃own2,SeAt w w2 own own2 c d v o2 x bx:=by
 obtain⟨_,own2,hE,hO,hT⟩:=hT;refine⟨own2,hO,h.bat.keep (fun e he b hl ho=>hT.block b hl (by show¬_=_;rcases he with he | he<;>omega)) hE,hT.blk h.box (by show¬_=_;rw [h.boxc];omega),(hE _ h.box.lt).trans h.boxc,h.ext.trans hE h.bel.size,h.bel.trans (hT.toBelow h.bel.size (fun k hk=>by show¬_=_;have h1:=hf k hk;have h2:=h.ext k hk;omega))⟩
theorem zyq{w w2 w4 wA:World}{own:Clr}{c d:Nat}{v:Value}{o:Ob}{x:Bm}(hO:ObAt w2 (newTo own w.heap.size d) d v o)(hB3:Below w.heap.size w w2)(hB4:Below w2.heap.size w2 w4)(hK:BatK (fun d=>d=0∨d=c+10) w4 (newTo (newTo own w.heap.size d) w2.heap.size 0) x)(hA:wA=w4.alloc (.cells (bmC x) 134)):SeAt w wA own (newTo (newTo own w.heap.size d) w2.heap.size 0) c d v o x w4.heap.size:=by
 have hBA:Below w4.heap.size w4 wA:=by rw [hA];exact(Below.refl _ _).alloc (ac _) _
 have hB:Below w2.heap.size w2 wA:=hB4.trans (hBA.mono hB4.size);exact⟨hO.keep (fun b hl _=>hB.block b hl) (zab _ _ _),hK.keep (fun _ _ b hl _=>hBA.block b hl) (Ext.refl _ _),by rw [hA];exact heap_alloc_new w4 _,zaf _ _ _ _ hB4.size,(zab _ _ _).trans (zab _ _ _) hB3.size,hB3.trans (hB.mono hB3.size)⟩
theorem zcu{b:Wv.Bt}{k:Int}{o:Ob}{N:Nat}(ho:o.bound N)(hv:∀e∈b.effs, -1000<=e.va∧e.va<=1000∧e.dots.length<=1048576):∀i,i<=b.effs.length->(seeTo b k o i).bound (N+i):=by
 intro i;induction i with
 | zero=>intro _;exact ho
 | succ i ih=>
  intro hi;have hq:b.effs[i]?=some b.effs[i]:=ag (by omega);obtain⟨h1,h2,_⟩:=hv _ (aU (by omega:i<b.effs.length));rw [seeTo,hq];show Ob.bound _ (if _ then _ else _);split
  ·exact Ob.bound_take _ _ (ih (by omega)) h1 h2
  ·exact Ob.bound_mono (ih (by omega)) (by omega)
theorem zez(own:Clr)(c p:Nat)(R:Rp)(cg cc hp:Nat)(mv hv ev:Value)(hs:List Bm)(es:List Em)(k:Nat)(o:Ob)(w:World)(h:RpIn w own c p R cg cc hp mv hv ev hs es)(hk:R.obs[k]?=some o)(hobs:R.obs.length=8)
  (hl:R.clock.length<=1000) (hn0:0<=R.n) (hn1:R.n<R.clock.length) (hs0:∀z∈R.clock,0<=z∧z<=1000000) (ht0:0<=R.time) (ht1:R.time<=1000000000)
  (N:Nat) (hN:N+R.effs.length<=100000) (hbd:o.bound N) (hval:∀e∈R.effs, -1000<=e.va∧e.va<=1000∧e.dots.length<=1048576):
  Calls prog 66 #[.pointer (some ⟨p,0,none⟩),I k] w fun e w'=>SeeOk own (seeTo (pendB R) k o R.effs.length) w e w':=by
 obtain⟨mb,vs,rfl,hmo,hom,hvl,_,hobA⟩:∃mb vs,mv= .map (some mb)∧own mb=c∧OmAt w mb vs∧vs.length=8∧R.obs.length=8∧∀j (h1:j<vs.length) (h2:j<R.obs.length),ObAt w own (c+1+j) vs[j] R.obs[j]:=by
  rcases h.obs with h | h
  ·have h8:=hobs;rw [h.1] at h8;cases h8
  ·exact h
 obtain⟨hkl,hko⟩:=af.1 hk;obtain⟨d,hd,hfr⟩:=zhp own (c+10) w.heap.size;have HFR:Hid (∀b,b<w.heap.size->own b<d):=hfr;have c4:w.cell? ⟨p,4,none⟩=some (.map (some mb)):=h.blk.cell 4;obtain⟨v,hv1⟩:∃v,vs[k]'(by omega)=v:=⟨_,rfl⟩
 have hlk:=zgn k w mb vs hom (by omega);have hlk2:=zgn k w.drew mb vs (hom.same rfl) (by omega);simp only [aj] at hlk hlk2;rw [hv1] at hlk hlk2
 have HOB:Hid (ObAt w own (c+1+k) v o):=by
  have:=hobA k (by omega) hkl;rw [hv1,hko] at this;exact this
 have HSM:Hid (o.small):=Ob.bound_small hbd (by omega);have HRW:Hid (RpIn w own c p R cg cc hp (.map (some mb)) hv ev hs es):=h;have HVL:Hid (∀e∈R.effs, -1000<=e.va∧e.va<=1000∧e.dots.length<=1048576):=hval;have HBD:Hid (o.bound N):=hbd;have HS0:Hid (∀z∈R.clock,0<=z∧z<=1000000):=hs0;clear h hobA hom hk hko hv1 hval hbd hs0 hfr;obtain⟨tv,pv,hvf⟩:=ObAt.face HOB.out;subst hvf;go_enter func66,ntmps66
 go_wp2_with (first
  | (refine zgq rfl _ _ rfl (.iface tv pv) o own (c+1+k) (by simp [Act.eval]) HOB.out HSM.out ?_;intro v2 w2 hC2;obtain⟨v3,e3,hO3,hB3⟩:=hC2;cases e3;have HO3:Hid (ObAt w2 (newTo own w.heap.size d) d v2 o):=hO3 d;have HB3:Hid (Below w.heap.size w w2):=hB3;clear hO3 hB3;obtain⟨tw,pw,hvf⟩:=ObAt.face HO3.out;subst hvf)
  | fail)
 refine(zc8 (newTo own w.heap.size d) c p R cg cc hp (.map (some mb)) hv ev hs es w2 (HRW.out.keep (fun b hb _=>HB3.out.block b hb) (fun _ _ _ b hb _=>HB3.out.block b hb) (zab _ _ _)) hl hn0 hn1 HS0.out ht0 ht1).mono ?_;rintro e w4 ⟨x,rfl,hxb,hxm,hB4,hK4⟩;have HXB:Hid (x.b=pendB R):=hxb;have HB4:Hid (Below w2.heap.size w2 w4):=hB4;have HK4:Hid (BatK (fun d=>d=0∨d=c+10) w4 (newTo (newTo own w.heap.size d) w2.heap.size 0) x):=hK4;have HXL:Hid (x.b.effs.length=R.effs.length):=by show _=_;rw [hxb];rfl
 clear hxb hxm hB4 hK4 c4 hlk hlk2 hl hn0 hn1 HS0 ht0 ht1 hvl hobs;obtain⟨wA,hwA⟩:∃wA,wA=w4.alloc (.cells (bmC x) 134):=⟨_,rfl⟩
 have HSS:Hid (SeAt w wA own (newTo (newTo own w.heap.size d) w2.heap.size 0) c d (.iface tw pw) (seeTo x.b k o 0) x w4.heap.size):=zyq HO3.out HB3.out HB4.out HK4.out hwA;go_wp2_with fail
 change Code.wp _ _ _ _ (w4.alloc (.cells (bmC x) 134));rw [←hwA];clear hwA HO3 HB3 HB4 HK4 HRW HOB HSM;have HSB0:Hid (∀i,i<=x.b.effs.length->(seeTo x.b k o i).bound (N+i)):=zcu HBD.out (by rw [HXB.out];exact HVL.out);have HVX:Hid (∀e∈x.b.effs, -1000<=e.va∧e.va<=1000∧e.dots.length<=1048576):=by show∀e∈x.b.effs,_;rw [HXB.out];exact HVL.out
 have hNx:N+x.b.effs.length<=100000:=by rw [HXL.out];exact hN
 clear HVL HBD hN;go_loopw [30] (fun v wX=>∃(i:Nat) (own':Clr),i<=x.b.effs.length∧v=I i∧Hid (SeAt w wX own own' c d (.iface tw pw) (seeTo x.b k o i) x w4.heap.size)) (fun v _=>x.b.effs.length - (intOf v).toNat)
 case atStart=>exact⟨0,_,az _,rfl,HSS⟩
 case round=>
  obtain⟨i,own',hi,rfl,HDk⟩:=hrel;clear HSS;by_cases hlt:i<x.b.effs.length
  ·have hms:x.ms.length=x.b.effs.length:=by rw [HDk.out.bat.effs,av]
   obtain⟨ep,eq,hea,_,hec⟩:=zjj HDk.out.bat.cells.at (by omega)
   obtain⟨g0,g1,g2,g3,g4,g5,g6⟩:=hec i (by omega);obtain⟨m,hm⟩:∃m,x.ms[i]'(by omega)=m:=⟨_,rfl⟩
   have HM:Hid (x.ms[i]'(by omega)=m):=hm;clear hm;rw [HM.out] at g0 g1 g2 g3 g4 g5 g6;have HMM2:Hid (m∈x.ms):=by show m∈x.ms;rw [←HM.out];exact aU _
   have HEF:Hid (x.b.effs[i]?=some m.e):=by
    show _=_;rw [HDk.out.bat.effs,List.getElem?_map,ag (by omega),←HM.out];rfl
   obtain⟨hva1,hva2,hdl⟩:=HVX.out m.e (an HEF.out);have HDT:Hid (At wr m.da (flat zac m.e.dots)):=(HDk.out.bat.dots m HMM2.out).at
   have HSB:Hid ((seeTo x.b k o i).small):=Ob.bound_small (HSB0.out i hi) (by omega)
   have HSTEP:Hid (seeTo x.b k o (i+1)=if m.e.ob=k then(seeTo x.b k o i).take (zbi x.b i) m.e else seeTo x.b k o i):=by
    show _=_;rw [seeTo,HEF.out]
   have hii:(i:Int)<x.b.effs.length:=by omega
   clear hec;rw [hea];clear hea;obtain⟨wB,hwB⟩:∃wB,wB=wr.alloc (.cells #[I m.e.op,I m.e.ob,I m.e.va,I m.e.ref.o,I m.e.ref.s,I m.e.ref.i, .slice m.da m.e.dots.length m.dc] 128):=⟨_,rfl⟩
   have HBB:Hid (Below wr.heap.size wr wB):=by rw [hwB];exact(Below.refl _ _).alloc (ac _) _
   have HBX:Hid (Blk wB wr.heap.size #[I m.e.op,I m.e.ob,I m.e.va,I m.e.ref.o,I m.e.ref.s,I m.e.ref.i, .slice m.da m.e.dots.length m.dc] 128):=by rw [hwB];exact heap_alloc_new wr _
   have hxwr:w4.heap.size<wr.heap.size:=HDk.out.box.lt;have HXW:Hid (Blk wB w4.heap.size (bmC x) 134):=HDk.out.box.kept HBB.out HDk.out.box.lt;have hszB:wr.heap.size<wB.heap.size:=HBX.out.lt;by_cases hob:m.e.ob=k
   ·have HST2:Hid (seeTo x.b k o (i+1)=(seeTo x.b k o i).take (zbi x.b i) m.e):=by show _=_;rw [HSTEP.out,aA hob]
    clear HSTEP;have hob1:decide (m.e.ob=(k:Int))=true:=aT hob;have hob2:(m.e.ob==(k:Int))=true:=by rw [beq_iff_eq];exact hob
    clear hob;go_upto_region 10 with fail
    clear hob1 hob2;change Code.wp _ _ _ _ (wr.alloc (.cells #[I m.e.op,I m.e.ob,I m.e.va,I m.e.ref.o,I m.e.ref.s,I m.e.ref.i, .slice m.da m.e.dots.length m.dc] 128));rw [←hwB];clear hwB g0 g1 g2 g3 g4 g5 g6;have HBD0:Hid (Blk wB.drew w4.heap.size (bmC x) 134):=HXW.out;have HBE0:Hid (Blk wB.drew wr.heap.size #[I m.e.op,I m.e.ob,I m.e.va,I m.e.ref.o,I m.e.ref.s,I m.e.ref.i, .slice m.da m.e.dots.length m.dc] 128):=HBX.out;have y0:wB.drew.cell? ⟨w4.heap.size,0,none⟩=some (I x.b.o):=HBD0.out.cell 0;have y1:wB.drew.cell? ⟨w4.heap.size,1,none⟩=some (I x.b.s):=HBD0.out.cell 1;have y2:wB.drew.cell? ⟨w4.heap.size,2,none⟩=some (I x.b.t):=HBD0.out.cell 2;have y3:wB.drew.cell? ⟨w4.heap.size,3,none⟩=some (.slice x.ca x.b.clock.length x.cc):=HBD0.out.cell 3;have y4:wB.drew.cell? ⟨w4.heap.size,4,none⟩=some (.slice x.ea x.b.effs.length x.ec):=HBD0.out.cell 4;have q0:wB.drew.cell? ⟨wr.heap.size,0,none⟩=some (I m.e.op):=HBE0.out.cell 0;have q1:wB.drew.cell? ⟨wr.heap.size,1,none⟩=some (I m.e.ob):=HBE0.out.cell 1;have q2:wB.drew.cell? ⟨wr.heap.size,2,none⟩=some (I m.e.va):=HBE0.out.cell 2;have q3:wB.drew.cell? ⟨wr.heap.size,3,none⟩=some (I m.e.ref.o):=HBE0.out.cell 3;have q4:wB.drew.cell? ⟨wr.heap.size,4,none⟩=some (I m.e.ref.s):=HBE0.out.cell 4;have q5:wB.drew.cell? ⟨wr.heap.size,5,none⟩=some (I m.e.ref.i):=HBE0.out.cell 5;have q6:wB.drew.cell? ⟨wr.heap.size,6,none⟩=some (.slice m.da m.e.dots.length m.dc):=HBE0.out.cell 6;have hna:=ObAt.ahead HDk.out.ob
    go_region_held_law (fun w'=>w'.cell? ⟨w4.heap.size,0,none⟩=some (I x.b.o)∧w'.cell? ⟨w4.heap.size,1,none⟩=some (I x.b.s)∧w'.cell? ⟨w4.heap.size,2,none⟩=some (I x.b.t)∧w'.cell? ⟨w4.heap.size,3,none⟩=some (.slice x.ca x.b.clock.length x.cc)∧w'.cell? ⟨w4.heap.size,4,none⟩=some (.slice x.ea x.b.effs.length x.ec)∧w'.cell? ⟨wr.heap.size,0,none⟩=some (I m.e.op)∧w'.cell? ⟨wr.heap.size,1,none⟩=some (I m.e.ob)∧w'.cell? ⟨wr.heap.size,2,none⟩=some (I m.e.va)∧w'.cell? ⟨wr.heap.size,3,none⟩=some (I m.e.ref.o)∧w'.cell? ⟨wr.heap.size,4,none⟩=some (I m.e.ref.s)∧w'.cell? ⟨wr.heap.size,5,none⟩=some (I m.e.ref.i)∧w'.cell? ⟨wr.heap.size,6,none⟩=some (.slice m.da m.e.dots.length m.dc)) (exact⟨by with_reducible assumption,by with_reducible assumption,by with_reducible assumption,by with_reducible assumption,by with_reducible assumption,by with_reducible assumption,by with_reducible assumption,by with_reducible assumption,by with_reducible assumption,by with_reducible assumption,by with_reducible assumption,by with_reducible assumption⟩)
     (first | (refine zej rfl _ _ _ _ rfl (.iface tw pw) (seeTo x.b k o i) (zbi x.b i) m (newTo own' wr.heap.size 0) d (by simp [Act.eval]) (by simp [Act.eval]) (by simp [Act.eval]) (HDk.out.below HB3.out).ob HSB.out hva1 hva2 (HDT.out.kept HB3.out) hdl ?_;intro w5 hT5;have HT5:Hid (zee (newTo own' wr.heap.size 0) d (.iface tw pw) ((seeTo x.b k o i).take (zbi x.b i) m.e) w3 (.returned (.tuple #[])) w5):=hT5;have HK5:Hid (Tch (fun j=>newTo own' wr.heap.size 0 j=d) w3 w5):=(by obtain⟨_,_,_,_,hT⟩:=hT5;exact hT);clear hT5;have HX5:Hid (Blk w5 w4.heap.size (bmC x) 134):=HK5.out.blk HX3.out (by show¬_=_;rw [zae _ _ _ _ hxwr,HDk.out.boxc];omega);have HE5:Hid (Blk w5 wr.heap.size #[I m.e.op,I m.e.ob,I m.e.va,I m.e.ref.o,I m.e.ref.s,I m.e.ref.i, .slice m.da m.e.dots.length m.dc] 128):=HK5.out.blk HE3.out (by show¬_=_;rw [zaf _ _ _ _ (ac _)];omega);have w5y0:w5.cell? ⟨w4.heap.size,0,none⟩=some (I x.b.o):=HX5.out.cell 0;have w5y1:w5.cell? ⟨w4.heap.size,1,none⟩=some (I x.b.s):=HX5.out.cell 1;have w5y2:w5.cell? ⟨w4.heap.size,2,none⟩=some (I x.b.t):=HX5.out.cell 2;have w5y3:w5.cell? ⟨w4.heap.size,3,none⟩=some (.slice x.ca x.b.clock.length x.cc):=HX5.out.cell 3;have w5y4:w5.cell? ⟨w4.heap.size,4,none⟩=some (.slice x.ea x.b.effs.length x.ec):=HX5.out.cell 4;have w5q0:w5.cell? ⟨wr.heap.size,0,none⟩=some (I m.e.op):=HE5.out.cell 0;have w5q1:w5.cell? ⟨wr.heap.size,1,none⟩=some (I m.e.ob):=HE5.out.cell 1;have w5q2:w5.cell? ⟨wr.heap.size,2,none⟩=some (I m.e.va):=HE5.out.cell 2;have w5q3:w5.cell? ⟨wr.heap.size,3,none⟩=some (I m.e.ref.o):=HE5.out.cell 3;have w5q4:w5.cell? ⟨wr.heap.size,4,none⟩=some (I m.e.ref.s):=HE5.out.cell 4;have w5q5:w5.cell? ⟨wr.heap.size,5,none⟩=some (I m.e.ref.i):=HE5.out.cell 5;have w5q6:w5.cell? ⟨wr.heap.size,6,none⟩=some (.slice m.da m.e.dots.length m.dc):=HE5.out.cell 6) | (go_at_call 96;refine(ziv x i _).mono ?_;rintro e w3 ⟨rfl,hb3⟩;have HB3:Hid (Below wr.heap.size wr w3):=HBB.out.drew.trans (hb3.mono (Nat.le_of_lt hszB));have HX3:Hid (Blk w3 w4.heap.size (bmC x) 134):=HBD0.out.kept hb3 HBD0.out.lt;have HE3:Hid (Blk w3 wr.heap.size #[I m.e.op,I m.e.ob,I m.e.va,I m.e.ref.o,I m.e.ref.s,I m.e.ref.i, .slice m.da m.e.dots.length m.dc] 128):=HBE0.out.kept hb3 HBE0.out.lt;clear hb3;have w3y0:w3.cell? ⟨w4.heap.size,0,none⟩=some (I x.b.o):=HX3.out.cell 0;have w3y1:w3.cell? ⟨w4.heap.size,1,none⟩=some (I x.b.s):=HX3.out.cell 1;have w3y2:w3.cell? ⟨w4.heap.size,2,none⟩=some (I x.b.t):=HX3.out.cell 2;have w3y3:w3.cell? ⟨w4.heap.size,3,none⟩=some (.slice x.ca x.b.clock.length x.cc):=HX3.out.cell 3;have w3y4:w3.cell? ⟨w4.heap.size,4,none⟩=some (.slice x.ea x.b.effs.length x.ec):=HX3.out.cell 4;have w3q0:w3.cell? ⟨wr.heap.size,0,none⟩=some (I m.e.op):=HE3.out.cell 0;have w3q1:w3.cell? ⟨wr.heap.size,1,none⟩=some (I m.e.ob):=HE3.out.cell 1;have w3q2:w3.cell? ⟨wr.heap.size,2,none⟩=some (I m.e.va):=HE3.out.cell 2;have w3q3:w3.cell? ⟨wr.heap.size,3,none⟩=some (I m.e.ref.o):=HE3.out.cell 3;have w3q4:w3.cell? ⟨wr.heap.size,4,none⟩=some (I m.e.ref.s):=HE3.out.cell 4;have w3q5:w3.cell? ⟨wr.heap.size,5,none⟩=some (I m.e.ref.i):=HE3.out.cell 5;have w3q6:w3.cell? ⟨wr.heap.size,6,none⟩=some (.slice m.da m.e.dots.length m.dc):=HE3.out.cell 6))
    all_goals
     (obtain⟨own5,hD5⟩:=SeAt.took hd HFR.out (HDk.out.below HB3.out) HT5.out
      have HD5:Hid (SeAt w w5 own own5 c d (.iface tw pw) (seeTo x.b k o (i+1)) x w4.heap.size):=by
       show SeAt _ _ _ _ _ _ _ _ _ _;rw [HST2.out];exact hD5
      clear hD5 HT5;go_wp2_with fail
      go_roundw
      case rel=>exact⟨i+1,own5,hlt,by go_num,HD5⟩
      case measure=>simp [intOf];omega)
   ·have HD5:Hid (SeAt w wB own (newTo own' wr.heap.size 0) c d (.iface tw pw) (seeTo x.b k o (i+1)) x w4.heap.size):=by
     show SeAt _ _ _ _ _ _ _ _ _ _;rw [HSTEP.out,ap hob];exact HDk.out.below HBB.out
    clear HSTEP HBX HXW;rw [hwB] at HD5;clear hwB HBB;go_wp2_with fail
    go_roundw
    case rel=>exact⟨i+1,_,hlt,by go_num,HD5⟩
    case measure=>simp [intOf];omega
  ·have hil:i=x.b.effs.length:=by omega
   have HDe:Hid (SeAt w wr own own' c d (.iface tw pw) (seeTo (pendB R) k o R.effs.length) x w4.heap.size):=by
    show SeAt _ _ _ _ _ _ _ _ _ _;have h1:=HDk.out;rw [hil,HXL.out,HXB.out] at h1;exact h1
   have hii:¬(i:Int)<x.b.effs.length:=by omega
   clear HDk hil;go_wp2_with fail
   exact bodyPost_ret (v:= .tuple #[.iface tw pw,I 0]) (by simp [results,Tryz.results66,go_sem]) rfl ⟨_,d,own',rfl,HDe.out.ext,HDe.out.ob,HDe.out.bel⟩
theorem zzq (v : Value) (w : World) : (method 483 195 v "Values").run prog w = .ok (243, v) w := by kernel_rfl
theorem zzp (v : Value) (w : World) : (method 483 205 v "Values").run prog w = .ok (309, v) w := by kernel_rfl
def Ob.plain:Ob->Prop
 | .counter _=>True
 | .list _=>True
 | _=>False
def ReadNo(w:World)(e:Ending)(w':World):Prop:=e= .returned (.tuple #[.slice none 0 0,I 8])∧Below w.heap.size w w'
def zoj(w:World)(l:List Int)(e:Ending)(w':World):Prop:=∃v,e= .returned (.tuple #[v,I 0])∧w'.ownsRow w.heap.size 3 1 v l.length (l.map I)∧Below w.heap.size w w'
theorem read_no(own:Clr)(c p:Nat)(R:Rp)(cg cc hp:Nat)(mv hv ev:Value)(hs:List Bm)(es:List Em)(k:Int)(w:World)(h:RpIn w own c p R cg cc hp mv hv ev hs es)(hobs:R.obs.length=8)(hk:¬(0<=k∧k<8)):
  Calls prog 38 #[.pointer (some ⟨p,0,none⟩),I k] w fun e w'=>ReadNo w e w':=by
 go_enter func38,ntmps38;go_wp2_with fail
 refine(zyp own c p R cg cc hp mv hv ev hs es k w h hobs hk).mono ?_;rintro e w1 ⟨rfl,hb⟩;have HB:Hid (Below w.heap.size w w1):=hb;clear hb h hk hobs;go_wp2_with fail
 exact bodyPost_ret (v:= .tuple #[.slice none 0 0,I 8]) (by simp [results,Tryz.results38,go_sem]) rfl ⟨rfl,HB.out⟩
abbrev efC (m:Em):Array Value:= #[I m.e.op,I m.e.ob,I m.e.va,I m.e.ref.o,I m.e.ref.s,I m.e.ref.i, .slice m.da m.e.dots.length m.dc]
abbrev ruC (a0 a1 a2 a3 a4 a5:Int):Array Value:= #[I a0,I a1,I a2,I a3,I a4,I a5]
theorem zx6(p:Nat)(m:Em)(a0 a1 a2 a3 a4 a5:Int)(w:World)(hd:(m.e.dots.length:Int)<a4):
  Calls prog 69 #[.pointer (some ⟨p,0,none⟩),effV m, .agg (ruC a0 a1 a2 a3 a4 a5)] w fun e w'=>e= .returned (I 0)∧Below w.heap.size w w':=by
 have HB:Hid (Below w.heap.size w ((w.alloc (.cells (efC m) 128)).alloc (.cells (ruC a0 a1 a2 a3 a4 a5) 118))):=((Below.refl _ _).alloc (ac _) _).alloc (by simp) _;go_enter func69,ntmps69;go_wp2;go_ret;exact⟨rfl,HB.out⟩
theorem add_big(own:Clr)(c p:Nat)(R:Rp)(cg cc hp:Nat)(mv hv ev:Value)(hs:List Bm)(es:List Em)(m:Em)(a0 a1 a2 a3 a4 a5:Int)(w:World)(h:RpIn w own c p R cg cc hp mv hv ev hs es)(hd:¬(m.e.dots.length:Int)<a4)(hd5:(m.e.dots.length:Int)>a5∨es.length=5):
  Calls prog 69 #[.pointer (some ⟨p,0,none⟩),effV m, .agg (ruC a0 a1 a2 a3 a4 a5)] w fun e w'=>e= .returned (I 12)∧Below w.heap.size w w':=by
 have HB:Hid (Below w.heap.size w ((w.alloc (.cells (efC m) 128)).alloc (.cells (ruC a0 a1 a2 a3 a4 a5) 118))):=((Below.refl _ _).alloc (ac _) _).alloc (by simp) _;obtain⟨ea,en,ec,rfl⟩:=zcd h.effs.row
 obtain rfl:en=es.length:=by
  rcases h.effs.row.2 with⟨e,hz⟩ | ⟨g,cap,cur,e,_⟩
  ·cases e;exact hz.symm
  ·cases e;rfl
 have c8:((w.alloc (.cells (efC m) 128)).alloc (.cells (ruC a0 a1 a2 a3 a4 a5) 118)).cell? ⟨p,8,none⟩=some (.slice ea es.length ec):=zaa HB.out (h.blk.cell 8);clear h;go_enter func69,ntmps69;by_cases h5:(m.e.dots.length:Int)>a5
 ·clear hd5
  go_wp2;go_ret;exact⟨rfl,HB.out⟩
 ·have h6:es.length=5:=by rcases hd5 with h | h;exact absurd h h5;exact h
  clear hd5;have h7:(es.length:Int)=5:=by omega
  clear h6;go_wp2;go_ret;exact⟨rfl,HB.out⟩
theorem infoEf1:(prog.info? 128).map (fun i=>(i.zero,i.size,i.bytes))=some (some (.agg #[.int .i64 0, .int .i64 0, .int .i64 0, .int .i64 0, .int .i64 0, .int .i64 0, .slice none 0 0]),7,72):=by kernel_rfl
theorem zta(l:List Em)(x:Em):flat Em.cells (l++ [x])=flat Em.cells l++x.cells:=by
 rw [za2];show _++(x.cells++ [])=_;rw [List.append_nil]
theorem RpIn.added{w w':World}{own:Clr}{c p:Nat}{R:Rp}{cg cc hp:Nat}{mv hv ev ev':Value}{hs:List Bm}{es:List Em}{m:Em}(hc0:0<c)(h:RpIn w own c p R cg cc hp mv hv ev hs es)(hT:Tch (fun k=>k=p∨ev.ownBlock=some k) w w')
  (hb:Blk w' p #[I R.n,I R.st, .slice (some ⟨cg,0,none⟩) R.clock.length cc,I R.time,mv, .string ⟨R.log.toArray⟩,I R.synced, .pointer (some ⟨hp,0,none⟩),ev'] 110)
  (hrow:w'.ownsRow 0 128 7 ev' (es++ [m]).length (flat Em.cells (es++ [m]))) (hg:∀g,ev'.ownBlock=some g->ev.ownBlock=some g∨w.heap.size<=g) (hd:At0 w own m.da (flat zac m.e.dots)):
  RpIn w' (newTo own w.heap.size (c+10)) c p {R with effs:=R.effs++ [m.e]} cg cc hp mv hv ev' hs (es++ [m]):=by
 have hE:=zab own w.heap.size (c+10)
 have hS:∀d,d ≠ c->d ≠ c+10->Same own d w w':=fun d h1 h2 b hl ho=>hT.block b hl (by
  rintro(e | e)
  ·exact h1 (by rw [←ho,e,h.own1])
  ·exact h2 (by rw [←ho,h.effs.own2 b e]))
 have hne:∀b,own b=c->b ≠ p->¬(b=p∨ev.ownBlock=some b):=fun b ho hp=>by
  rintro(e | e)
  ·exact hp e
  ·have:=h.effs.own2 b e;omega
 have hcg:cg ≠ p:=by
  rintro rfl;have:=h.blk.symm.trans h.clk;simp at this
 refine⟨hb,(hT.block cg h.clk.lt (hne cg h.own2 hcg)).trans h.clk,(hE p h.blk.lt).trans h.own1,(hE cg h.clk.lt).trans h.own2, ?_,h.held.keep (hS 0 (by omega) (by omega)) (hS _ (by omega) (by omega)) hE,h.heldB,⟨hrow,fun g e=> ?_,fun x hx=> ?_⟩, ?_⟩
 ·rcases h.obs with h1 | ⟨mb,vs,e,ho,hm,l1,l2,hk⟩
  ·exact Or.inl h1
  ·refine Or.inr ⟨mb,vs,e,(hE mb hm.lt).trans ho,hm.same (hT.block mb hm.lt (hne mb ho ?_)),l1,l2,fun k a b=>(hk k a b).keep (hS _ (by omega) (by have h8:k<8:=(by omega);omega)) hE⟩
   rintro rfl;obtain⟨xs,cl,hx,_⟩:=hm;cases h.blk.symm.trans hx
 ·rcases hg g e with h1 | h1
  ·exact(hE g (h.effs.row.lt g h1).2).trans (h.effs.own2 g h1)
  ·exact zaf _ _ _ _ h1
 ·rcases ao.1 hx with hx | hx
  ·exact(h.effs.dots x hx).keep (hS 0 (by omega) (by omega)) hE
  ·rw [aB] at hx
   subst hx;exact hd.keep (hS 0 (by omega) (by omega)) hE
 ·show R.effs++ [m.e]=_
  rw [h.effsE,aO];rfl
def AddOk(w:World)(own:Clr)(c p:Nat)(R:Rp)(cg cc hp:Nat)(mv hv:Value)(hs:List Bm)(es:List Em)(w':World):Prop:=∃own' ev',Ext own own' w.heap.size∧RpIn w' own' c p R cg cc hp mv hv ev' hs es∧Tch (fun k=>own k=c∨own k=c+10) w w'
theorem add_put(own:Clr)(c p:Nat)(R:Rp)(cg cc hp:Nat)(mv hv ev:Value)(hs:List Bm)(es:List Em)(m:Em)(a0 a1 a2 a3 a4 a5:Int)(w:World)(hc0:0<c)(h:RpIn w own c p R cg cc hp mv hv ev hs es)(hd:¬(m.e.dots.length:Int)<a4)(h5:¬(m.e.dots.length:Int)>a5)(hn:es.length<5)(hdt:At0 w own m.da (flat zac m.e.dots)):
  Calls prog 69 #[.pointer (some ⟨p,0,none⟩),effV m, .agg (ruC a0 a1 a2 a3 a4 a5)] w fun e w'=>e= .returned (I 0)∧AddOk w own c p {R with effs:=R.effs++ [m.e]} cg cc hp mv hv hs (es++ [m]) w':=by
 obtain⟨wA,hwA⟩:∃wA,wA=(w.alloc (.cells (efC m) 128)).alloc (.cells (ruC a0 a1 a2 a3 a4 a5) 118):=⟨_,rfl⟩
 have HBA:Hid (Below w.heap.size w wA):=by rw [hwA];exact((Below.refl _ _).alloc (ac _) _).alloc (by simp) _
 have HX:Hid (Blk wA w.heap.size (efC m) 128):=by rw [hwA];exact Blk.alloc (heap_alloc_new w _) _
 have HR:Hid (RpIn wA own c p R cg cc hp mv hv ev hs es):=h.keep (fun b hb _=>HBA.out.block b hb) (fun d _ _ b hb _=>HBA.out.block b hb) (Ext.refl _ _);have HRW:Hid (RpIn w own c p R cg cc hp mv hv ev hs es):=h;have HDT:Hid (At0 w own m.da (flat zac m.e.dots)):=hdt;obtain⟨ea,en,ec,rfl⟩:=zcd h.effs.row
 obtain rfl:en=es.length:=by
  rcases h.effs.row.2 with⟨e,hz⟩ | ⟨g,cap,cur,e,_⟩
  ·cases e;exact hz.symm
  ·cases e;rfl
 have hpw:p<w.heap.size:=h.blk.lt;have HNE:Hid (¬(Value.slice ea es.length ec).ownBlock=some p):=fun e=>by have h1:=h.effs.own2 p e;have h2:=h.own1;omega
 obtain⟨i2,HI2⟩:∃i2,Hid (prog.info? 128=some i2∧i2.zero=some (.agg #[.int .i64 0, .int .i64 0, .int .i64 0, .int .i64 0, .int .i64 0, .int .i64 0, .slice none 0 0])∧i2.size=7∧i2.bytes=72):=by obtain⟨i2,h⟩:=info_parts infoEf1;exact⟨i2,h⟩
 have hone:∀u∈m.cells,u.oneCell'=true:=by
  intro u hu;simp only [Em.cells,Em.dv,ar,List.mem_nil_iff,or_false] at hu;rcases hu with rfl | rfl | rfl | rfl | rfl | rfl | rfl<;>rfl
 have hn5:¬(es.length:Int)=5:=by omega
 have c8:((w.alloc (.cells (efC m) 128)).alloc (.cells (ruC a0 a1 a2 a3 a4 a5) 118)).cell? ⟨p,8,none⟩=some (.slice ea es.length ec):=by rw [←hwA];exact HR.out.blk.cell 8
 clear h hdt;go_enter func69,ntmps69;go_wp2_with fail
 change Code.wp _ _ _ _ ((w.alloc (.cells (efC m) 128)).alloc (.cells (ruC a0 a1 a2 a3 a4 a5) 118));rw [←hwA];clear hwA c8;have c8:wA.cell? ⟨p,8,none⟩=some (.slice ea es.length ec):=HR.out.blk.cell 8;have x0:wA.cell? ⟨w.heap.size,0,none⟩=some (I m.e.op):=HX.out.cell 0;have x1:wA.cell? ⟨w.heap.size,1,none⟩=some (I m.e.ob):=HX.out.cell 1;have x2:wA.cell? ⟨w.heap.size,2,none⟩=some (I m.e.va):=HX.out.cell 2;have x3:wA.cell? ⟨w.heap.size,3,none⟩=some (I m.e.ref.o):=HX.out.cell 3;have x4:wA.cell? ⟨w.heap.size,4,none⟩=some (I m.e.ref.s):=HX.out.cell 4;have x5:wA.cell? ⟨w.heap.size,5,none⟩=some (I m.e.ref.i):=HX.out.cell 5;have x6:wA.cell? ⟨w.heap.size,6,none⟩=some (.slice m.da m.e.dots.length m.dc):=HX.out.cell 6;have cA2:(wA.alloc (.cells (efC m) 128)).cell? ⟨p,8,none⟩=some (.slice ea es.length ec):=(HR.out.blk.alloc _).cell 8;have hsA:w.heap.size<wA.heap.size:=HX.out.lt;have HRO:Hid (wA.ownsRow 0 128 7 (.slice ea es.length ec) es.length (flat Em.cells es)):=HR.out.effs.row;go_region_law ((refine step_append_lies _ (by rfl) _ _ _ (by rfl) 0 128 i2 (.agg #[.int .i64 0, .int .i64 0, .int .i64 0, .int .i64 0, .int .i64 0, .int .i64 0, .slice none 0 0]) 7 72 underlying108 HI2.out.1 HI2.out.2.1 HI2.out.2.2.1 HI2.out.2.2.2 (by rfl) (by omega) (.slice ea es.length ec) es.length (flat Em.cells es) (by rfl) (by first | exact HRO.out.alloc _ | exact(HRO.out.alloc _).drew | exact(HRO.out.drew).alloc _) ⟨wA.heap.size,0,none⟩ 1 1 m.cells (by rfl) (by rfl) (by first | exact zcf wA _ _ | exact zdb wA _ _) hone (by omega) (by unfold maxLen;omega) (by omega) (by omega) (wA.heap.size+1) (by simp) ?_;intro g7 cap7 w7 hown7 hgrow7 hat7 hlt7;have HT7:Hid (Tch (fun k=>(Value.slice ea es.length ec).ownBlock=some k) wA w7):=(by first | exact((Tch.refl _ wA).drew.alloc _).then (Tch.grown hgrow7) | exact((Tch.refl _ wA).alloc _).then (Tch.grown hgrow7));have HO7:Hid (w7.ownsRow 0 128 7 (.slice (some ⟨g7,0,none⟩) (es.length+1) cap7) (es.length+1) (flat Em.cells es++m.cells)):=hown7;have HA7:Hid ((Value.slice ea es.length ec).ownBlock=some g7∨g7=wA.heap.size+1):=hat7;have HK7:Hid (Blk w7 p #[I R.n,I R.st, .slice (some ⟨cg,0,none⟩) R.clock.length cc,I R.time,mv, .string ⟨R.log.toArray⟩,I R.synced, .pointer (some ⟨hp,0,none⟩), .slice ea es.length ec] 110):=HT7.out.blk HR.out.blk HNE.out;have c7:w7.cell? ⟨p,8,none⟩=some (.slice ea es.length ec):=HK7.out.cell 8;have z7:w7.frozen? ⟨p,8,none⟩=false:=HK7.out.frozen 8;clear hown7 hgrow7 hat7 hlt7))
 all_goals
  (go_wp2_with fail
   have hpg:p ≠ g7:=by
    rcases HA7.out with e | e
    ·intro e2;rw [←e2] at e;exact HNE.out e
    ·omega
   have hlen:(es++ [m]).length=es.length+1:=by simp
   have hG8:(Value.slice ea es.length ec).ownBlock=some g7∨w.heap.size<=g7:=by
    rcases HA7.out with e | e
    ·exact Or.inl e
    ·exact Or.inr (by omega)
   have HT8:Hid (Tch (fun k=>k=p∨(Value.slice ea es.length ec).ownBlock=some k) w (w7.setCell ⟨p,8,none⟩ (.slice (some ⟨g7,0,none⟩) (es.length+1) cap7))):=Tch.setCell ((Tch.below HBA.out).trans HT7.out (fun _ _ h=>h) (fun _ _ h=>Or.inr h)) _ _ (Or.inl (Or.inl rfl));have HR8:=RpIn.added (m:=m) (ev':= .slice (some ⟨g7,0,none⟩) (es.length+1) cap7) hc0 HRW.out HT8.out (HK7.out.set 8 _) (by rw [hlen,zta];exact zag HO7.out (fun b e=>heap_setCell_other _ ⟨p,8,none⟩ b _ (by cases e;exact hpg.symm))) (fun g e=>by cases e;exact hG8) HDT.out
   have HE:Hid (AddOk w own c p {R with effs:=R.effs++ [m.e]} cg cc hp mv hv hs (es++ [m]) (w7.setCell ⟨p,8,none⟩ (.slice (some ⟨g7,0,none⟩) (es.length+1) cap7))):=⟨_,_,zab _ _ _,HR8,HT8.out.mono (fun k _ h=>by
    rcases h with rfl | h
    ·exact Or.inl HRW.out.own1
    ·exact Or.inr (HRW.out.effs.own2 k h))⟩
   clear HR8 HT8;go_ret
   exact⟨rfl,HE.out⟩)
