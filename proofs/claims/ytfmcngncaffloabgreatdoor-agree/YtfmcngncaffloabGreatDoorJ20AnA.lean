import Derived.Test.YtfmcngncaffloabGreatDoorJ18DecL
import Derived.Test.YtfmcngncaffloabGreatDoorJ19DecM
set_option maxHeartbeats 1600000
namespace Go.Proofs.YtfmcngncaffloabGreatDoor
open Go.RowKit Go.Proofs.Tryz Wv
set_option maxRecDepth 100000
theorem fdec_no(l:List UInt8)(w:World)(eb ef:Addr)(hI:zaj)(gl:Gl w eb ef)(hp:Pw w)(g0:Gd w)(ho:opens l)(hq0:(batF true (Wv.body l) (some 2)).2=some (Wv.body l).length)(hbq:Wv.isB (batF true (Wv.body l) (some 2)).1=false):
  Calls prog 126 #[.string ⟨l.toArray⟩] w fun e w'=>(∃n y,e= .returned (.tuple #[zeroBat,FltF n y]))∧Below w.heap.size w w':=by
 have HA:Hid (Below w.heap.size w (w.alloc (.cells #[.int .i64 0, .int .i64 0, .int .i64 0, .slice none 0 0, .slice none 0 0] 134))):=(Below.refl _ _).alloc (ac _) _;have HK:Hid (Blk (w.alloc (.cells #[.int .i64 0, .int .i64 0, .int .i64 0, .slice none 0 0, .slice none 0 0] 134)) w.heap.size #[.int .i64 0, .int .i64 0, .int .i64 0, .slice none 0 0, .slice none 0 0] 134):=heap_alloc_new w _;have G0:Hid (Gd (w.alloc (.cells #[.int .i64 0, .int .i64 0, .int .i64 0, .slice none 0 0, .slice none 0 0] 134))):=g0.kept HA.out;have GL:Hid (Gl (w.alloc (.cells #[.int .i64 0, .int .i64 0, .int .i64 0, .slice none 0 0, .slice none 0 0] 134)) eb ef):=gl.kept HA.out;have HPW:Hid (Pw (w.alloc (.cells #[.int .i64 0, .int .i64 0, .int .i64 0, .slice none 0 0, .slice none 0 0] 134))):=hp.kept HA.out;have HO:Hid (opens l):=ho;have hcl:(Wv.body l).length<=9223372036854775807:=by have:=ho.2.1;have:=(num2_le l).2;rw [body_len];omega
 have HQ:Hid ((batF true (Wv.body l) (some 2)).2=some (Wv.body l).length):=hq0;have HBQ:Hid (Wv.isB (batF true (Wv.body l) (some 2)).1=false):=hbq;have HSZ0:Hid ((batF true (Wv.body l) (some 2)).1.clock.length<=9223372036854775807∧(batF true (Wv.body l) (some 2)).1.effs.length<=9223372036854775807∧∀e∈(batF true (Wv.body l) (some 2)).1.effs,e.dots.length<=9223372036854775807):=zlf _ _;clear hbq;clear hq0;have HLE:Hid (∀k,(batF true (Wv.body l) (some 2)).2=some k->k<=(Wv.body l).length):=fun k h=>batF_le h
 generalize hc:Wv.body l=c at *
 have HC:Hid (Wv.body l=c):=hc;clear g0 ho gl hp hc;go_enter func126,ntmps126;go_wp2_with fail
 generalize w.alloc (.cells #[.int .i64 0, .int .i64 0, .int .i64 0, .slice none 0 0, .slice none 0 0] 134)=wA at *
 refine(zf7 l wA G0.out HO.out).mono ?_;rintro e w1 ⟨rfl,hR1,hb1⟩;rw [HC.out] at hR1;have HR1:Hid (Rd w1 wA.heap.size c (some 2)):=hR1;have HB1:Hid (Below wA.heap.size wA w1):=hb1;have HK1:Hid (Blk w1 w.heap.size #[.int .i64 0, .int .i64 0, .int .i64 0, .slice none 0 0, .slice none 0 0] 134):=HK.out.kept hb1 HK.out.lt;have hwA:w.heap.size<wA.heap.size:=HK.out.lt;clear hR1 hb1 HK;go_wp2_with fail
 refine(zhg c (some 2) wA.heap.size w1 wA eb ef GL.out G0.out HB1.out (ac _) HR1.out hcl).mono ?_;rintro e w2 ⟨ca,ea,cc,ec,ms,rfl,hef,hOb,hR2,hG2⟩;have hsz1:wA.heap.size<w1.heap.size:=HR1.out.lt;have HB2:Hid (Below wA.heap.size wA w2):=za8 HB1.out hG2 (ac _);have HK2:Hid (Blk w2 w.heap.size #[.int .i64 0, .int .i64 0, .int .i64 0, .slice none 0 0, .slice none 0 0] 134):=HK1.out.grown hG2 (by simp;omega);generalize batF true c (some 2)=bq at *
 have HR2:Hid (Rd w2 wA.heap.size c bq.2):=hR2;have HOb:Hid (OwB w2 w1.heap.size (.slice ca bq.1.clock.length cc) (.slice ea bq.1.effs.length ec) bq.1.clock ms):=hOb;have HEF:Hid (bq.1.effs=ms.map (·.e)):=hef;have hs2:w1.heap.size<=w2.heap.size:=hG2.size;clear hR2 hG2 hOb hef HR1 HB1 HK1;go_wp2_with fail
 have DB:Hid (Dw w wA (w2.alloc (.cells #[I bq.1.o,I bq.1.s,I bq.1.t, .slice ca bq.1.clock.length cc, .slice ea bq.1.effs.length ec] 134)) w2.heap.size w1.heap.size bq.1 ca ea cc ec ms):=⟨HB2.out.alloc (by omega) _,HK2.out.alloc _,heap_alloc_new w2 _,HOb.out.kept (fun b h1 _=>Below.heap_alloc w2 _ b h1),hwA,hsz1,by omega⟩
 have RB:Hid (Rd (w2.alloc (.cells #[I bq.1.o,I bq.1.s,I bq.1.t, .slice ca bq.1.clock.length cc, .slice ea bq.1.effs.length ec] 134)) wA.heap.size c bq.2):=HR2.out.alloc _;generalize w2.alloc (.cells #[I bq.1.o,I bq.1.s,I bq.1.t, .slice ca bq.1.clock.length cc, .slice ea bq.1.effs.length ec] 134)=wB at *
 clear HR2 HOb HK2 HB2;have hcs:=zaz c;obtain⟨ad,ha⟩:=(G0.out.kept DB.out.below).rest;have hz:=zad ha;have hq:=HQ.out;rw [hq] at RB;have HSZ:Hid (bq.1.clock.length<=9223372036854775807∧bq.1.effs.length<=9223372036854775807∧∀m∈ms,m.e.dots.length<=9223372036854775807):=⟨HSZ0.out.1,HSZ0.out.2.1,fun m hm=>HSZ0.out.2.2 m.e (by rw [HEF.out];exact List.mem_map_of_mem hm)⟩
 have hX:Blk wB wA.heap.size #[.string ⟨c.toArray⟩,I c.length, .nilIface] 245:=RB.out;have c0:wB.cell? ⟨wA.heap.size,0,none⟩=some (.string ⟨c.toArray⟩):=hX.cell 0;have c1:wB.cell? ⟨wA.heap.size,1,none⟩=some (I c.length):=hX.cell 1;go_quiet (fail)
 have DX:Hid (Dw w wA (wB.drewN nq) w2.heap.size w1.heap.size bq.1 ca ea cc ec ms):=DB.out.drewN nq;have RX:Hid (Rd (wB.drewN nq) wA.heap.size c (some c.length)):=RB.out.drewN nq;clear DB RB hX c0 c1 ha hz hq;generalize wB.drewN nq=wX at *
 have hX:Blk wX wA.heap.size #[.string ⟨c.toArray⟩,I c.length, .nilIface] 245:=RX.out;have c2:wX.cell? ⟨wA.heap.size,2,none⟩=some .nilIface:=hX.cell 2;have d0:wX.cell? ⟨w2.heap.size,0,none⟩=some (I bq.1.o):=DX.out.kD.cell 0;have d1:wX.cell? ⟨w2.heap.size,1,none⟩=some (I bq.1.s):=DX.out.kD.cell 1;have d2:wX.cell? ⟨w2.heap.size,2,none⟩=some (I bq.1.t):=DX.out.kD.cell 2;have d3:wX.cell? ⟨w2.heap.size,3,none⟩=some (.slice ca bq.1.clock.length cc):=DX.out.kD.cell 3;have d4:wX.cell? ⟨w2.heap.size,4,none⟩=some (.slice ea bq.1.effs.length ec):=DX.out.kD.cell 4;clear hX;go_wp2_with fail
 refine(zin bq.1 ca ea cc ec ms wX eb ef hI (GL.out.kept DX.out.below) (HPW.out.kept DX.out.below) (DX.out.ob.bat HEF.out) HSZ.out.1 HSZ.out.2.1 HSZ.out.2.2).mono ?_;rintro e w4 ⟨he,hb4⟩;have D4:Hid (Dw w wA w4 w2.heap.size w1.heap.size bq.1 ca ea cc ec ms):=DX.out.kept hb4;have R4:Hid (Rd w4 wA.heap.size c (some c.length)):=RX.out.kept hb4 RX.out.lt;unfold zfb at he;rw [HBQ.out] at he;clear DX RX c2 d0 d1 d2 d3 d4 hb4;obtain⟨v,rfl,hv⟩:=he
 obtain⟨x,rfl⟩:∃x,v= .iface 179 x:=by
  rcases hv with⟨s,rfl⟩ | ⟨s,t,rfl⟩<;>exact⟨_,rfl⟩
 clear hv;go_wp2_with fail
 refine(zf8 c _ wA.heap.size _ _ w4 R4.out).mono ?_;rintro e w3 ⟨rfl,⟨a,n,y,hX⟩,hG⟩;have HX:Hid (Blk w3 wA.heap.size #[.string ⟨c.toArray⟩,I a,FltF n y] 245):=hX;have D3:Hid (Dw w wA w3 w2.heap.size w1.heap.size bq.1 ca ea cc ec ms):=D4.out.read hG;clear hX hG;have c2:w3.cell? ⟨wA.heap.size,2,none⟩=some (FltF n y):=HX.out.cell 2;have k0:w3.cell? ⟨w.heap.size,0,none⟩=some (.int .i64 0):=D3.out.kR.cell 0;have z0:=D3.out.kR.frozen 0;have k1:w3.cell? ⟨w.heap.size,1,none⟩=some (.int .i64 0):=D3.out.kR.cell 1;have z1:=D3.out.kR.frozen 1;have k2:w3.cell? ⟨w.heap.size,2,none⟩=some (.int .i64 0):=D3.out.kR.cell 2;have z2:=D3.out.kR.frozen 2;have k3:w3.cell? ⟨w.heap.size,3,none⟩=some (.slice none 0 0):=D3.out.kR.cell 3;have z3:=D3.out.kR.frozen 3;have k4:w3.cell? ⟨w.heap.size,4,none⟩=some (.slice none 0 0):=D3.out.kR.cell 4;have z4:=D3.out.kR.frozen 4;have HBw:Hid (Below w.heap.size w w3):=HA.out.trans (D3.out.below.mono HA.out.size);have HKw:Hid (Blk w3 w.heap.size #[.int .i64 0, .int .i64 0, .int .i64 0, .slice none 0 0, .slice none 0 0] 134):=D3.out.kR;go_wp2;go_region
 all_goals
  (go_wp2
   have HF:Hid (Blk (put5 w3 w.heap.size (.int .i64 0) (.int .i64 0) (.int .i64 0) (.slice none 0 0) (.slice none 0 0)).drew w.heap.size #[.int .i64 0, .int .i64 0, .int .i64 0, .slice none 0 0, .slice none 0 0] 134):=zdy HKw.out _ _ _ _ _;have HY:Hid (Below w.heap.size w (put5 w3 w.heap.size (.int .i64 0) (.int .i64 0) (.int .i64 0) (.slice none 0 0) (.slice none 0 0)).drew):=(((((HBw.out.setCell (ac _) _).setCell (ac _) _).setCell (ac _) _).setCell (ac _) _).setCell (ac _) _).drew;unfold put5 at HF HY;generalize (((((w3.setCell ⟨w.heap.size,0,none⟩ (.int .i64 0)).setCell ⟨w.heap.size,1,none⟩ (.int .i64 0)).setCell ⟨w.heap.size,2,none⟩ (.int .i64 0)).setCell ⟨w.heap.size,3,none⟩ (.slice none 0 0)).setCell ⟨w.heap.size,4,none⟩ (.slice none 0 0)).drew=wF at *
   have f0:wF.cell? ⟨w.heap.size,0,none⟩=some (.int .i64 0):=HF.out.cell 0;have f1:wF.cell? ⟨w.heap.size,1,none⟩=some (.int .i64 0):=HF.out.cell 1;have f2:wF.cell? ⟨w.heap.size,2,none⟩=some (.int .i64 0):=HF.out.cell 2;have f3:wF.cell? ⟨w.heap.size,3,none⟩=some (.slice none 0 0):=HF.out.cell 3;have f4:wF.cell? ⟨w.heap.size,4,none⟩=some (.slice none 0 0):=HF.out.cell 4
   refine bodyPost_ret (v:= .tuple #[zeroBat,FltF n y]) (by simp [results,Tryz.results126,go_sem,f0,f1,f2,f3,f4]) rfl ⟨⟨_,_,rfl⟩,HY.out⟩)
theorem fdec_yes(l:List UInt8)(w:World)(eb ef:Addr)(hI:zaj)(gl:Gl w eb ef)(hp:Pw w)(g0:Gd w)(ho:opens l)(hq0:(batF true (Wv.body l) (some 2)).2=some (Wv.body l).length)(hbq:Wv.isB (batF true (Wv.body l) (some 2)).1=true):
  Calls prog 126 #[.string ⟨l.toArray⟩] w fun e w'=>(∃ca ea cc ec ms,e= .returned (.tuple #[bV (batF true (Wv.body l) (some 2)).1 ca ea cc ec, .nilIface])∧(batF true (Wv.body l) (some 2)).1.effs=ms.map (·.e)∧OwB w' w.heap.size (.slice ca (batF true (Wv.body l) (some 2)).1.clock.length cc) (.slice ea (batF true (Wv.body l) (some 2)).1.effs.length ec) (batF true (Wv.body l) (some 2)).1.clock ms)∧Below w.heap.size w w':=by
 have HA:Hid (Below w.heap.size w (w.alloc (.cells #[.int .i64 0, .int .i64 0, .int .i64 0, .slice none 0 0, .slice none 0 0] 134))):=(Below.refl _ _).alloc (ac _) _;have HK:Hid (Blk (w.alloc (.cells #[.int .i64 0, .int .i64 0, .int .i64 0, .slice none 0 0, .slice none 0 0] 134)) w.heap.size #[.int .i64 0, .int .i64 0, .int .i64 0, .slice none 0 0, .slice none 0 0] 134):=heap_alloc_new w _;have G0:Hid (Gd (w.alloc (.cells #[.int .i64 0, .int .i64 0, .int .i64 0, .slice none 0 0, .slice none 0 0] 134))):=g0.kept HA.out;have GL:Hid (Gl (w.alloc (.cells #[.int .i64 0, .int .i64 0, .int .i64 0, .slice none 0 0, .slice none 0 0] 134)) eb ef):=gl.kept HA.out;have HPW:Hid (Pw (w.alloc (.cells #[.int .i64 0, .int .i64 0, .int .i64 0, .slice none 0 0, .slice none 0 0] 134))):=hp.kept HA.out;have HO:Hid (opens l):=ho;have hcl:(Wv.body l).length<=9223372036854775807:=by have:=ho.2.1;have:=(num2_le l).2;rw [body_len];omega
 have HQ:Hid ((batF true (Wv.body l) (some 2)).2=some (Wv.body l).length):=hq0;have HBQ:Hid (Wv.isB (batF true (Wv.body l) (some 2)).1=true):=hbq;have HSZ0:Hid ((batF true (Wv.body l) (some 2)).1.clock.length<=9223372036854775807∧(batF true (Wv.body l) (some 2)).1.effs.length<=9223372036854775807∧∀e∈(batF true (Wv.body l) (some 2)).1.effs,e.dots.length<=9223372036854775807):=zlf _ _;clear hbq;clear hq0;have HLE:Hid (∀k,(batF true (Wv.body l) (some 2)).2=some k->k<=(Wv.body l).length):=fun k h=>batF_le h
 generalize hc:Wv.body l=c at *
 have HC:Hid (Wv.body l=c):=hc;clear g0 ho gl hp hc;go_enter func126,ntmps126;go_wp2_with fail
 generalize w.alloc (.cells #[.int .i64 0, .int .i64 0, .int .i64 0, .slice none 0 0, .slice none 0 0] 134)=wA at *
 refine(zf7 l wA G0.out HO.out).mono ?_;rintro e w1 ⟨rfl,hR1,hb1⟩;rw [HC.out] at hR1;have HR1:Hid (Rd w1 wA.heap.size c (some 2)):=hR1;have HB1:Hid (Below wA.heap.size wA w1):=hb1;have HK1:Hid (Blk w1 w.heap.size #[.int .i64 0, .int .i64 0, .int .i64 0, .slice none 0 0, .slice none 0 0] 134):=HK.out.kept hb1 HK.out.lt;have hwA:w.heap.size<wA.heap.size:=HK.out.lt;clear hR1 hb1 HK;go_wp2_with fail
 refine(zhg c (some 2) wA.heap.size w1 wA eb ef GL.out G0.out HB1.out (ac _) HR1.out hcl).mono ?_;rintro e w2 ⟨ca,ea,cc,ec,ms,rfl,hef,hOb,hR2,hG2⟩;have hsz1:wA.heap.size<w1.heap.size:=HR1.out.lt;have HB2:Hid (Below wA.heap.size wA w2):=za8 HB1.out hG2 (ac _);have HK2:Hid (Blk w2 w.heap.size #[.int .i64 0, .int .i64 0, .int .i64 0, .slice none 0 0, .slice none 0 0] 134):=HK1.out.grown hG2 (by simp;omega);generalize hbqe:batF true c (some 2)=bq at *
 have HBE:Hid (batF true c (some 2)=bq):=hbqe;clear hbqe;have HR2:Hid (Rd w2 wA.heap.size c bq.2):=hR2;have HOb:Hid (OwB w2 w1.heap.size (.slice ca bq.1.clock.length cc) (.slice ea bq.1.effs.length ec) bq.1.clock ms):=hOb;have HEF:Hid (bq.1.effs=ms.map (·.e)):=hef;have hs2:w1.heap.size<=w2.heap.size:=hG2.size;clear hR2 hG2 hOb hef HR1 HB1 HK1;go_wp2_with fail
 have DB:Hid (Dw w wA (w2.alloc (.cells #[I bq.1.o,I bq.1.s,I bq.1.t, .slice ca bq.1.clock.length cc, .slice ea bq.1.effs.length ec] 134)) w2.heap.size w1.heap.size bq.1 ca ea cc ec ms):=⟨HB2.out.alloc (by omega) _,HK2.out.alloc _,heap_alloc_new w2 _,HOb.out.kept (fun b h1 _=>Below.heap_alloc w2 _ b h1),hwA,hsz1,by omega⟩
 have RB:Hid (Rd (w2.alloc (.cells #[I bq.1.o,I bq.1.s,I bq.1.t, .slice ca bq.1.clock.length cc, .slice ea bq.1.effs.length ec] 134)) wA.heap.size c bq.2):=HR2.out.alloc _;generalize w2.alloc (.cells #[I bq.1.o,I bq.1.s,I bq.1.t, .slice ca bq.1.clock.length cc, .slice ea bq.1.effs.length ec] 134)=wB at *
 clear HR2 HOb HK2 HB2;have hcs:=zaz c;obtain⟨ad,ha⟩:=(G0.out.kept DB.out.below).rest;have hz:=zad ha;have hq:=HQ.out;rw [hq] at RB;have HSZ:Hid (bq.1.clock.length<=9223372036854775807∧bq.1.effs.length<=9223372036854775807∧∀m∈ms,m.e.dots.length<=9223372036854775807):=⟨HSZ0.out.1,HSZ0.out.2.1,fun m hm=>HSZ0.out.2.2 m.e (by rw [HEF.out];exact List.mem_map_of_mem hm)⟩
 have hX:Blk wB wA.heap.size #[.string ⟨c.toArray⟩,I c.length, .nilIface] 245:=RB.out;have c0:wB.cell? ⟨wA.heap.size,0,none⟩=some (.string ⟨c.toArray⟩):=hX.cell 0;have c1:wB.cell? ⟨wA.heap.size,1,none⟩=some (I c.length):=hX.cell 1;go_quiet (fail)
 have DX:Hid (Dw w wA (wB.drewN nq) w2.heap.size w1.heap.size bq.1 ca ea cc ec ms):=DB.out.drewN nq;have RX:Hid (Rd (wB.drewN nq) wA.heap.size c (some c.length)):=RB.out.drewN nq;clear DB RB hX c0 c1 ha hz hq;generalize wB.drewN nq=wX at *
 have hX:Blk wX wA.heap.size #[.string ⟨c.toArray⟩,I c.length, .nilIface] 245:=RX.out;have c2:wX.cell? ⟨wA.heap.size,2,none⟩=some .nilIface:=hX.cell 2;have d0:wX.cell? ⟨w2.heap.size,0,none⟩=some (I bq.1.o):=DX.out.kD.cell 0;have d1:wX.cell? ⟨w2.heap.size,1,none⟩=some (I bq.1.s):=DX.out.kD.cell 1;have d2:wX.cell? ⟨w2.heap.size,2,none⟩=some (I bq.1.t):=DX.out.kD.cell 2;have d3:wX.cell? ⟨w2.heap.size,3,none⟩=some (.slice ca bq.1.clock.length cc):=DX.out.kD.cell 3;have d4:wX.cell? ⟨w2.heap.size,4,none⟩=some (.slice ea bq.1.effs.length ec):=DX.out.kD.cell 4;clear hX;go_wp2_with fail
 refine(zin bq.1 ca ea cc ec ms wX eb ef hI (GL.out.kept DX.out.below) (HPW.out.kept DX.out.below) (DX.out.ob.bat HEF.out) HSZ.out.1 HSZ.out.2.1 HSZ.out.2.2).mono ?_;rintro e w4 ⟨he,hb4⟩;have D4:Hid (Dw w wA w4 w2.heap.size w1.heap.size bq.1 ca ea cc ec ms):=DX.out.kept hb4;have R4:Hid (Rd w4 wA.heap.size c (some c.length)):=RX.out.kept hb4 RX.out.lt;unfold zfb at he;rw [HBQ.out] at he;clear DX RX c2 d0 d1 d2 d3 d4 hb4;obtain rfl:=he;go_wp2_with fail
 refine(zup c _ wA.heap.size w4 R4.out).mono ?_;rintro e w5 ⟨rfl,hR5,hG5⟩;have hX:Blk w5 wA.heap.size #[.string ⟨c.toArray⟩,I c.length, .nilIface] 245:=hR5;have D5:Hid (Dw w wA w5 w2.heap.size w1.heap.size bq.1 ca ea cc ec ms):=D4.out.read hG5;have c2:w5.cell? ⟨wA.heap.size,2,none⟩=some .nilIface:=hX.cell 2;have d0:w5.cell? ⟨w2.heap.size,0,none⟩=some (I bq.1.o):=D5.out.kD.cell 0;have d1:w5.cell? ⟨w2.heap.size,1,none⟩=some (I bq.1.s):=D5.out.kD.cell 1;have d2:w5.cell? ⟨w2.heap.size,2,none⟩=some (I bq.1.t):=D5.out.kD.cell 2;have d3:w5.cell? ⟨w2.heap.size,3,none⟩=some (.slice ca bq.1.clock.length cc):=D5.out.kD.cell 3;have d4:w5.cell? ⟨w2.heap.size,4,none⟩=some (.slice ea bq.1.effs.length ec):=D5.out.kD.cell 4;have HBw:Hid (Below w.heap.size w w5):=HA.out.trans (D5.out.below.mono HA.out.size);have HKw:Hid (Blk w5 w.heap.size #[.int .i64 0, .int .i64 0, .int .i64 0, .slice none 0 0, .slice none 0 0] 134):=D5.out.kR;have k0:w5.cell? ⟨w.heap.size,0,none⟩=some (.int .i64 0):=D5.out.kR.cell 0;have z0:=D5.out.kR.frozen 0;have k1:w5.cell? ⟨w.heap.size,1,none⟩=some (.int .i64 0):=D5.out.kR.cell 1;have z1:=D5.out.kR.frozen 1;have k2:w5.cell? ⟨w.heap.size,2,none⟩=some (.int .i64 0):=D5.out.kR.cell 2;have z2:=D5.out.kR.frozen 2;have k3:w5.cell? ⟨w.heap.size,3,none⟩=some (.slice none 0 0):=D5.out.kR.cell 3;have z3:=D5.out.kR.frozen 3;have k4:w5.cell? ⟨w.heap.size,4,none⟩=some (.slice none 0 0):=D5.out.kR.cell 4;have z4:=D5.out.kR.frozen 4;clear hX hR5 hG5 D4 R4;go_wp2;rw [HBE.out];have HF:Hid (Blk (put5 w5 w.heap.size (I bq.1.o) (I bq.1.s) (I bq.1.t) (.slice ca bq.1.clock.length cc) (.slice ea bq.1.effs.length ec)) w.heap.size #[I bq.1.o,I bq.1.s,I bq.1.t, .slice ca bq.1.clock.length cc, .slice ea bq.1.effs.length ec] 134):=zdy HKw.out _ _ _ _ _;have HY:Hid (Below w.heap.size w (put5 w5 w.heap.size (I bq.1.o) (I bq.1.s) (I bq.1.t) (.slice ca bq.1.clock.length cc) (.slice ea bq.1.effs.length ec))):=(((((HBw.out.setCell (ac _) _).setCell (ac _) _).setCell (ac _) _).setCell (ac _) _).setCell (ac _) _)
 have HP:Hid (∀bb,bb ≠ w.heap.size->(put5 w5 w.heap.size (I bq.1.o) (I bq.1.s) (I bq.1.t) (.slice ca bq.1.clock.length cc) (.slice ea bq.1.effs.length ec)).heap[bb]?=w5.heap[bb]?):=fun bb hk=>zh4 _ _ _ _ _ _ _ bb hk
 unfold put5 at HF HY HP;generalize (((((w5.setCell ⟨w.heap.size,0,none⟩ (I bq.1.o)).setCell ⟨w.heap.size,1,none⟩ (I bq.1.s)).setCell ⟨w.heap.size,2,none⟩ (I bq.1.t)).setCell ⟨w.heap.size,3,none⟩ (.slice ca bq.1.clock.length cc)).setCell ⟨w.heap.size,4,none⟩ (.slice ea bq.1.effs.length ec))=wF at *
 have f0:wF.cell? ⟨w.heap.size,0,none⟩=some (I bq.1.o):=HF.out.cell 0;have f1:wF.cell? ⟨w.heap.size,1,none⟩=some (I bq.1.s):=HF.out.cell 1;have f2:wF.cell? ⟨w.heap.size,2,none⟩=some (I bq.1.t):=HF.out.cell 2;have f3:wF.cell? ⟨w.heap.size,3,none⟩=some (.slice ca bq.1.clock.length cc):=HF.out.cell 3;have f4:wF.cell? ⟨w.heap.size,4,none⟩=some (.slice ea bq.1.effs.length ec):=HF.out.cell 4;refine bodyPost_ret (v:= .tuple #[bV bq.1 ca ea cc ec, .nilIface]) (by simp [results,Tryz.results126,go_sem,f0,f1,f2,f3,f4]) rfl ⟨⟨ca,ea,cc,ec,ms,rfl,HEF.out, ?_⟩,HY.out⟩;have hp2:∀b,b ≠ w.heap.size->wF.heap[b]?=w5.heap[b]?:=HP.out;have hlb:=D5.out.ltb;exact(D5.out.ob.kept (fun b _ h2=>hp2 b (by omega))).mono (by omega)
theorem zi4(l:List UInt8)(w:World)(eb ef:Addr)(hI:zaj)(gl:Gl w eb ef)(hp:Pw w)(g0:Gd w)(hlen:l.length<=9223372036854775807)(h:dec l=none):
  Calls prog 126 #[.string ⟨l.toArray⟩] w fun e w'=>(∃n y,e= .returned (.tuple #[zeroBat,FltF n y]))∧Below w.heap.size w w':=by
 by_cases ho:opens l
 ·have h2:decC true (Wv.body l)=none:=by
   unfold dec at h;split at h
   ·exact h
   ·exact absurd ho ‹_›
  cases hq:(batF true (Wv.body l) (some 2)).2 with
  | none=>exact zxe l w eb ef hI gl hp g0 ho hq
  | some k=>
   by_cases hk:k<(Wv.body l).length
   ·exact zxd l w eb ef hI gl hp g0 ho k hk hq
   ·have hle:=batF_le hq
    obtain rfl:k=(Wv.body l).length:=by omega
    refine fdec_no l w eb ef hI gl hp g0 ho hq ?_;cases hb:Wv.isB (batF true (Wv.body l) (some 2)).1 with
    | false=>rfl
    | true=>
     unfold decC at h2;rw [aA ⟨hq,hb⟩] at h2;cases h2
 ·exact zqh l w g0 hlen ho
theorem zii(l:List UInt8)(b:Bt)(w:World)(eb ef:Addr)(hI:zaj)(gl:Gl w eb ef)(hp:Pw w)(g0:Gd w)(h:dec l=some b):
  Calls prog 126 #[.string ⟨l.toArray⟩] w fun e w'=>(∃ca ea cc ec ms,e= .returned (.tuple #[bV b ca ea cc ec, .nilIface])∧b.effs=ms.map (·.e)∧OwB w' w.heap.size (.slice ca b.clock.length cc) (.slice ea b.effs.length ec) b.clock ms)∧Below w.heap.size w w':=by
 unfold dec at h;split at h
 ·rename_i ho
  unfold decC at h;split at h
  ·rename_i hq
   cases h
   exact fdec_yes l w eb ef hI gl hp g0 ho hq.1 hq.2
  ·cases h
 ·cases h
def fstB(l:List UInt8):List UInt8:=l.take (two true l (some 0)).toNat
theorem ztf(l:List UInt8)(w:World)(g0:Gd w)(hlen:l.length<=9223372036854775807):
  Calls prog 170 #[.string ⟨l.toArray⟩] w fun e w'=>e= .returned (.string ⟨(fstB l).toArray⟩)∧Below w.heap.size w w':=by
 have G0:Hid (Gd w):=g0;have HR:Hid (Rd (w.alloc (.cells #[.string ⟨l.toArray⟩,I 0, .nilIface] 245)) w.heap.size l (some 0)):=heap_alloc_new w _;have HB:Hid (Below w.heap.size w (w.alloc (.cells #[.string ⟨l.toArray⟩,I 0, .nilIface] 245))):=(Below.refl _ _).alloc (ac _) _;have hsz:=zaz l;have ht:=two_lt true l (some 0);obtain⟨t,HT⟩:∃t,Hid (two true l (some 0)=t):=⟨_,rfl⟩
 rw [HT.out] at ht;clear g0;go_enter func170,ntmps170;go_wp2_with fail
 refine(zel l (some 0) w.heap.size _ w G0.out HB.out (ac _) HR.out hlen).mono ?_;rintro e w1 ⟨rfl,hR,hG⟩;have HB1:Hid (Below w.heap.size w w1):=za8 HB.out hG (ac _);rw [HT.out];clear hR hG HR
 have HE:Hid ((⟨l.toArray⟩:ByteArray).extract 0 (min t (l.length:Int)).toNat=⟨(fstB l).toArray⟩):=by
  show _=_;unfold fstB;rw [HT.out,zha];congr 2
  rcases Int.le_total t l.length with h | h
  ·rw [Int.min_eq_left h]
  ·rw [Int.min_eq_right h,aj,List.take_length,aM (by omega)]
 go_wp2_with fail
 go_ret;exact⟨zud HE.out,HB1.out⟩
theorem zji(l:List UInt8):(fstB l).length<=l.length:=by unfold fstB;rw [al];omega
theorem zk4{l:List UInt8}{b:Bt}(h:dec l=some b):4<=l.length:=by
 unfold dec at h;split at h
 ·rename_i ho;exact ho.1
 ·cases h
theorem zyk(l:List UInt8)(n:Nat):(⟨l.toArray⟩:ByteArray).extract n l.length=⟨(l.drop n).toArray⟩:=by
 apply ByteArray.ext;simp [ByteArray.data_extract];exact aM (by simp)
def allN:Nat->List UInt8->List (Bt×List UInt8)
 | 0,_=> []
 | n+1,l=>match dec (fstB l) with
  | none=> []
  | some b=>(b,fstB l)::allN n (l.drop (fstB l).length)
