import Derived.Test.YtfmcngncaffloabGreatDoorH17DecK
set_option maxHeartbeats 1600000
namespace Go.Proofs.YtfmcngncaffloabGreatDoor
open Go.RowKit
set_option maxRecDepth 100000
theorem zu8(l:List UInt8)(w:World)(eb ef:Addr)(_hI:zaj)(gl:Gl w eb ef)(hp:Pw w)(g0:Gd w)(ho:opens l)(k:Nat)(hk:k<(Wv.body l).length)(hq0:(Wv.batF true (Wv.body l) (some 2)).2=some k):
  Calls Tryz.prog 126 #[.string ⟨l.toArray⟩] w fun e w'=>(∃n y,e= .returned (.tuple #[zeroBat,FltF n y]))∧Below w.heap.size w w':=by
 have HA:Hid (Below w.heap.size w (w.alloc (.cells #[.int .i64 0, .int .i64 0, .int .i64 0, .slice none 0 0, .slice none 0 0] 134))):=(Below.refl _ _).alloc (Nat.le_refl _) _
 have HK:Hid (Blk (w.alloc (.cells #[.int .i64 0, .int .i64 0, .int .i64 0, .slice none 0 0, .slice none 0 0] 134)) w.heap.size #[.int .i64 0, .int .i64 0, .int .i64 0, .slice none 0 0, .slice none 0 0] 134):=heap_alloc_new w _
 have G0:Hid (Gd (w.alloc (.cells #[.int .i64 0, .int .i64 0, .int .i64 0, .slice none 0 0, .slice none 0 0] 134))):=g0.kept HA.out
 have GL:Hid (Gl (w.alloc (.cells #[.int .i64 0, .int .i64 0, .int .i64 0, .slice none 0 0, .slice none 0 0] 134)) eb ef):=gl.kept HA.out
 have HPW:Hid (Pw (w.alloc (.cells #[.int .i64 0, .int .i64 0, .int .i64 0, .slice none 0 0, .slice none 0 0] 134))):=hp.kept HA.out
 have HO:Hid (opens l):=ho
 have hcl:(Wv.body l).length<=9223372036854775807:=by have:=ho.2.1;have:=(Wv.num2_le l).2;rw [Wv.body_len];omega
 have HQ:Hid ((Wv.batF true (Wv.body l) (some 2)).2=some k):=hq0
 clear hq0
 have HLE:Hid (∀k,(Wv.batF true (Wv.body l) (some 2)).2=some k->k<=(Wv.body l).length):=fun k h=>Wv.batF_le h
 generalize hc:Wv.body l=c at *
 have HC:Hid (Wv.body l=c):=hc
 clear g0 ho gl hp hc
 go_enter Tryz.func126,Tryz.ntmps126
 go_wp2_with fail
 generalize w.alloc (.cells #[.int .i64 0, .int .i64 0, .int .i64 0, .slice none 0 0, .slice none 0 0] 134)=wA at *
 refine(zfa l wA G0.out HO.out).mono ?_
 rintro e w1 ⟨rfl,hR1,hb1⟩
 rw [HC.out] at hR1
 have HR1:Hid (Rd w1 wA.heap.size c (some 2)):=hR1
 have HB1:Hid (Below wA.heap.size wA w1):=hb1
 have HK1:Hid (Blk w1 w.heap.size #[.int .i64 0, .int .i64 0, .int .i64 0, .slice none 0 0, .slice none 0 0] 134):=HK.out.kept hb1 HK.out.lt
 have hwA:w.heap.size<wA.heap.size:=HK.out.lt
 clear hR1 hb1 HK
 go_wp2_with fail
 refine(zgj c (some 2) wA.heap.size w1 wA eb ef GL.out G0.out HB1.out (Nat.le_refl _) HR1.out hcl).mono ?_
 rintro e w2 ⟨ca,ea,cc,ec,ms,rfl,hef,hOb,hR2,hG2⟩
 have hsz1:wA.heap.size<w1.heap.size:=HR1.out.lt
 have HB2:Hid (Below wA.heap.size wA w2):=za6 HB1.out hG2 (Nat.le_refl _)
 have HK2:Hid (Blk w2 w.heap.size #[.int .i64 0, .int .i64 0, .int .i64 0, .slice none 0 0, .slice none 0 0] 134):=HK1.out.grown hG2 (by simp;omega)
 generalize Wv.batF true c (some 2)=bq at *
 have HR2:Hid (Rd w2 wA.heap.size c bq.2):=hR2
 have HOb:Hid (OwB w2 w1.heap.size (.slice ca bq.1.clock.length cc) (.slice ea bq.1.effs.length ec) bq.1.clock ms):=hOb
 have HEF:Hid (bq.1.effs=ms.map (·.e)):=hef
 have hs2:w1.heap.size<=w2.heap.size:=hG2.size
 clear hR2 hG2 hOb hef HR1 HB1 HK1
 go_wp2_with fail
 have DB:Hid (Dw w wA (w2.alloc (.cells #[I bq.1.o,I bq.1.s,I bq.1.t, .slice ca bq.1.clock.length cc, .slice ea bq.1.effs.length ec] 134)) w2.heap.size w1.heap.size bq.1 ca ea cc ec ms):=⟨HB2.out.alloc (by omega) _,HK2.out.alloc _,heap_alloc_new w2 _,HOb.out.kept (fun b h1 _=>Below.heap_alloc w2 _ b h1),hwA,hsz1,by omega⟩
 have RB:Hid (Rd (w2.alloc (.cells #[I bq.1.o,I bq.1.s,I bq.1.t, .slice ca bq.1.clock.length cc, .slice ea bq.1.effs.length ec] 134)) wA.heap.size c bq.2):=HR2.out.alloc _
 generalize w2.alloc (.cells #[I bq.1.o,I bq.1.s,I bq.1.t, .slice ca bq.1.clock.length cc, .slice ea bq.1.effs.length ec] 134)=wB at *
 clear HR2 HOb HK2 HB2
 have hcs:=zaw c
 obtain⟨ad,ha⟩:=(G0.out.kept DB.out.below).rest
 have hz:=zad ha
 have hq:=HQ.out
 rw [hq] at RB
 have hX:Blk wB wA.heap.size #[.string ⟨c.toArray⟩,I k, .nilIface] 245:=RB.out
 have c0:wB.cell? ⟨wA.heap.size,0,none⟩=some (.string ⟨c.toArray⟩):=hX.cell 0
 have c1:wB.cell? ⟨wA.heap.size,1,none⟩=some (I k):=hX.cell 1
 go_quiet (fail)
 go_wp2_with fail
 have DX:Hid (Dw w wA (wB.drewN nq) w2.heap.size w1.heap.size bq.1 ca ea cc ec ms):=DB.out.drewN nq
 have RX:Hid (Rd (wB.drewN nq) wA.heap.size c (some k)):=RB.out.drewN nq
 clear DB RB hX c0 c1 ha hz hq
 generalize wB.drewN nq=wX at *
 refine(zfb c k wA.heap.size _ _ wX RX.out).mono ?_
 rintro e w3 ⟨rfl,⟨a,n,y,hX⟩,hG⟩
 have HX:Hid (Blk w3 wA.heap.size #[.string ⟨c.toArray⟩,I a,FltF n y] 245):=hX
 have D3:Hid (Dw w wA w3 w2.heap.size w1.heap.size bq.1 ca ea cc ec ms):=DX.out.read hG
 clear hX hG
 have c2:w3.cell? ⟨wA.heap.size,2,none⟩=some (FltF n y):=HX.out.cell 2
 have k0:w3.cell? ⟨w.heap.size,0,none⟩=some (.int .i64 0):=D3.out.kR.cell 0
 have z0:=D3.out.kR.frozen 0
 have k1:w3.cell? ⟨w.heap.size,1,none⟩=some (.int .i64 0):=D3.out.kR.cell 1
 have z1:=D3.out.kR.frozen 1
 have k2:w3.cell? ⟨w.heap.size,2,none⟩=some (.int .i64 0):=D3.out.kR.cell 2
 have z2:=D3.out.kR.frozen 2
 have k3:w3.cell? ⟨w.heap.size,3,none⟩=some (.slice none 0 0):=D3.out.kR.cell 3
 have z3:=D3.out.kR.frozen 3
 have k4:w3.cell? ⟨w.heap.size,4,none⟩=some (.slice none 0 0):=D3.out.kR.cell 4
 have z4:=D3.out.kR.frozen 4
 have HBw:Hid (Below w.heap.size w w3):=HA.out.trans (D3.out.below.mono HA.out.size)
 have HKw:Hid (Blk w3 w.heap.size #[.int .i64 0, .int .i64 0, .int .i64 0, .slice none 0 0, .slice none 0 0] 134):=D3.out.kR
 go_wp2
 go_region
 all_goals
  (go_wp2
   have HF:Hid (Blk (put5 w3 w.heap.size (.int .i64 0) (.int .i64 0) (.int .i64 0) (.slice none 0 0) (.slice none 0 0)).drew w.heap.size #[.int .i64 0, .int .i64 0, .int .i64 0, .slice none 0 0, .slice none 0 0] 134):=zc8 HKw.out _ _ _ _ _
   have HY:Hid (Below w.heap.size w (put5 w3 w.heap.size (.int .i64 0) (.int .i64 0) (.int .i64 0) (.slice none 0 0) (.slice none 0 0)).drew):=(((((HBw.out.setCell (Nat.le_refl _) _).setCell (Nat.le_refl _) _).setCell (Nat.le_refl _) _).setCell (Nat.le_refl _) _).setCell (Nat.le_refl _) _).drew
   unfold put5 at HF HY
   generalize (((((w3.setCell ⟨w.heap.size,0,none⟩ (.int .i64 0)).setCell ⟨w.heap.size,1,none⟩ (.int .i64 0)).setCell ⟨w.heap.size,2,none⟩ (.int .i64 0)).setCell ⟨w.heap.size,3,none⟩ (.slice none 0 0)).setCell ⟨w.heap.size,4,none⟩ (.slice none 0 0)).drew=wF at *
   have f0:wF.cell? ⟨w.heap.size,0,none⟩=some (.int .i64 0):=HF.out.cell 0
   have f1:wF.cell? ⟨w.heap.size,1,none⟩=some (.int .i64 0):=HF.out.cell 1
   have f2:wF.cell? ⟨w.heap.size,2,none⟩=some (.int .i64 0):=HF.out.cell 2
   have f3:wF.cell? ⟨w.heap.size,3,none⟩=some (.slice none 0 0):=HF.out.cell 3
   have f4:wF.cell? ⟨w.heap.size,4,none⟩=some (.slice none 0 0):=HF.out.cell 4
   refine bodyPost_ret (v:= .tuple #[zeroBat,FltF n y]) (by simp [results,Tryz.results126,go_sem,f0,f1,f2,f3,f4]) rfl ⟨⟨_,_,rfl⟩,HY.out⟩)
end Go.Proofs.YtfmcngncaffloabGreatDoor
