import Derived.Test.YtfmcngncaffloabGreatDoorH39CrA
set_option maxHeartbeats 8000000
namespace Go.Proofs.YtfmcngncaffloabGreatDoor
open Go.RowKit
set_option maxRecDepth 100000
theorem zfw(own:Clr)(c p:Nat)(R:Rp)(k:Int)(w:World)(hc0:0<c)(h:RpAt w own c p R)(hs0:0<=R.synced)(hs1:R.synced<=R.log.length)(hl:R.log.length<=100000000):
  Calls Tryz.prog 44 #[.pointer (some ⟨p,0,none⟩),I k] w fun e w'=>e= .returned (.tuple #[])∧ROk w own c p (zbv R k) w':=by
 obtain⟨cg,cc,hp,mv,hv,ev,hs,es,h⟩:=h
 have HR:Hid (RpIn w own c p R cg cc hp mv hv ev hs es):=h
 clear h
 go_enter Tryz.func44,Tryz.ntmps44
 go_wp2_with fail
 refine(zxo own c p R cg cc hp mv hv ev hs es k w hc0 HR.out hs0 hs1 hl).mono ?_
 rintro e w1 ⟨rfl,h1⟩
 have HS:Hid (zbo w own c p (cutR R k) cg cc hp mv hv ev hs es w1):=h1
 have c0:w1.cell? ⟨p,0,none⟩=some (I R.n):=h1.1.blk.cell 0
 have c2:w1.cell? ⟨p,2,none⟩=some (.slice (some ⟨cg,0,none⟩) R.clock.length cc):=h1.1.blk.cell 2
 have c5:w1.cell? ⟨p,5,none⟩=some (.string ⟨(cutR R k).log.toArray⟩):=h1.1.blk.cell 5
 have c6:w1.cell? ⟨p,6,none⟩=some (I (cutR R k).synced):=h1.1.blk.cell 6
 have HBK:Hid (Blk w1 p #[I (cutR R k).n,I (cutR R k).st, .slice (some ⟨cg,0,none⟩) (cutR R k).clock.length cc,I (cutR R k).time,mv, .string ⟨(cutR R k).log.toArray⟩,I (cutR R k).synced, .pointer (some ⟨hp,0,none⟩),ev] 110):=h1.1.blk
 have hpl:p<w1.heap.size:=h1.1.blk.lt
 have HO:Hid (own p=c):=HR.out.own1
 clear h1 HR
 go_wp2_with fail
 go_region_law ((go_simp;go_at_call 77;refine(zzz _).mono ?_;rintro e w3 ⟨rfl,hw3⟩;have hb3:Below w1.heap.size w1 w3:=(by rw [hw3];exact(Below.refl _ _).drew.alloc (Nat.le_refl _) _);have HB3:Hid (Below w1.heap.size w1 w3):=hb3;clear hb3;have HN3:Hid (Blk w3 w1.heap.size #[.slice none 0 0, .func (.func 78) #[] #[]] 188):=(by rw [hw3];exact heap_alloc_new _ _);have HK3:Hid (Blk w3 p #[I R.n,I R.st, .slice (some ⟨cg,0,none⟩) R.clock.length cc,I R.time,mv, .string ⟨(cutR R k).log.toArray⟩,I (cutR R k).synced, .pointer (some ⟨hp,0,none⟩),ev] 110):=HBK.out.kept HB3.out hpl;clear hw3;have d0:w3.cell? ⟨p,0,none⟩=some (I R.n):=HK3.out.cell 0;have z0:w3.frozen? ⟨p,0,none⟩=false:=HK3.out.frozen 0;have d1:w3.cell? ⟨p,1,none⟩=some (I R.st):=HK3.out.cell 1;have z1:w3.frozen? ⟨p,1,none⟩=false:=HK3.out.frozen 1;have d2:w3.cell? ⟨p,2,none⟩=some (.slice (some ⟨cg,0,none⟩) R.clock.length cc):=HK3.out.cell 2;have z2:w3.frozen? ⟨p,2,none⟩=false:=HK3.out.frozen 2;have d3:w3.cell? ⟨p,3,none⟩=some (I R.time):=HK3.out.cell 3;have z3:w3.frozen? ⟨p,3,none⟩=false:=HK3.out.frozen 3;have d4:w3.cell? ⟨p,4,none⟩=some mv:=HK3.out.cell 4;have z4:w3.frozen? ⟨p,4,none⟩=false:=HK3.out.frozen 4;have d5:w3.cell? ⟨p,5,none⟩=some (.string ⟨(cutR R k).log.toArray⟩):=HK3.out.cell 5;have z5:w3.frozen? ⟨p,5,none⟩=false:=HK3.out.frozen 5;have d6:w3.cell? ⟨p,6,none⟩=some (I (cutR R k).synced):=HK3.out.cell 6;have z6:w3.frozen? ⟨p,6,none⟩=false:=HK3.out.frozen 6;have d7:w3.cell? ⟨p,7,none⟩=some (.pointer (some ⟨hp,0,none⟩)):=HK3.out.cell 7;have z7:w3.frozen? ⟨p,7,none⟩=false:=HK3.out.frozen 7;have d8:w3.cell? ⟨p,8,none⟩=some ev:=HK3.out.cell 8;have z8:w3.frozen? ⟨p,8,none⟩=false:=HK3.out.frozen 8))
 all_goals
  (go_wp2
   go_end0
   exact⟨rfl,zvm HS.out HO.out HB3.out HN3.out (tch9 _ _ _ _ _ _ _ _ _ _ _) (blk9 HK3.out _ _ _ _ _ _ _ _ _) rfl rfl rfl rfl⟩)
end Go.Proofs.YtfmcngncaffloabGreatDoor
