import Derived.Test.YtfmcngncaffloabGreatDoorJ08ObjG
set_option maxHeartbeats 1600000
namespace Go.Proofs.YtfmcngncaffloabGreatDoor
open Go.RowKit Go.Proofs.Tryz Wv
set_option maxRecDepth 100000
theorem zm0(n c:Nat)(w:World):
  Calls prog 310 #[.slice none n c] w fun e w'=>e= .returned (.slice none 0 0)∧w'=w:=by
 have hnil:=Lib.run_eql_slice_nil (P:=prog) w 206 365 none n c 0 0 underlying206;go_enter func310,ntmps310;go_wp2;go_ret;exact⟨rfl,rfl⟩
theorem zur(a:Option Addr)(c:Nat)(w:World):
  Calls prog 318 #[.slice a 0 c, .func (.func 319) #[] #[]] w fun e w'=>e= .returned (.slice a 0 c)∧Below w.heap.size w w':=by
 go_enter func318,ntmps318;go_wp2_with fail
 refine(zet a c w).mono ?_;rintro e w1 ⟨rfl,hb1⟩;have HB:Hid (Below w.heap.size w w1):=hb1;clear hb1;go_wp2;go_ret;exact⟨rfl,HB.out⟩
theorem Rw.at{w:World}{g:Nat}{cs:List El}(h:Rw w g cs):At w (some ⟨g,0,none⟩) (flat El.cells cs):=by
 obtain⟨cur,hB,hs,hc⟩:=h.row;intro j u hj;have hl:j<cs.length*6:=by rw [←zan El.cells 6 zak cs];exact(af.1 hj).1
 exact⟨g,0,rfl,by rw [hB.cell,aV,hc j hl];exact hj⟩
def zjl(w:World)(ls:List El)(e:Ending)(w':World):Prop:=(∃a c,e= .returned (.slice a (stands ls).length c)∧At w' a (flat El.cells (stands ls)))∧Below w.heap.size w w'
theorem zex(p:Nat)(a:Option Addr)(c:Nat)(ls:List El)(w:World)(h:w.cell? ⟨p,0,none⟩=some (.slice a ls.length c))(hpl:a=none∨∃p q,a=some ⟨p,q,none⟩)(hat:At w a (flat El.cells ls))(hl:ls.length<=1048576):
  Calls prog 315 #[.pointer (some ⟨p,0,none⟩)] w fun e w'=>zjl w ls e w':=by
 have HA:Hid (At w a (flat El.cells ls)):=hat;clear hat;rcases hpl with rfl | ⟨p1,q1,rfl⟩
 ·have hn:(flat El.cells ls).length=0:=by
   cases hq:flat El.cells ls with
   | nil=>rfl
   | cons x l=>
    obtain⟨_,_,e,_⟩:=HA.out 0 x (by rw [hq];rfl);cases e
  obtain rfl:ls= []:=by
   rw [zan El.cells 6 zak] at hn;exact aw (by omega)
  go_enter func315,ntmps315;go_wp2_with fail
  refine(zm0 _ c w).mono ?_;rintro e w1 ⟨rfl,rfl⟩;go_wp2_with fail
  refine(zur none 0 w1).mono ?_;rintro e w2 ⟨rfl,hb2⟩;have HB:Hid (Below w1.heap.size w1 w2):=hb2;clear hb2;go_wp2;go_ret;exact⟨⟨none,0,rfl,fun j u hj=>by simp [stands,flat] at hj⟩,HB.out⟩
 ·go_enter func315,ntmps315
  go_wp2_with fail
  refine(zk6 p1 q1 c ls w HA.out hl).mono ?_;rintro e w1 ⟨v,rfl,hown,hb1⟩;have HB1:Hid (Below w.heap.size w w1):=hb1;clear hb1;rcases hown.2 with⟨rfl,hz⟩ | ⟨g,cap,cur,rfl,hbg,_,hnc,_⟩
  ·obtain rfl:ls= []:=aw hz
   clear hown;go_wp2_with fail
   refine(zur none 0 w1).mono ?_;rintro e w2 ⟨rfl,hb2⟩;have HB:Hid (Below w.heap.size w w2):=HB1.out.trans (hb2.mono HB1.out.size);clear hb2;go_wp2;go_ret;exact⟨⟨none,0,rfl,fun j u hj=>by simp [stands,flat] at hj⟩,HB.out⟩
  ·have HR:Hid (Rw w1 g ls):=(Rw.of_own rfl hown).1
   clear hown;go_wp2_with fail
   refine(del_any g cap ls w1 w HB1.out hbg HR.out hl hnc).mono ?_;rintro e w2 ⟨⟨m,rfl,rfl⟩,hr2,hb2⟩;have HB:Hid (Below w.heap.size w w2):=hb2;have H2:Hid (Rw w2 g (stands ls)):=hr2;clear hb2 hr2;go_wp2;go_ret;exact⟨⟨some ⟨g,0,none⟩,cap,rfl,H2.out.at⟩,HB.out⟩
end Go.Proofs.YtfmcngncaffloabGreatDoor
namespace Go.Proofs.YtfmcngncaffloabGreatDoor
open Go.RowKit Go.Proofs.Tryz Wv
set_option maxRecDepth 100000
abbrev efV (op ob va:Int) (r:Dt):Value:= .agg #[I op,I ob,I va,I r.o,I r.s,I r.i, .slice none 0 0]
def zbs(ls:List El)(n:Int):Dt×Int:=if h:0<=n∧n.toNat<(stands ls).length then((stands ls)[n.toNat].s.d,0) else(⟨0,0,0⟩,11)
theorem zth(ls:List El)(k:Nat)(h:k<(stands ls).length):zbs ls k=((stands ls)[k].s.d,0):=by
 unfold zbs;rw [dif_pos ⟨by omega,by simpa using h⟩];simp
theorem zxf(ls:List El)(n:Int)(h:n<0∨((stands ls).length:Int)<=n):zbs ls n=(⟨0,0,0⟩,11):=by
 unfold zbs;rw [dif_neg (by omega)]
abbrev zeroE:Array Value:= #[.int .i64 0, .int .i64 0, .int .i64 0, .int .i64 0, .int .i64 0, .int .i64 0, .slice none 0 0]
abbrev putE (w:World) (R:Nat) (a0 a1 a2 a3 a4 a5 a6:Value):World:=((((((w.setCell ⟨R,0,none⟩ a0).setCell ⟨R,1,none⟩ a1).setCell ⟨R,2,none⟩ a2).setCell ⟨R,3,none⟩ a3).setCell ⟨R,4,none⟩ a4).setCell ⟨R,5,none⟩ a5).setCell ⟨R,6,none⟩ a6
theorem zb0{w:World}{R:Nat}(h:Blk w R zeroE 128)(a0 a1 a2 a3 a4 a5 a6:Value):Blk (putE w R a0 a1 a2 a3 a4 a5 a6) R #[a0,a1,a2,a3,a4,a5,a6] 128:=
 ((((((h.set 0 a0).set 1 a1).set 2 a2).set 3 a3).set 4 a4).set 5 a5).set 6 a6
theorem zbc{w0 w:World}(h:Below w0.heap.size w0 w){R:Nat}(hR:w0.heap.size<=R)(a0 a1 a2 a3 a4 a5 a6:Value):Below w0.heap.size w0 (putE w R a0 a1 a2 a3 a4 a5 a6):=
 ((((((h.setCell hR _).setCell hR _).setCell hR _).setCell hR _).setCell hR _).setCell hR _).setCell hR _
theorem zqk(p:Nat)(a:Option Addr)(c:Nat)(ls:List El)(n:Int)(w:World)(h:w.cell? ⟨p,0,none⟩=some (.slice a ls.length c))(hpl:a=none∨∃p q,a=some ⟨p,q,none⟩)(hat:At w a (flat El.cells ls))(hl:ls.length<=1048576):
  Calls prog 311 #[.pointer (some ⟨p,0,none⟩),I n] w fun e w'=>e= .returned (.tuple #[efV 0 0 0 (zbs ls n).1,I (zbs ls n).2])∧Below w.heap.size w w':=by
 have HS:Hid (∀w':World,Below w.heap.size w w'->Calls prog 315 #[.pointer (some ⟨p,0,none⟩)] w' fun e w''=>zjl w' ls e w''):=fun w' hb=>zex p a c ls w' (zaa hb h) hpl (hat.kept hb) hl
 clear h hat hpl;go_enter func311,ntmps311;have HB0:Hid (Below w.heap.size w (w.alloc (.cells zeroE 128))):=(Below.refl _ _).alloc (ac _) _;have HK0:Hid (Blk (w.alloc (.cells zeroE 128)) w.heap.size zeroE 128):=heap_alloc_new w _;go_wp2_with fail
 refine(HS.out _ HB0.out).mono ?_;rintro e w1 ⟨⟨a1,c1,rfl,hA⟩,hb1⟩;have HB1:Hid (Below w.heap.size w w1):=HB0.out.trans (hb1.mono HB0.out.size);have HK1:Hid (Blk w1 w.heap.size zeroE 128):=HK0.out.kept hb1 HK0.out.lt;have HA:Hid (At w1 a1 (flat El.cells (stands ls))):=hA;clear HS HB0 HK0 hb1 hA;have k0:w1.cell? ⟨w.heap.size,0,none⟩=some (.int .i64 0):=HK1.out.cell 0;have z0:=HK1.out.frozen 0;have k1:w1.cell? ⟨w.heap.size,1,none⟩=some (.int .i64 0):=HK1.out.cell 1;have z1:=HK1.out.frozen 1;have k2:w1.cell? ⟨w.heap.size,2,none⟩=some (.int .i64 0):=HK1.out.cell 2;have z2:=HK1.out.frozen 2;have k3:w1.cell? ⟨w.heap.size,3,none⟩=some (.int .i64 0):=HK1.out.cell 3;have z3:=HK1.out.frozen 3;have k4:w1.cell? ⟨w.heap.size,4,none⟩=some (.int .i64 0):=HK1.out.cell 4;have z4:=HK1.out.frozen 4;have k5:w1.cell? ⟨w.heap.size,5,none⟩=some (.int .i64 0):=HK1.out.cell 5;have z5:=HK1.out.frozen 5;have k6:w1.cell? ⟨w.heap.size,6,none⟩=some (.slice none 0 0):=HK1.out.cell 6;have z6:=HK1.out.frozen 6;by_cases hno:n<0∨((stands ls).length:Int)<=n
 ·have HN:Hid (zbs ls n=(⟨0,0,0⟩,11)):=zxf ls n hno
  by_cases hneg:n<0
  all_goals
   (have hnl:n<0->True:=fun _=>trivial
    first | (have hge:((stands ls).length:Int)<=n:=hno.resolve_left hneg) | skip
    clear hno hnl HA;go_wp2;have HF:Hid (Blk (putE w1 w.heap.size (I 0) (I 0) (I 0) (I 0) (I 0) (I 0) (.slice none 0 0)) w.heap.size #[I 0,I 0,I 0,I 0,I 0,I 0, .slice none 0 0] 128):=zb0 HK1.out _ _ _ _ _ _ _;have HY:Hid (Below w.heap.size w (putE w1 w.heap.size (I 0) (I 0) (I 0) (I 0) (I 0) (I 0) (.slice none 0 0))):=zbc HB1.out (ac _) _ _ _ _ _ _ _;unfold putE at HF HY;generalize (((((((w1.setCell ⟨w.heap.size,0,none⟩ (I 0)).setCell ⟨w.heap.size,1,none⟩ (I 0)).setCell ⟨w.heap.size,2,none⟩ (I 0)).setCell ⟨w.heap.size,3,none⟩ (I 0)).setCell ⟨w.heap.size,4,none⟩ (I 0)).setCell ⟨w.heap.size,5,none⟩ (I 0)).setCell ⟨w.heap.size,6,none⟩ (.slice none 0 0))=wF at *
    have f0:wF.cell? ⟨w.heap.size,0,none⟩=some (I 0):=HF.out.cell 0;have f1:wF.cell? ⟨w.heap.size,1,none⟩=some (I 0):=HF.out.cell 1;have f2:wF.cell? ⟨w.heap.size,2,none⟩=some (I 0):=HF.out.cell 2;have f3:wF.cell? ⟨w.heap.size,3,none⟩=some (I 0):=HF.out.cell 3;have f4:wF.cell? ⟨w.heap.size,4,none⟩=some (I 0):=HF.out.cell 4;have f5:wF.cell? ⟨w.heap.size,5,none⟩=some (I 0):=HF.out.cell 5;have f6:wF.cell? ⟨w.heap.size,6,none⟩=some (.slice none 0 0):=HF.out.cell 6
    refine bodyPost_ret (v:= .tuple #[efV 0 0 0 ⟨0,0,0⟩,I 11]) (by simp [results,Tryz.results311,go_sem,f0,f1,f2,f3,f4,f5,f6]) rfl ⟨by rw [HN.out],HY.out⟩)
 ·obtain⟨k,rfl⟩:=aN (by omega:0<=n)
  have hk:k<(stands ls).length:=by omega
  have HN:Hid (zbs ls k=((stands ls)[k].s.d,0)):=zth ls k hk;obtain⟨p2,q2,rfl,hp2,hE⟩:=zn8 HA.out (by omega);obtain⟨e0,e1,e2,e3,e4,e5⟩:=hE k hk;clear hE HA hno;generalize (stands ls)[k]=el at *
  have hki:(k:Int)<(stands ls).length:=by omega
  have hkn:¬(k:Int)<0:=by omega
  generalize (stands ls).length=len at *
  go_wp2;have HF:Hid (Blk (putE w1 w.heap.size (I 0) (I 0) (I 0) (I el.s.d.o) (I el.s.d.s) (I el.s.d.i) (.slice none 0 0)) w.heap.size #[I 0,I 0,I 0,I el.s.d.o,I el.s.d.s,I el.s.d.i, .slice none 0 0] 128):=zb0 HK1.out _ _ _ _ _ _ _;have HY:Hid (Below w.heap.size w (putE w1 w.heap.size (I 0) (I 0) (I 0) (I el.s.d.o) (I el.s.d.s) (I el.s.d.i) (.slice none 0 0))):=zbc HB1.out (ac _) _ _ _ _ _ _ _;unfold putE at HF HY;generalize (((((((w1.setCell ⟨w.heap.size,0,none⟩ (I 0)).setCell ⟨w.heap.size,1,none⟩ (I 0)).setCell ⟨w.heap.size,2,none⟩ (I 0)).setCell ⟨w.heap.size,3,none⟩ (I el.s.d.o)).setCell ⟨w.heap.size,4,none⟩ (I el.s.d.s)).setCell ⟨w.heap.size,5,none⟩ (I el.s.d.i)).setCell ⟨w.heap.size,6,none⟩ (.slice none 0 0))=wF at *
  have f0:wF.cell? ⟨w.heap.size,0,none⟩=some (I 0):=HF.out.cell 0;have f1:wF.cell? ⟨w.heap.size,1,none⟩=some (I 0):=HF.out.cell 1;have f2:wF.cell? ⟨w.heap.size,2,none⟩=some (I 0):=HF.out.cell 2;have f3:wF.cell? ⟨w.heap.size,3,none⟩=some (I el.s.d.o):=HF.out.cell 3;have f4:wF.cell? ⟨w.heap.size,4,none⟩=some (I el.s.d.s):=HF.out.cell 4;have f5:wF.cell? ⟨w.heap.size,5,none⟩=some (I el.s.d.i):=HF.out.cell 5;have f6:wF.cell? ⟨w.heap.size,6,none⟩=some (.slice none 0 0):=HF.out.cell 6;refine bodyPost_ret (v:= .tuple #[efV 0 0 0 el.s.d,I 0]) (by simp [results,Tryz.results311,go_sem,f0,f1,f2,f3,f4,f5,f6]) rfl ⟨by rw [HN.out],HY.out⟩
end Go.Proofs.YtfmcngncaffloabGreatDoor
namespace Go.Proofs.YtfmcngncaffloabGreatDoor
open Go.RowKit Go.Proofs.Tryz Wv
set_option maxRecDepth 100000
theorem zm9(a:Int)(h1:0<=a)(h2:a<=1048576):wrap64 a=a:=by
 unfold wrap64;omega
def putA(ls:List El)(n v:Int):Int×Dt×Int:=
 if n=0 then(v,⟨0,0,0⟩,0) else if h:0<n∧(n - 1).toNat<(stands ls).length then(v,(stands ls)[(n - 1).toNat].s.d,0) else(0,⟨0,0,0⟩,11)
theorem zv6(ls:List El)(v:Int):putA ls 0 v=(v,⟨0,0,0⟩,0):=rfl
theorem zy8(ls:List El)(k:Nat)(v:Int)(h:k<(stands ls).length):putA ls ((k:Int)+1) v=(v,(stands ls)[k].s.d,0):=by
 unfold putA;rw [ap (by omega),dif_pos ⟨by omega,by simpa using h⟩];simp
theorem putA_no(ls:List El)(n v:Int)(h:n<0∨((stands ls).length:Int)<n):putA ls n v=(0,⟨0,0,0⟩,11):=by
 unfold putA;rw [ap (by omega),dif_neg (by omega)]
theorem zpf(p:Nat)(a:Option Addr)(c:Nat)(ls:List El)(n v:Int)(w:World)(h:w.cell? ⟨p,0,none⟩=some (.slice a ls.length c))(hpl:a=none∨∃p q,a=some ⟨p,q,none⟩)(hat:At w a (flat El.cells ls))(hl:ls.length<=1048576):
  Calls prog 312 #[.pointer (some ⟨p,0,none⟩),I n,I v] w fun e w'=>e= .returned (.tuple #[efV 0 0 (putA ls n v).1 (putA ls n v).2.1,I (putA ls n v).2.2])∧Below w.heap.size w w':=by
 have HS:Hid (∀w':World,Below w.heap.size w w'->Calls prog 315 #[.pointer (some ⟨p,0,none⟩)] w' fun e w''=>zjl w' ls e w''):=fun w' hb=>zex p a c ls w' (zaa hb h) hpl (hat.kept hb) hl
 clear h hat hpl;go_enter func312,ntmps312;have HB0:Hid (Below w.heap.size w (w.alloc (.cells zeroE 128))):=(Below.refl _ _).alloc (ac _) _;have HK0:Hid (Blk (w.alloc (.cells zeroE 128)) w.heap.size zeroE 128):=heap_alloc_new w _;go_wp2_with fail
 refine(HS.out _ HB0.out).mono ?_;rintro e w1 ⟨⟨a1,c1,rfl,hA⟩,hb1⟩;have HB1:Hid (Below w.heap.size w w1):=HB0.out.trans (hb1.mono HB0.out.size);have HK1:Hid (Blk w1 w.heap.size zeroE 128):=HK0.out.kept hb1 HK0.out.lt;have HA:Hid (At w1 a1 (flat El.cells (stands ls))):=hA;clear HS HB0 HK0 hb1 hA;have k0:w1.cell? ⟨w.heap.size,0,none⟩=some (.int .i64 0):=HK1.out.cell 0;have z0:=HK1.out.frozen 0;have k1:w1.cell? ⟨w.heap.size,1,none⟩=some (.int .i64 0):=HK1.out.cell 1;have z1:=HK1.out.frozen 1;have k2:w1.cell? ⟨w.heap.size,2,none⟩=some (.int .i64 0):=HK1.out.cell 2;have z2:=HK1.out.frozen 2;have k3:w1.cell? ⟨w.heap.size,3,none⟩=some (.int .i64 0):=HK1.out.cell 3;have z3:=HK1.out.frozen 3;have k4:w1.cell? ⟨w.heap.size,4,none⟩=some (.int .i64 0):=HK1.out.cell 4;have z4:=HK1.out.frozen 4;have k5:w1.cell? ⟨w.heap.size,5,none⟩=some (.int .i64 0):=HK1.out.cell 5;have z5:=HK1.out.frozen 5;have k6:w1.cell? ⟨w.heap.size,6,none⟩=some (.slice none 0 0):=HK1.out.cell 6;have z6:=HK1.out.frozen 6;by_cases hno:n<0∨((stands ls).length:Int)<n
 ·have HN:Hid (putA ls n v=(0,⟨0,0,0⟩,11)):=putA_no ls n v hno
  by_cases hneg:n<0
  all_goals
   (have hnl:n<0->True:=fun _=>trivial
    first | (have hge:((stands ls).length:Int)<n:=hno.resolve_left hneg) | skip
    clear hno hnl HA;go_wp2;have HF:Hid (Blk (putE w1 w.heap.size (I 0) (I 0) (I 0) (I 0) (I 0) (I 0) (.slice none 0 0)) w.heap.size #[I 0,I 0,I 0,I 0,I 0,I 0, .slice none 0 0] 128):=zb0 HK1.out _ _ _ _ _ _ _;have HY:Hid (Below w.heap.size w (putE w1 w.heap.size (I 0) (I 0) (I 0) (I 0) (I 0) (I 0) (.slice none 0 0))):=zbc HB1.out (ac _) _ _ _ _ _ _ _;unfold putE at HF HY;generalize (((((((w1.setCell ⟨w.heap.size,0,none⟩ (I 0)).setCell ⟨w.heap.size,1,none⟩ (I 0)).setCell ⟨w.heap.size,2,none⟩ (I 0)).setCell ⟨w.heap.size,3,none⟩ (I 0)).setCell ⟨w.heap.size,4,none⟩ (I 0)).setCell ⟨w.heap.size,5,none⟩ (I 0)).setCell ⟨w.heap.size,6,none⟩ (.slice none 0 0))=wF at *
    have f0:wF.cell? ⟨w.heap.size,0,none⟩=some (I 0):=HF.out.cell 0;have f1:wF.cell? ⟨w.heap.size,1,none⟩=some (I 0):=HF.out.cell 1;have f2:wF.cell? ⟨w.heap.size,2,none⟩=some (I 0):=HF.out.cell 2;have f3:wF.cell? ⟨w.heap.size,3,none⟩=some (I 0):=HF.out.cell 3;have f4:wF.cell? ⟨w.heap.size,4,none⟩=some (I 0):=HF.out.cell 4;have f5:wF.cell? ⟨w.heap.size,5,none⟩=some (I 0):=HF.out.cell 5;have f6:wF.cell? ⟨w.heap.size,6,none⟩=some (.slice none 0 0):=HF.out.cell 6
    refine bodyPost_ret (v:= .tuple #[efV 0 0 0 ⟨0,0,0⟩,I 11]) (by simp [results,Tryz.results312,go_sem,f0,f1,f2,f3,f4,f5,f6]) rfl ⟨by rw [HN.out],HY.out⟩)
 by_cases hz:n=0
 ·subst hz
  have HN:Hid (putA ls 0 v=(v,⟨0,0,0⟩,0)):=zv6 ls v;have HBW:Hid (Below w.heap.size w (w1.alloc (.cells #[I 0,I 0,I v,I 0,I 0,I 0, .slice none 0 0] 128))):=HB1.out.alloc HB1.out.size _;have HKW:Hid (Blk (w1.alloc (.cells #[I 0,I 0,I v,I 0,I 0,I 0, .slice none 0 0] 128)) w.heap.size zeroE 128):=HK1.out.alloc _;have k0:(w1.alloc (.cells #[I 0,I 0,I v,I 0,I 0,I 0, .slice none 0 0] 128)).cell? ⟨w.heap.size,0,none⟩=some (.int .i64 0):=HKW.out.cell 0;have z0:=HKW.out.frozen 0;have k1:(w1.alloc (.cells #[I 0,I 0,I v,I 0,I 0,I 0, .slice none 0 0] 128)).cell? ⟨w.heap.size,1,none⟩=some (.int .i64 0):=HKW.out.cell 1;have z1:=HKW.out.frozen 1;have k2:(w1.alloc (.cells #[I 0,I 0,I v,I 0,I 0,I 0, .slice none 0 0] 128)).cell? ⟨w.heap.size,2,none⟩=some (.int .i64 0):=HKW.out.cell 2;have z2:=HKW.out.frozen 2;have k3:(w1.alloc (.cells #[I 0,I 0,I v,I 0,I 0,I 0, .slice none 0 0] 128)).cell? ⟨w.heap.size,3,none⟩=some (.int .i64 0):=HKW.out.cell 3;have z3:=HKW.out.frozen 3;have k4:(w1.alloc (.cells #[I 0,I 0,I v,I 0,I 0,I 0, .slice none 0 0] 128)).cell? ⟨w.heap.size,4,none⟩=some (.int .i64 0):=HKW.out.cell 4;have z4:=HKW.out.frozen 4;have k5:(w1.alloc (.cells #[I 0,I 0,I v,I 0,I 0,I 0, .slice none 0 0] 128)).cell? ⟨w.heap.size,5,none⟩=some (.int .i64 0):=HKW.out.cell 5;have z5:=HKW.out.frozen 5;have k6:(w1.alloc (.cells #[I 0,I 0,I v,I 0,I 0,I 0, .slice none 0 0] 128)).cell? ⟨w.heap.size,6,none⟩=some (.slice none 0 0):=HKW.out.cell 6;have z6:=HKW.out.frozen 6;have hlen:¬((stands ls).length:Int)<0:=by omega
  clear hno HA;go_wp2;have HF:Hid (Blk (putE (w1.alloc (.cells #[I 0,I 0,I v,I 0,I 0,I 0, .slice none 0 0] 128)) w.heap.size (I 0) (I 0) (I v) (I 0) (I 0) (I 0) (.slice none 0 0)) w.heap.size #[I 0,I 0,I v,I 0,I 0,I 0, .slice none 0 0] 128):=zb0 HKW.out _ _ _ _ _ _ _;have HY:Hid (Below w.heap.size w (putE (w1.alloc (.cells #[I 0,I 0,I v,I 0,I 0,I 0, .slice none 0 0] 128)) w.heap.size (I 0) (I 0) (I v) (I 0) (I 0) (I 0) (.slice none 0 0))):=zbc HBW.out (ac _) _ _ _ _ _ _ _;unfold putE at HF HY;generalize ((((((((w1.alloc (.cells #[I 0,I 0,I v,I 0,I 0,I 0, .slice none 0 0] 128)).setCell ⟨w.heap.size,0,none⟩ (I 0)).setCell ⟨w.heap.size,1,none⟩ (I 0)).setCell ⟨w.heap.size,2,none⟩ (I v)).setCell ⟨w.heap.size,3,none⟩ (I 0)).setCell ⟨w.heap.size,4,none⟩ (I 0)).setCell ⟨w.heap.size,5,none⟩ (I 0)).setCell ⟨w.heap.size,6,none⟩ (.slice none 0 0))=wF at *
  have f0:wF.cell? ⟨w.heap.size,0,none⟩=some (I 0):=HF.out.cell 0;have f1:wF.cell? ⟨w.heap.size,1,none⟩=some (I 0):=HF.out.cell 1;have f2:wF.cell? ⟨w.heap.size,2,none⟩=some (I v):=HF.out.cell 2;have f3:wF.cell? ⟨w.heap.size,3,none⟩=some (I 0):=HF.out.cell 3;have f4:wF.cell? ⟨w.heap.size,4,none⟩=some (I 0):=HF.out.cell 4;have f5:wF.cell? ⟨w.heap.size,5,none⟩=some (I 0):=HF.out.cell 5;have f6:wF.cell? ⟨w.heap.size,6,none⟩=some (.slice none 0 0):=HF.out.cell 6;refine bodyPost_ret (v:= .tuple #[efV 0 0 v ⟨0,0,0⟩,I 0]) (by simp [results,Tryz.results312,go_sem,f0,f1,f2,f3,f4,f5,f6]) rfl ⟨by rw [HN.out],HY.out⟩
 ·obtain⟨k,hk0⟩:=aN (by omega:0<=n - 1)
  obtain rfl:n=(k:Int)+1:=by omega
  have hk:k<(stands ls).length:=by omega
  have HN:Hid (putA ls ((k:Int)+1) v=(v,(stands ls)[k].s.d,0)):=zy8 ls k v hk;obtain⟨p2,q2,rfl,hp2,hE⟩:=zn8 HA.out (by omega);obtain⟨e0',e1',e2',_,_,_⟩:=hE k hk;clear hE HA hno hk0;generalize (stands ls)[k]=el at *
  have HBW:Hid (Below w.heap.size w (w1.alloc (.cells #[I 0,I 0,I v,I el.s.d.o,I el.s.d.s,I el.s.d.i, .slice none 0 0] 128))):=HB1.out.alloc HB1.out.size _;have HKW:Hid (Blk (w1.alloc (.cells #[I 0,I 0,I v,I el.s.d.o,I el.s.d.s,I el.s.d.i, .slice none 0 0] 128)) w.heap.size zeroE 128):=HK1.out.alloc _;have k0:(w1.alloc (.cells #[I 0,I 0,I v,I el.s.d.o,I el.s.d.s,I el.s.d.i, .slice none 0 0] 128)).cell? ⟨w.heap.size,0,none⟩=some (.int .i64 0):=HKW.out.cell 0;have z0:=HKW.out.frozen 0;have k1:(w1.alloc (.cells #[I 0,I 0,I v,I el.s.d.o,I el.s.d.s,I el.s.d.i, .slice none 0 0] 128)).cell? ⟨w.heap.size,1,none⟩=some (.int .i64 0):=HKW.out.cell 1;have z1:=HKW.out.frozen 1;have k2:(w1.alloc (.cells #[I 0,I 0,I v,I el.s.d.o,I el.s.d.s,I el.s.d.i, .slice none 0 0] 128)).cell? ⟨w.heap.size,2,none⟩=some (.int .i64 0):=HKW.out.cell 2;have z2:=HKW.out.frozen 2;have k3:(w1.alloc (.cells #[I 0,I 0,I v,I el.s.d.o,I el.s.d.s,I el.s.d.i, .slice none 0 0] 128)).cell? ⟨w.heap.size,3,none⟩=some (.int .i64 0):=HKW.out.cell 3;have z3:=HKW.out.frozen 3;have k4:(w1.alloc (.cells #[I 0,I 0,I v,I el.s.d.o,I el.s.d.s,I el.s.d.i, .slice none 0 0] 128)).cell? ⟨w.heap.size,4,none⟩=some (.int .i64 0):=HKW.out.cell 4;have z4:=HKW.out.frozen 4;have k5:(w1.alloc (.cells #[I 0,I 0,I v,I el.s.d.o,I el.s.d.s,I el.s.d.i, .slice none 0 0] 128)).cell? ⟨w.heap.size,5,none⟩=some (.int .i64 0):=HKW.out.cell 5;have z5:=HKW.out.frozen 5;have k6:(w1.alloc (.cells #[I 0,I 0,I v,I el.s.d.o,I el.s.d.s,I el.s.d.i, .slice none 0 0] 128)).cell? ⟨w.heap.size,6,none⟩=some (.slice none 0 0):=HKW.out.cell 6;have z6:=HKW.out.frozen 6;have e0:=zaa ((Below.refl w1.heap.size w1).alloc (ac _) (.cells #[I 0,I 0,I v,I 0,I 0,I 0, .slice none 0 0] 128)) e0';have e1:=zaa ((Below.refl w1.heap.size w1).alloc (ac _) (.cells #[I 0,I 0,I v,I 0,I 0,I 0, .slice none 0 0] 128)) e1';have e2:=zaa ((Below.refl w1.heap.size w1).alloc (ac _) (.cells #[I 0,I 0,I v,I 0,I 0,I 0, .slice none 0 0] 128)) e2';have hki:(k:Int)+1<=(stands ls).length:=by omega
  have hkj:(k:Int)<(stands ls).length:=by omega
  have hst:(stands ls).length<=1048576:=aQ (List.length_filter_le _ _) hl;have hk6:(k:Int)<=1048576:=by omega
  have hkw:=zm9 (k:Int) (by omega) hk6;generalize (stands ls).length=len at *
  go_wp2;have HF:Hid (Blk (putE (w1.alloc (.cells #[I 0,I 0,I v,I el.s.d.o,I el.s.d.s,I el.s.d.i, .slice none 0 0] 128)) w.heap.size (I 0) (I 0) (I v) (I el.s.d.o) (I el.s.d.s) (I el.s.d.i) (.slice none 0 0)) w.heap.size #[I 0,I 0,I v,I el.s.d.o,I el.s.d.s,I el.s.d.i, .slice none 0 0] 128):=zb0 HKW.out _ _ _ _ _ _ _;have HY:Hid (Below w.heap.size w (putE (w1.alloc (.cells #[I 0,I 0,I v,I el.s.d.o,I el.s.d.s,I el.s.d.i, .slice none 0 0] 128)) w.heap.size (I 0) (I 0) (I v) (I el.s.d.o) (I el.s.d.s) (I el.s.d.i) (.slice none 0 0))):=zbc HBW.out (ac _) _ _ _ _ _ _ _;unfold putE at HF HY;generalize ((((((((w1.alloc (.cells #[I 0,I 0,I v,I el.s.d.o,I el.s.d.s,I el.s.d.i, .slice none 0 0] 128)).setCell ⟨w.heap.size,0,none⟩ (I 0)).setCell ⟨w.heap.size,1,none⟩ (I 0)).setCell ⟨w.heap.size,2,none⟩ (I v)).setCell ⟨w.heap.size,3,none⟩ (I el.s.d.o)).setCell ⟨w.heap.size,4,none⟩ (I el.s.d.s)).setCell ⟨w.heap.size,5,none⟩ (I el.s.d.i)).setCell ⟨w.heap.size,6,none⟩ (.slice none 0 0))=wF at *
  have f0:wF.cell? ⟨w.heap.size,0,none⟩=some (I 0):=HF.out.cell 0;have f1:wF.cell? ⟨w.heap.size,1,none⟩=some (I 0):=HF.out.cell 1;have f2:wF.cell? ⟨w.heap.size,2,none⟩=some (I v):=HF.out.cell 2;have f3:wF.cell? ⟨w.heap.size,3,none⟩=some (I el.s.d.o):=HF.out.cell 3;have f4:wF.cell? ⟨w.heap.size,4,none⟩=some (I el.s.d.s):=HF.out.cell 4;have f5:wF.cell? ⟨w.heap.size,5,none⟩=some (I el.s.d.i):=HF.out.cell 5;have f6:wF.cell? ⟨w.heap.size,6,none⟩=some (.slice none 0 0):=HF.out.cell 6;refine bodyPost_ret (v:= .tuple #[efV 0 0 v el.s.d,I 0]) (by simp [results,Tryz.results312,go_sem,f0,f1,f2,f3,f4,f5,f6]) rfl ⟨by rw [HN.out],HY.out⟩
end Go.Proofs.YtfmcngncaffloabGreatDoor
namespace Go.Proofs.YtfmcngncaffloabGreatDoor
open Go.RowKit Go.Proofs.Tryz Wv
set_option maxRecDepth 100000
def valE(n:Int):Int:=if n<0∨255<n then 10 else 0
theorem zd6(n:Int)(w:World):
  Calls prog 249 #[I n] w fun e w'=>e= .returned (I (valE n))∧w'=w:=by
 go_enter func249,ntmps249;by_cases h:n<0
 ·have HV:Hid (valE n=10):=by show _=_;unfold valE;rw [aA (Or.inl h)]
  go_wp2;go_ret;exact⟨zbo HV.out.symm,rfl⟩
 ·by_cases h2:255<n
  ·have HV:Hid (valE n=10):=by show _=_;unfold valE;rw [aA (Or.inr h2)]
   go_wp2;go_ret;exact⟨zbo HV.out.symm,rfl⟩
  ·have HV:Hid (valE n=0):=by show _=_;unfold valE;rw [ap (by omega)]
   go_wp2;go_ret;exact⟨zbo HV.out.symm,rfl⟩
def listE(ls:List El)(op a b:Int):Int×Dt×Int:=if op=6 then(0,(zbs ls a).1,(zbs ls a).2) else if valE b ≠ 0 then(0,⟨0,0,0⟩,valE b) else putA ls a b
theorem zpy(p:Nat)(a:Option Addr)(c:Nat)(ls:List El)(op x y:Int)(w:World)(h:w.cell? ⟨p,0,none⟩=some (.slice a ls.length c))(hpl:a=none∨∃p q,a=some ⟨p,q,none⟩)(hat:At w a (flat El.cells ls))(hl:ls.length<=1048576):
  Calls prog 307 #[.pointer (some ⟨p,0,none⟩),I op,I x,I y] w fun e w'=>e= .returned (.tuple #[efV 0 0 (listE ls op x y).1 (listE ls op x y).2.1,I (listE ls op x y).2.2])∧Below w.heap.size w w':=by
 have HE:Hid (∀w':World,Below w.heap.size w w'->Calls prog 311 #[.pointer (some ⟨p,0,none⟩),I x] w' fun e w''=>e= .returned (.tuple #[efV 0 0 0 (zbs ls x).1,I (zbs ls x).2])∧Below w'.heap.size w' w''):=fun w' hb=>zqk p a c ls x w' (zaa hb h) hpl (hat.kept hb) hl
 have HU:Hid (∀w':World,Below w.heap.size w w'->Calls prog 312 #[.pointer (some ⟨p,0,none⟩),I x,I y] w' fun e w''=>e= .returned (.tuple #[efV 0 0 (putA ls x y).1 (putA ls x y).2.1,I (putA ls x y).2.2])∧Below w'.heap.size w' w''):=fun w' hb=>zpf p a c ls x y w' (zaa hb h) hpl (hat.kept hb) hl
 clear h hat hpl;have HB0:Hid (Below w.heap.size w (w.alloc (.cells zeroE 128))):=(Below.refl _ _).alloc (ac _) _;have HK0:Hid (Blk (w.alloc (.cells zeroE 128)) w.heap.size zeroE 128):=heap_alloc_new w _;go_enter func307,ntmps307;by_cases hop:op=6
 ·subst hop
  have HN:Hid (listE ls 6 x y=(0,(zbs ls x).1,(zbs ls x).2)):=rfl;go_wp2_with fail
  refine(HE.out _ HB0.out).mono ?_;rintro e w1 ⟨rfl,hb1⟩;have HBW:Hid (Below w.heap.size w w1):=HB0.out.trans (hb1.mono HB0.out.size);have HKW:Hid (Blk w1 w.heap.size zeroE 128):=HK0.out.kept hb1 HK0.out.lt;clear HE HU HB0 HK0 hb1;have k0:w1.cell? ⟨w.heap.size,0,none⟩=some (.int .i64 0):=HKW.out.cell 0;have z0:=HKW.out.frozen 0;have k1:w1.cell? ⟨w.heap.size,1,none⟩=some (.int .i64 0):=HKW.out.cell 1;have z1:=HKW.out.frozen 1;have k2:w1.cell? ⟨w.heap.size,2,none⟩=some (.int .i64 0):=HKW.out.cell 2;have z2:=HKW.out.frozen 2;have k3:w1.cell? ⟨w.heap.size,3,none⟩=some (.int .i64 0):=HKW.out.cell 3;have z3:=HKW.out.frozen 3;have k4:w1.cell? ⟨w.heap.size,4,none⟩=some (.int .i64 0):=HKW.out.cell 4;have z4:=HKW.out.frozen 4;have k5:w1.cell? ⟨w.heap.size,5,none⟩=some (.int .i64 0):=HKW.out.cell 5;have z5:=HKW.out.frozen 5;have k6:w1.cell? ⟨w.heap.size,6,none⟩=some (.slice none 0 0):=HKW.out.cell 6;have z6:=HKW.out.frozen 6;generalize hea:zbs ls x=ea at *
  go_wp2;have HF:Hid (Blk (putE w1 w.heap.size (I 0) (I 0) (I 0) (I ea.1.o) (I ea.1.s) (I ea.1.i) (.slice none 0 0)) w.heap.size #[I 0,I 0,I 0,I ea.1.o,I ea.1.s,I ea.1.i, .slice none 0 0] 128):=zb0 HKW.out _ _ _ _ _ _ _;have HY:Hid (Below w.heap.size w (putE w1 w.heap.size (I 0) (I 0) (I 0) (I ea.1.o) (I ea.1.s) (I ea.1.i) (.slice none 0 0))):=zbc HBW.out (ac _) _ _ _ _ _ _ _;unfold putE at HF HY;generalize (((((((w1.setCell ⟨w.heap.size,0,none⟩ (I 0)).setCell ⟨w.heap.size,1,none⟩ (I 0)).setCell ⟨w.heap.size,2,none⟩ (I 0)).setCell ⟨w.heap.size,3,none⟩ (I ea.1.o)).setCell ⟨w.heap.size,4,none⟩ (I ea.1.s)).setCell ⟨w.heap.size,5,none⟩ (I ea.1.i)).setCell ⟨w.heap.size,6,none⟩ (.slice none 0 0))=wF at *
  have f0:wF.cell? ⟨w.heap.size,0,none⟩=some (I 0):=HF.out.cell 0;have f1:wF.cell? ⟨w.heap.size,1,none⟩=some (I 0):=HF.out.cell 1;have f2:wF.cell? ⟨w.heap.size,2,none⟩=some (I 0):=HF.out.cell 2;have f3:wF.cell? ⟨w.heap.size,3,none⟩=some (I ea.1.o):=HF.out.cell 3;have f4:wF.cell? ⟨w.heap.size,4,none⟩=some (I ea.1.s):=HF.out.cell 4;have f5:wF.cell? ⟨w.heap.size,5,none⟩=some (I ea.1.i):=HF.out.cell 5;have f6:wF.cell? ⟨w.heap.size,6,none⟩=some (.slice none 0 0):=HF.out.cell 6;refine bodyPost_ret (v:= .tuple #[efV 0 0 0 ea.1,I ea.2]) (by simp [results,Tryz.results307,go_sem,f0,f1,f2,f3,f4,f5,f6]) rfl ⟨by rw [HN.out],HY.out⟩
 ·have hN0:listE ls op x y=if valE y ≠ 0 then(0,⟨0,0,0⟩,valE y) else putA ls x y:=by unfold listE;rw [ap hop]
  have HN:Hid (listE ls op x y=if valE y ≠ 0 then(0,⟨0,0,0⟩,valE y) else putA ls x y):=hN0;clear hN0;go_wp2_with fail
  refine(zd6 y _).mono ?_;rintro e w1 ⟨rfl,hw1⟩;rw [hw1];clear hw1 w1;generalize valE y=ve at *
  by_cases hv:ve=0
  ·have HN2:Hid (listE ls op x y=putA ls x y):=by show _=_;rw [HN.out,ap (by simp [hv])]
   subst hv;clear HN;go_wp2_with fail
   refine(HU.out _ HB0.out).mono ?_;rintro e w1 ⟨rfl,hb1⟩;have HBW:Hid (Below w.heap.size w w1):=HB0.out.trans (hb1.mono HB0.out.size);have HKW:Hid (Blk w1 w.heap.size zeroE 128):=HK0.out.kept hb1 HK0.out.lt;clear HE HU HB0 HK0 hb1;have k0:w1.cell? ⟨w.heap.size,0,none⟩=some (.int .i64 0):=HKW.out.cell 0;have z0:=HKW.out.frozen 0;have k1:w1.cell? ⟨w.heap.size,1,none⟩=some (.int .i64 0):=HKW.out.cell 1;have z1:=HKW.out.frozen 1;have k2:w1.cell? ⟨w.heap.size,2,none⟩=some (.int .i64 0):=HKW.out.cell 2;have z2:=HKW.out.frozen 2;have k3:w1.cell? ⟨w.heap.size,3,none⟩=some (.int .i64 0):=HKW.out.cell 3;have z3:=HKW.out.frozen 3;have k4:w1.cell? ⟨w.heap.size,4,none⟩=some (.int .i64 0):=HKW.out.cell 4;have z4:=HKW.out.frozen 4;have k5:w1.cell? ⟨w.heap.size,5,none⟩=some (.int .i64 0):=HKW.out.cell 5;have z5:=HKW.out.frozen 5;have k6:w1.cell? ⟨w.heap.size,6,none⟩=some (.slice none 0 0):=HKW.out.cell 6;have z6:=HKW.out.frozen 6;generalize hpa:putA ls x y=pa at *
   go_wp2;have HF:Hid (Blk (putE w1 w.heap.size (I 0) (I 0) (I pa.1) (I pa.2.1.o) (I pa.2.1.s) (I pa.2.1.i) (.slice none 0 0)) w.heap.size #[I 0,I 0,I pa.1,I pa.2.1.o,I pa.2.1.s,I pa.2.1.i, .slice none 0 0] 128):=zb0 HKW.out _ _ _ _ _ _ _;have HY:Hid (Below w.heap.size w (putE w1 w.heap.size (I 0) (I 0) (I pa.1) (I pa.2.1.o) (I pa.2.1.s) (I pa.2.1.i) (.slice none 0 0))):=zbc HBW.out (ac _) _ _ _ _ _ _ _;unfold putE at HF HY;generalize (((((((w1.setCell ⟨w.heap.size,0,none⟩ (I 0)).setCell ⟨w.heap.size,1,none⟩ (I 0)).setCell ⟨w.heap.size,2,none⟩ (I pa.1)).setCell ⟨w.heap.size,3,none⟩ (I pa.2.1.o)).setCell ⟨w.heap.size,4,none⟩ (I pa.2.1.s)).setCell ⟨w.heap.size,5,none⟩ (I pa.2.1.i)).setCell ⟨w.heap.size,6,none⟩ (.slice none 0 0))=wF at *
   have f0:wF.cell? ⟨w.heap.size,0,none⟩=some (I 0):=HF.out.cell 0;have f1:wF.cell? ⟨w.heap.size,1,none⟩=some (I 0):=HF.out.cell 1;have f2:wF.cell? ⟨w.heap.size,2,none⟩=some (I pa.1):=HF.out.cell 2;have f3:wF.cell? ⟨w.heap.size,3,none⟩=some (I pa.2.1.o):=HF.out.cell 3;have f4:wF.cell? ⟨w.heap.size,4,none⟩=some (I pa.2.1.s):=HF.out.cell 4;have f5:wF.cell? ⟨w.heap.size,5,none⟩=some (I pa.2.1.i):=HF.out.cell 5;have f6:wF.cell? ⟨w.heap.size,6,none⟩=some (.slice none 0 0):=HF.out.cell 6;refine bodyPost_ret (v:= .tuple #[efV 0 0 pa.1 pa.2.1,I pa.2.2]) (by simp [results,Tryz.results307,go_sem,f0,f1,f2,f3,f4,f5,f6]) rfl ⟨by rw [HN2.out],HY.out⟩
  ·have HN2:Hid (listE ls op x y=(0,⟨0,0,0⟩,ve)):=by show _=_;rw [HN.out,aA hv]
   clear HN HE HU;have HBW:=HB0;have HKW:=HK0;clear HB0 HK0;have k0:(w.alloc (.cells zeroE 128)).cell? ⟨w.heap.size,0,none⟩=some (.int .i64 0):=HKW.out.cell 0;have z0:=HKW.out.frozen 0;have k1:(w.alloc (.cells zeroE 128)).cell? ⟨w.heap.size,1,none⟩=some (.int .i64 0):=HKW.out.cell 1;have z1:=HKW.out.frozen 1;have k2:(w.alloc (.cells zeroE 128)).cell? ⟨w.heap.size,2,none⟩=some (.int .i64 0):=HKW.out.cell 2;have z2:=HKW.out.frozen 2;have k3:(w.alloc (.cells zeroE 128)).cell? ⟨w.heap.size,3,none⟩=some (.int .i64 0):=HKW.out.cell 3;have z3:=HKW.out.frozen 3;have k4:(w.alloc (.cells zeroE 128)).cell? ⟨w.heap.size,4,none⟩=some (.int .i64 0):=HKW.out.cell 4;have z4:=HKW.out.frozen 4;have k5:(w.alloc (.cells zeroE 128)).cell? ⟨w.heap.size,5,none⟩=some (.int .i64 0):=HKW.out.cell 5;have z5:=HKW.out.frozen 5;have k6:(w.alloc (.cells zeroE 128)).cell? ⟨w.heap.size,6,none⟩=some (.slice none 0 0):=HKW.out.cell 6;have z6:=HKW.out.frozen 6;go_wp2;refine bodyPost_ret (v:= .tuple #[efV 0 0 0 ⟨0,0,0⟩,I ve]) (by simp [results,Tryz.results307,go_sem]) rfl ⟨by rw [HN2.out],HBW.out⟩
end Go.Proofs.YtfmcngncaffloabGreatDoor
namespace Go.Proofs.YtfmcngncaffloabGreatDoor
open Go.RowKit Go.Proofs.Tryz Wv
set_option maxRecDepth 100000
theorem zkn:(prog.info? 3).map (fun i=>(i.zero,i.size,i.bytes))=some (some (.int .i64 0),1,8):=by kernel_rfl
theorem zsw(z:Int):∀u∈ [I z],u.oneCell'=true:=by
 intro u hu;simp only [ar,List.mem_nil_iff,or_false] at hu;rw [hu];rfl
theorem litAt(w:World)(cs:List Value)(t:TypeId)(g:Nat)(hg:g=w.heap.size):∀j u,cs[j]?=some u->(w.alloc (.cells cs.toArray t)).cell? ((⟨g,0,none⟩:Addr).add j)=some u:=by subst hg;exact zcf w cs t
theorem znv{w:World}{base base':Nat}{e:TypeId}{size n:Nat}{v:Value}{xs:List Value}(h:w.ownsRow base e size v n xs)(hb:base'<=base):w.ownsRow base' e size v n xs:=by
 refine⟨h.1, ?_⟩;rcases h.2 with h2 | ⟨g,cap,cur,rfl,hbg,r⟩
 ·exact .inl h2
 ·exact .inr ⟨g,cap,cur,rfl,aQ hb hbg,r⟩
theorem zsq{w1 wr w7:World}{v:Value}{k:Nat}{pre:List Value}{o o':Obj}(hb:Below w1.heap.size w1 wr)(ho:wr.ownsRow w1.heap.size 3 1 v k pre)(hg:((wr.alloc o).alloc o').grownBy w7 v.ownBlock):Below w1.heap.size w1 w7:=
 ((hb.alloc hb.size o).alloc (by have:=hb.size;simp;omega) o').grown hg (by have:=hb.size;simp;omega) (fun b e=>(ho.lt b e).1)
def ze9(w:World)(l:List Int)(e:Ending)(w':World):Prop:=(∃v,e= .returned v∧w'.ownsRow w.heap.size 3 1 v l.length (l.map I))∧Below w.heap.size w w'
theorem zpu(p:Nat)(a:Option Addr)(c:Nat)(ls:List El)(w:World)(h:w.cell? ⟨p,0,none⟩=some (.slice a ls.length c))(hpl:a=none∨∃p q,a=some ⟨p,q,none⟩)(hat:At w a (flat El.cells ls))(hl:ls.length<=1048576):
  Calls prog 309 #[.pointer (some ⟨p,0,none⟩)] w fun e w'=>ze9 w ((stands ls).map El.v) e w':=by
 have HS:Hid (Calls prog 315 #[.pointer (some ⟨p,0,none⟩)] w fun e w''=>zjl w ls e w''):=zex p a c ls w h hpl hat hl;have hst:(stands ls).length<=1048576:=aQ (List.length_filter_le _ _) hl;clear h hat hpl;go_enter func309,ntmps309;go_wp2_with fail
 refine HS.out.mono ?_;rintro e w1 ⟨⟨a1,c1,rfl,hA⟩,hb1⟩;have HB1:Hid (Below w.heap.size w w1):=hb1;have HA:Hid (At w1 a1 (flat El.cells (stands ls))):=hA;clear HS hb1 hA;generalize hstd:stands ls=st at *
 have HST:Hid (stands ls=st):=hstd;clear hstd;obtain⟨i,HI⟩:∃i,Hid (prog.info? 3=some i∧i.zero=some (.int .i64 0)∧i.size=1∧i.bytes=8):=by obtain⟨i,h⟩:=info_parts zkn;exact⟨i,h⟩
 have O1:Hid (w1.ownsRow w1.heap.size 3 1 (.slice none 0 0) 0 (([]:List Int).map I)):=⟨rfl, .inl ⟨rfl,rfl⟩⟩
 go_wp2_with fail
 go_loopw [3,9] (fun v x wr=>∃k:Nat,k<=st.length∧x=I k∧Hid (wr.ownsRow w1.heap.size 3 1 v k (((st.take k).map El.v).map I))∧Hid (Below w1.heap.size w1 wr)) (fun _ x _=>st.length - (intOf x).toNat)
 case atStart=>exact⟨0,az _,rfl,O1,Below.refl _ _⟩
 case round=>
  obtain⟨k,hk,rfl,HO,HB⟩:=hrel;clear O1;by_cases hlt:k<st.length
  ·obtain⟨p2,q2,rfl,hp2,hE⟩:=zn8 HA.out (by omega)
   obtain⟨e0',e1',e2',e3',e4',e5'⟩:=hE k hlt;have e0:=zaa HB.out e0';have e1:=zaa HB.out e1';have e2:=zaa HB.out e2';have e3:=zaa HB.out e3';have e4:=zaa HB.out e4';have e5:=zaa HB.out e5';clear hE e0' e1' e2' e3' e4' e5'
   have HTK:Hid (((st.take (k+1)).map El.v).map I=((st.take k).map El.v).map I++ [I st[k].v]):=by
    show _=_;rw [zff st k hlt,aO,aO];rfl
   generalize st[k]=el at *
   generalize ((st.take k).map El.v).map I=pre at *
   have hki:(k:Int)<st.length:=by omega
   have n1:k+1<=maxLen:=by unfold maxLen;omega
   have n2:(k+1)*8<=140737488355328:=by omega
   have hw1:w1.heap.size<=wr.heap.size:=HB.out.size;have OX:Hid (((wr.alloc (.cells #[I el.s.d.o,I el.s.d.s,I el.s.d.i,I el.s.t,I el.v, .bool el.x] 365)).alloc (.cells #[I el.v] 3)).ownsRow w1.heap.size 3 1 u3 k pre):=(HO.out.alloc _).alloc _;have n3:w1.heap.size<=((wr.alloc (.cells #[I el.s.d.o,I el.s.d.s,I el.s.d.i,I el.s.t,I el.v, .bool el.x] 365)).alloc (.cells #[I el.v] 3)).heap.size:=by simp;omega
   have s1:Hid (wr.heap.size+1=(wr.alloc (.cells #[I el.s.d.o,I el.s.d.s,I el.s.d.i,I el.s.t,I el.v, .bool el.x] 365)).heap.size):=by show _=_;simp
   go_wp2_with (first | (at_builtin;refine wpList_append_own_at _ rfl _ _ _ rfl w1.heap.size 3 i (.int .i64 0) 1 8 underlying32 HI.out.1 HI.out.2.1 HI.out.2.2.1 HI.out.2.2.2 rfl (by decide) u3 k pre rfl OX.out ⟨wr.heap.size+1,0,none⟩ 1 1 [I el.v] rfl rfl (litAt _ _ _ _ s1.out) (zsw el.v) n1 n2 n3 ?_;intro v7 w7 hown7 hgrow7 hnil7 hat7;have LO:Hid (w7.ownsRow w1.heap.size 3 1 v7 (k+1) (pre++ [I el.v])):=hown7;have LB:Hid (Below w1.heap.size w1 w7):=zsq HB.out HO.out hgrow7;clear hown7 hgrow7 hnil7 hat7))
   go_roundw
   case rel=>exact⟨k+1,hlt,by go_num,by rw [HTK.out];exact LO,LB⟩
   case measure=>simp [intOf];omega
  ·obtain rfl:k=st.length:=by omega
   have HE:Hid (wr.ownsRow w.heap.size 3 1 u3 (st.map El.v).length ((st.map El.v).map I)):=by
    have:=HO.out;rw [List.take_length] at this;rw [av];exact znv this HB1.out.size
   have HB2:Hid (Below w.heap.size w wr):=HB1.out.trans (HB.out.mono HB1.out.size);clear HO HB;go_wp2;go_ret;exact⟨⟨_,rfl,by rw [HST.out];exact HE.out⟩,HB2.out⟩
end Go.Proofs.YtfmcngncaffloabGreatDoor
namespace Go.Proofs.YtfmcngncaffloabGreatDoor
open Go.RowKit Go.Proofs.Tryz Wv
set_option maxRecDepth 100000
structure LsOwn(w:World)(p base:Nat)(v:Value)(ls:List El):Prop where
 blk:Blk w p #[v] 208
 row:w.ownsRow base 365 6 v ls.length (flat El.cells ls)
 le:base<=p
theorem LsOwn.form{w:World}{p base:Nat}{v:Value}{ls:List El}(h:LsOwn w p base v ls):∃a c,v= .slice a ls.length c∧w.cell? ⟨p,0,none⟩=some (.slice a ls.length c)∧(a=none∨∃g q,a=some ⟨g,q,none⟩)∧At w a (flat El.cells ls):=by
 rcases h.row.2 with⟨rfl,hz⟩ | ⟨g,cap,cur,rfl,hbg,hg,hnc,hcm,hcs,htake⟩
 ·obtain rfl:ls= []:=aw hz
  exact⟨none,0,rfl,h.blk.cell 0,Or.inl rfl,fun j u hj=>by simp [flat] at hj⟩
 ·exact⟨some ⟨g,0,none⟩,cap,rfl,h.blk.cell 0,Or.inr ⟨g,0,rfl⟩,(Rw.of_own rfl h.row).1.at⟩
theorem LsOwn.kept{w w':World}{p base:Nat}{v:Value}{ls:List El}(h:LsOwn w p base v ls)(hb:Below w.heap.size w w'):LsOwn w' p base v ls:=
 ⟨h.blk.kept hb h.blk.lt,h.row.kept (row:=none) ⟨hb.os,hb.tape,hb.output,hb.size,fun k hk _=>hb.block k hk⟩ (by cases v.ownBlock<;>simp),h.le⟩
theorem zcd{w:World}{base:Nat}{e:TypeId}{s n:Nat}{v:Value}{xs:List Value}(h:w.ownsRow base e s v n xs):∃a m c,v= .slice a m c:=by
 rcases h.2 with⟨rfl,_⟩ | ⟨g,cap,cur,rfl,_⟩
 ·exact⟨_,_,_,rfl⟩
 ·exact⟨_,_,_,rfl⟩
def CopyOk(w:World)(ls:List El)(e:Ending)(w':World):Prop:=(∃q v,e= .returned (.iface 205 (.pointer (some ⟨q,0,none⟩)))∧LsOwn w' q w.heap.size v ls)∧Below w.heap.size w w'
theorem zq0{w w1:World}{v:Value}{ls:List El}(hb:Below w.heap.size w w1)(ho:w1.ownsRow w.heap.size 365 6 v ls.length (flat El.cells ls)):LsOwn (w1.alloc (.cells #[v] 208)) w1.heap.size w.heap.size v ls∧Below w.heap.size w (w1.alloc (.cells #[v] 208)):=
 ⟨⟨heap_alloc_new w1 _,ho.alloc _,hb.size⟩,hb.alloc hb.size _⟩
theorem zwn(p base:Nat)(v:Value)(ls:List El)(w:World)(h:LsOwn w p base v ls)(hl:ls.length<=1048576):
  Calls prog 306 #[.pointer (some ⟨p,0,none⟩)] w fun e w'=>CopyOk w ls e w':=by
 obtain⟨a,c,rfl,hcell,hpl,hat⟩:=h.form;have HA:Hid (At w a (flat El.cells ls)):=hat;clear h hat;rcases hpl with rfl | ⟨g,q,rfl⟩
 ·have HO:Hid (w.ownsRow w.heap.size 365 6 (.slice none 0 0) ls.length (flat El.cells ls)):=by
   have hn:(flat El.cells ls).length=0:=by
    cases hq:flat El.cells ls with
    | nil=>rfl
    | cons x l=>
     obtain⟨_,_,e,_⟩:=HA.out 0 x (by rw [hq];rfl);cases e
   obtain rfl:ls= []:=by
    rw [zan El.cells 6 zak] at hn;exact aw (by omega)
   exact⟨rfl, .inl ⟨rfl,rfl⟩⟩
  go_enter func306,ntmps306;go_wp2_with fail
  refine(zm0 _ c w).mono ?_;rintro e w1 ⟨rfl,hw1⟩;rw [hw1];clear hw1 w1;have HE:=zq0 (Below.refl _ _) HO.out;have HE1:Hid (LsOwn (w.alloc (.cells #[.slice none 0 0] 208)) w.heap.size w.heap.size (.slice none 0 0) ls∧Below w.heap.size w (w.alloc (.cells #[.slice none 0 0] 208))):=HE;clear HE;go_wp2;go_ret;exact⟨⟨_,_,rfl,HE1.out.1⟩,HE1.out.2⟩
 ·go_enter func306,ntmps306
  go_wp2_with fail
  refine(zk6 g q c ls w HA.out hl).mono ?_;rintro e w1 ⟨v1,rfl,hown,hb1⟩;obtain⟨a1,m1,c1,rfl⟩:=zcd hown;have HE1:Hid (LsOwn (w1.alloc (.cells #[.slice a1 m1 c1] 208)) w1.heap.size w.heap.size (.slice a1 m1 c1) ls∧Below w.heap.size w (w1.alloc (.cells #[.slice a1 m1 c1] 208))):=zq0 hb1 hown;clear hown hb1;go_wp2;go_ret;exact⟨⟨_,_,rfl,HE1.out.1⟩,HE1.out.2⟩
end Go.Proofs.YtfmcngncaffloabGreatDoor
namespace Go.Proofs.YtfmcngncaffloabGreatDoor
open Go.RowKit Go.Proofs.Tryz Wv
set_option maxRecDepth 100000
theorem zc9{w:World}{base:Nat}{e:TypeId}{s n g cap:Nat}{xs:List Value}(h:w.ownsRow base e s (.slice (some ⟨g,0,none⟩) n cap) n xs)(j:Nat)(u:Value):
  (w.setCell ⟨g,j,none⟩ u).ownsRow base e s (.slice (some ⟨g,0,none⟩) n cap) n (xs.set j u):=by
 rcases h.2 with⟨e1,_⟩ | ⟨g',cap',cur,e1,hb,hc,h3,h4,h5,h6⟩
 ·cases e1
 ·cases e1
  have hB:Blk w g cur e:=hc;refine⟨by rw [aE];exact h.1, .inr ⟨g,cap,cur.setIfInBounds j u,rfl,hb,hB.set j u,h3,h4,by simpa using h5, ?_⟩⟩;rw [←h6,Array.toList_setIfInBounds,List.take_set]
def markE(d:Dt)(e:El):El:=if dotIs d e then {e with x:=true} else e
def zbu(d:Dt)(ls:List El)(k:Nat):List El:=(ls.take k).map (markE d)++ls.drop k
theorem zkf(d:Dt)(ls:List El)(k:Nat):(zbu d ls k).length=ls.length:=by
 unfold zbu;rw [ah,av,al,aP];omega
theorem zwi(d:Dt)(ls:List El)(k:Nat)(hk:k<ls.length):(zbu d ls k)[k]?=some ls[k]:=by
 unfold zbu;have hl:((ls.take k).map (markE d)).length=k:=by rw [av,al];omega
 rw [List.getElem?_append_right (by omega),hl,Nat.sub_self,List.getElem?_drop,Nat.add_zero,ag hk]
theorem zpt(d:Dt)(ls:List El)(k:Nat)(hk:k<ls.length):zbu d ls (k+1)=(zbu d ls k).set k (markE d ls[k]):=by
 have hl:((ls.take k).map (markE d)).length=k:=by rw [av,al];omega
 unfold zbu;rw [zff ls k hk,aO,List.set_append_right _ _ (by omega),hl,Nat.sub_self,List.drop_eq_getElem_cons hk,au];rfl
theorem zsi(d:Dt)(ls:List El):zbu d ls ls.length=ls.map (markE d):=by
 unfold zbu;rw [List.take_length,List.drop_length,List.append_nil]
theorem zyo(ls:List El)(k:Nat)(e:El)(h:ls[k]?=some e):ls.set k e=ls:=by
 apply List.ext_getElem?;intro j;by_cases hj:k=j
 ·subst hj
  rw [List.getElem?_set_self (af.1 h).1,h]
 ·rw [aK hj]
theorem zxb(cs:List El)(k:Nat)(e:El)(h:cs[k]?=some e):flat El.cells (cs.set k {e with x:=true})=(flat El.cells cs).set (k*6+5) (.bool true):=by
 have hk:=(af.1 h).1;have he:cs[k]=e:=(af.1 h).2;have hl:(flat El.cells cs).length=cs.length*6:=zan El.cells 6 zak cs;apply List.ext_getElem?;intro j;rcases Nat.lt_or_ge j (cs.length*6) with hj | hj
 ·rw [zfx El.cells 6 zak cs k _ j hj]
  by_cases hc:k*6<=j∧j<k*6+6
  ·rw [aA hc]
   by_cases h5:j=k*6+5
   ·subst h5
    rw [List.getElem?_set_self (by omega)];simp [El.cells]
   ·rw [aK (by omega)]
    have:=zao El.cells 6 zak cs k hk (j - k*6) (by omega);rw [show k*6+(j - k*6)=j by omega] at this;rw [this,he];have hr:j - k*6=0∨j - k*6=1∨j - k*6=2∨j - k*6=3∨j - k*6=4:=by omega
    rcases hr with r | r | r | r | r<;>rw [r]<;>rfl
  ·rw [ap hc,aK (by omega)]
 ·rw [aF (by rw [zan El.cells 6 zak,aE];omega),aF (by rw [aE];omega)]
end Go.Proofs.YtfmcngncaffloabGreatDoor
namespace Go.Proofs.YtfmcngncaffloabGreatDoor
open Go.RowKit Go.Proofs.Tryz Wv
set_option maxRecDepth 100000
theorem LsOwn.ne{w:World}{p base g n cap:Nat}{ls:List El}(h:LsOwn w p base (.slice (some ⟨g,0,none⟩) n cap) ls):p ≠ g:=by
 rintro rfl;rcases h.row.2 with⟨e1,_⟩ | ⟨g',cap',cur,e1,hb,hc,_⟩
 ·cases e1
 ·cases e1
  have:=h.blk.symm.trans hc;simp at this
theorem LsOwn.mark{w:World}{p base g n cap:Nat}{ls:List El}(h:LsOwn w p base (.slice (some ⟨g,0,none⟩) n cap) ls)(hn:n=ls.length)(k:Nat)(e:El)(hk:ls[k]?=some e):
  LsOwn (w.setCell ⟨g,k*6+5,none⟩ (.bool true)) p base (.slice (some ⟨g,0,none⟩) n cap) (ls.set k {e with x:=true}):=by
 subst hn;refine⟨h.blk.other h.ne _, ?_,h.le⟩;rw [aE,zxb ls k e hk];exact zc9 h.row _ _
theorem zmp{w w':World}{g j:Nat}(h:w.grownBy w' (some g))(u:Value):w.grownBy (w'.setCell ⟨g,j,none⟩ u) (some g):=
 ⟨h.os,h.tape,h.output,by simpa using h.size,fun k hk hne=>by rw [heap_setCell_other _ ⟨g,j,none⟩ k _ (fun e=>hne (by rw [e])),h.block k hk hne]⟩
def zol(w:World)(p base:Nat)(v:Value)(ls:List El)(e:Ending)(w':World):Prop:=e= .returned (.tuple #[])∧LsOwn w' p base v ls∧w.grownBy w' v.ownBlock
attribute [local go_sem ↓] zfk zfi
theorem zpx(p base g c:Nat)(d:Dt)(ls:List El)(w:World)(h:LsOwn w p base (.slice (some ⟨g,0,none⟩) ls.length c) ls)(hl:ls.length<=1048576):
  Calls prog 314 #[.pointer (some ⟨p,0,none⟩),dotV d] w fun e w'=>zol w p base (.slice (some ⟨g,0,none⟩) ls.length c) (ls.map (markE d)) e w':=by
 have HL:Hid (LsOwn (w.alloc (.cells #[I d.o,I d.s,I d.i] 125)) p base (.slice (some ⟨g,0,none⟩) ls.length c) ls):=h.kept ((Below.refl _ _).alloc (ac _) _);have HK:Hid (Blk (w.alloc (.cells #[I d.o,I d.s,I d.i] 125)) w.heap.size #[I d.o,I d.s,I d.i] 125):=heap_alloc_new w _;have HG:Hid (w.grownBy (w.alloc (.cells #[I d.o,I d.s,I d.i] 125)) (some g)):=World.grownBy_alloc w _ _;have hgw:g<w.heap.size:=(h.row.lt g rfl).2;have c0:(w.alloc (.cells #[I d.o,I d.s,I d.i] 125)).cell? ⟨p,0,none⟩=some (.slice (some ⟨g,0,none⟩) ls.length c):=HL.out.blk.cell 0;clear h;go_enter func314,ntmps314;go_wp2_with fail
 generalize w.alloc (.cells #[I d.o,I d.s,I d.i] 125)=wA at *
 clear c0;go_loopw [10] (fun x wr=>∃k:Nat,k<=ls.length∧x=I k∧Hid (LsOwn wr p base (.slice (some ⟨g,0,none⟩) ls.length c) (zbu d ls k))∧Hid (Blk wr w.heap.size #[I d.o,I d.s,I d.i] 125)∧Hid (w.grownBy wr (some g))) (fun x _=>ls.length - (intOf x).toNat)
 case atStart=>exact⟨0,az _,rfl,HL,HK,HG⟩
 case round=>
  obtain⟨k,hk,rfl,HL2,HK2,HG2⟩:=hrel;clear HL HK HG;by_cases hlt:k<ls.length
  ·have hat:=zwi d ls k hlt
   have hlen:=zkf d ls k;have HNX:Hid (zbu d ls (k+1)=(zbu d ls k).set k (markE d ls[k])):=zpt d ls k hlt;have HAT:Hid ((zbu d ls k)[k]?=some ls[k]):=hat;have hrow:wr.ownsRow base 365 6 (.slice (some ⟨g,0,none⟩) ls.length c) ls.length (flat El.cells (zbu d ls k)):=by have:=HL2.out.row;rw [hlen] at this;exact this
   have HRW:Hid (Rw wr g (zbu d ls k)):=(Rw.of_own hlen.symm hrow).1;obtain⟨e0,e1,e2,e3,e4,e5⟩:=HRW.out.els k (by rw [hlen];exact hlt);have hx:(zbu d ls k)[k]'(by rw [hlen];exact hlt)=ls[k]:=(af.1 hat).2;rw [hx] at e0 e1 e2 e3 e4 e5;simp only [aV] at e0 e1 e2 e3 e4 e5;have f5:=HRW.out.free (k*6+5);clear hx hat hlen hrow HRW;generalize ls[k]=el at *
   have c0:wr.cell? ⟨p,0,none⟩=some (.slice (some ⟨g,0,none⟩) ls.length c):=HL2.out.blk.cell 0;have d0:wr.cell? ⟨w.heap.size,0,none⟩=some (I d.o):=HK2.out.cell 0;have d1:wr.cell? ⟨w.heap.size,1,none⟩=some (I d.s):=HK2.out.cell 1;have d2:wr.cell? ⟨w.heap.size,2,none⟩=some (I d.i):=HK2.out.cell 2;have hki:(k:Int)<ls.length:=by omega
   go_wp2_with fail
   go_quiet (fail)
   have hb2:Below wr.heap.size wr (wr.drewN nq):=za7 (Below.refl _ _) nq;have HL3:Hid (LsOwn (wr.drewN nq) p base (.slice (some ⟨g,0,none⟩) ls.length c) (zbu d ls k)):=HL2.out.kept hb2;have HK3:Hid (Blk (wr.drewN nq) w.heap.size #[I d.o,I d.s,I d.i] 125):=HK2.out.kept hb2 HK2.out.lt;have HG3:Hid (w.grownBy (wr.drewN nq) (some g)):=⟨HG2.out.os,HG2.out.tape,HG2.out.output,HG2.out.size,HG2.out.block⟩
   have c1:(wr.drewN nq).cell? ⟨p,0,none⟩=some (.slice (some ⟨g,0,none⟩) ls.length c):=HL3.out.blk.cell 0;have e6:(wr.drewN nq).cell? ⟨g,k*6+5,none⟩=some (.bool el.x):=zaa hb2 e5;have f6:(wr.drewN nq).frozen? ⟨g,k*6+5,none⟩=false:=f5;clear HL2 HK2 HG2 c0 d0 d1 d2 e0 e1 e2 e3 e4 e5 f5 hb2;generalize wr.drewN nq=w2 at *
   have HDI:Hid (dotIs d el=eq3 el.s.d.o el.s.d.s el.s.d.i d.o d.s d.i):=rfl;generalize eq3 el.s.d.o el.s.d.s el.s.d.i d.o d.s d.i=bq at *
   cases bq
   ·have HM:Hid (zbu d ls (k+1)=zbu d ls k):=by
     show _=_;rw [HNX.out];unfold markE;rw [HDI.out];exact zyo _ _ _ HAT.out
    go_wp2_with fail
    go_roundw
    case rel=>exact⟨k+1,hlt,by go_num,by rw [HM.out];exact HL3,HK3,HG3⟩
    case measure=>simp [intOf];omega
   ·have LL:Hid (LsOwn (w2.setCell ⟨g,k*6+5,none⟩ (.bool true)) p base (.slice (some ⟨g,0,none⟩) ls.length c) (zbu d ls (k+1))):=by
     show LsOwn _ _ _ _ _;rw [HNX.out];unfold markE;rw [HDI.out];exact HL3.out.mark (zkf d ls k).symm k el HAT.out
    have LK:Hid (Blk (w2.setCell ⟨g,k*6+5,none⟩ (.bool true)) w.heap.size #[I d.o,I d.s,I d.i] 125):=HK3.out.other (by show w.heap.size ≠ g;omega) _;have LG:Hid (w.grownBy (w2.setCell ⟨g,k*6+5,none⟩ (.bool true)) (some g)):=zmp HG3.out _;go_wp2_with fail
    go_roundw
    case rel=>exact⟨k+1,hlt,by go_num,LL,LK,LG⟩
    case measure=>simp [intOf];omega
  ·obtain rfl:k=ls.length:=by omega
   have HE:Hid (LsOwn wr p base (.slice (some ⟨g,0,none⟩) ls.length c) (ls.map (markE d))):=by show LsOwn _ _ _ _ _;rw [←zsi];exact HL2.out
   clear HL2 HK2;go_wp2;go_end0;exact⟨rfl,HE.out,HG2.out⟩
end Go.Proofs.YtfmcngncaffloabGreatDoor
namespace Go.Proofs.YtfmcngncaffloabGreatDoor
open Go.RowKit Go.Proofs.Tryz Wv
set_option maxRecDepth 100000
def InsOk(w:World)(base:Nat)(v:Value)(ls:List El)(e:Ending)(w':World):Prop:=∃v',e= .returned v'∧w'.ownsRow base 365 6 v' ls.length (flat El.cells ls)∧w.grownBy w' v.ownBlock∧(v'.ownBlock=v.ownBlock∨∃b,v'.ownBlock=some b∧w.heap.size<=b)
theorem ztb(l:List El)(x:El):flat El.cells (l++ [x])=flat El.cells l++x.cells:=by
 induction l with
 | nil=>simp [flat]
 | cons y l ih=>simp only [aR,flat,ih,au]
theorem zss(base g c g2:Nat)(ls:List El)(e:El)(w:World)(hB:base<=w.heap.size)(h:w.ownsRow base 365 6 (.slice (some ⟨g,0,none⟩) ls.length c) ls.length (flat El.cells ls))(h2:Blk w g2 #[I e.s.d.o,I e.s.d.s,I e.s.d.i,I e.s.t,I e.v, .bool e.x] 365)(hl:ls.length<=1048576)(_hc:ls.length<=c):
  Calls prog 317 #[.slice (some ⟨g,0,none⟩) ls.length c,I ls.length, .slice (some ⟨g2,0,none⟩) 1 1] w fun r w'=>InsOk w base (.slice (some ⟨g,0,none⟩) ls.length c) (ls++ [e]) r w':=by
 have HO:Hid (w.ownsRow base 365 6 (.slice (some ⟨g,0,none⟩) ls.length c) ls.length (flat El.cells ls)):=h
 have HC:Hid (∀j u,(e.cells)[j]?=some u->w.cell? ((⟨g2,0,none⟩:Addr).add j)=some u):=fun j u hj=>by
  rw [Addr.add_lit,aV,h2.cell];have:(e.cells).toArray= #[I e.s.d.o,I e.s.d.s,I e.s.d.i,I e.s.t,I e.v, .bool e.x]:=rfl;rw [←this];simpa using hj
 have n1:ls.length+1<=maxLen:=by unfold maxLen;omega
 have n2:(ls.length+1)*48<=140737488355328:=by omega
 have n5:∀u∈e.cells,u.oneCell'=true:=by have:=zg1 [e];simpa [flat] using this
 obtain⟨i,HI⟩:∃i,Hid (prog.info? 365=some i∧i.zero=some (.agg #[.int .i64 0, .int .i64 0, .int .i64 0, .int .i64 0, .int .i64 0, .bool false])∧i.size=6∧i.bytes=48):=by obtain⟨i,h⟩:=info_parts zid;exact⟨i,h⟩
 clear h h2;go_enter func317,ntmps317;go_wp2_with (first | (at_builtin;refine wpList_append_own_at _ rfl _ _ _ rfl base 365 i (.agg #[.int .i64 0, .int .i64 0, .int .i64 0, .int .i64 0, .int .i64 0, .bool false]) 6 48 underlying206 HI.out.1 HI.out.2.1 HI.out.2.2.1 HI.out.2.2.2 rfl (by decide) (.slice (some ⟨g,0,none⟩) ls.length c) ls.length (flat El.cells ls) rfl HO.out ⟨g2,0,none⟩ 1 1 e.cells rfl rfl HC.out n5 n1 n2 hB ?_;intro v1 w1 hown1 hgrow1 hnil1 hat1;have HE:Hid (w1.ownsRow base 365 6 v1 (ls.length+1) (flat El.cells ls++e.cells)):=hown1;have HG:Hid (w.grownBy w1 (Value.slice (some ⟨g,0,none⟩) ls.length c).ownBlock):=hgrow1;have HT:Hid (v1.ownBlock=(Value.slice (some ⟨g,0,none⟩) ls.length c).ownBlock∨v1.ownBlock=some w.heap.size):=hat1;clear hown1 hgrow1 hnil1 hat1))
 all_goals
  (go_ret
   refine⟨_,rfl, ?_,HG.out,HT.out.imp id (fun e=>⟨_,e,ac _⟩)⟩;rw [ah,ztb]
   exact HE.out)
theorem zsr(base g2:Nat)(e:El)(w:World)(hB:base<=w.heap.size)(h2:Blk w g2 #[I e.s.d.o,I e.s.d.s,I e.s.d.i,I e.s.t,I e.v, .bool e.x] 365):
  Calls prog 317 #[.slice none 0 0,I 0, .slice (some ⟨g2,0,none⟩) 1 1] w fun r w'=>InsOk w base (.slice none 0 0) [e] r w':=by
 have HO:Hid (w.ownsRow base 365 6 (.slice none 0 0) 0 []):=⟨rfl, .inl ⟨rfl,rfl⟩⟩
 have HC:Hid (∀j u,(e.cells)[j]?=some u->w.cell? ((⟨g2,0,none⟩:Addr).add j)=some u):=fun j u hj=>by
  rw [Addr.add_lit,aV,h2.cell];have:(e.cells).toArray= #[I e.s.d.o,I e.s.d.s,I e.s.d.i,I e.s.t,I e.v, .bool e.x]:=rfl;rw [←this];simpa using hj
 have n1:0+1<=maxLen:=by unfold maxLen;omega
 have n2:(0+1)*48<=140737488355328:=by omega
 have n5:∀u∈e.cells,u.oneCell'=true:=by have:=zg1 [e];simpa [flat] using this
 obtain⟨i,HI⟩:∃i,Hid (prog.info? 365=some i∧i.zero=some (.agg #[.int .i64 0, .int .i64 0, .int .i64 0, .int .i64 0, .int .i64 0, .bool false])∧i.size=6∧i.bytes=48):=by obtain⟨i,h⟩:=info_parts zid;exact⟨i,h⟩
 clear h2;go_enter func317,ntmps317;go_wp2_with (first | (at_builtin;refine wpList_append_own_at _ rfl _ _ _ rfl base 365 i (.agg #[.int .i64 0, .int .i64 0, .int .i64 0, .int .i64 0, .int .i64 0, .bool false]) 6 48 underlying206 HI.out.1 HI.out.2.1 HI.out.2.2.1 HI.out.2.2.2 rfl (by decide) (.slice none 0 0) 0 [] rfl HO.out ⟨g2,0,none⟩ 1 1 e.cells rfl rfl HC.out n5 n1 n2 hB ?_;intro v1 w1 hown1 hgrow1 hnil1 hat1;have HE:Hid (w1.ownsRow base 365 6 v1 (0+1) ([]++e.cells)):=hown1;have HG:Hid (w.grownBy w1 (Value.slice none 0 0).ownBlock):=hgrow1;have HT:Hid (v1.ownBlock=(Value.slice none 0 0).ownBlock∨v1.ownBlock=some w.heap.size):=hat1;clear hown1 hgrow1 hnil1 hat1))
 all_goals
  (go_ret
   refine⟨_,rfl, ?_,HG.out,HT.out.imp id (fun e=>⟨_,e,ac _⟩)⟩;have:=HE.out
   simpa [flat] using this)
end Go.Proofs.YtfmcngncaffloabGreatDoor
namespace Go.Proofs.YtfmcngncaffloabGreatDoor
open Go.RowKit Go.Proofs.Tryz Wv
set_option maxRecDepth 100000
theorem wrapI(a:Int)(h1: -9223372036854775808<=a)(h2:a<=9223372036854775807):IntKind.i64.wrap a=a:=by
 simp only [IntKind.wrap,IntKind.bits,IntKind.signed];simp;split<;>omega
theorem zp8{w w':World}{row:Option Nat}(h:Below w.heap.size w w'):w.grownBy w' row:=⟨h.os,h.tape,h.output,h.size,fun k hk _=>h.block k hk⟩
theorem zsz{w w':World}{row:Option Nat}(h:w.grownBy w' row):w.grownBy w'.drew row:=⟨h.os,h.tape,h.output,h.size,h.block⟩
abbrev twoC (w:World) (s:Stp) (m:Em):World:=(w.alloc (.cells #[I s.d.o,I s.d.s,I s.d.i,I s.t] 175)).alloc (.cells #[I m.e.op,I m.e.ob,I m.e.va,I m.e.ref.o,I m.e.ref.s,I m.e.ref.i, .slice m.da m.e.dots.length m.dc] 128)
theorem za0(w:World)(s:Stp)(m:Em):Below w.heap.size w (twoC w s m):=((Below.refl _ _).alloc (ac _) _).alloc (by simp) _
theorem zxq(p:Nat)(n:Int)(s:Stp)(m:Em)(w:World)(h:Blk w p #[I n] 197)(h1: -9223372036854775808<=n+m.e.va)(h2:n+m.e.va<=9223372036854775807):
  Calls prog 242 #[.pointer (some ⟨p,0,none⟩),stV s,effV m] w fun e w'=>e= .returned (.tuple #[])∧Blk w' p #[I (n+m.e.va)] 197∧w.grownBy w' (some p):=by
 have HB:Hid (Blk w p #[I n] 197):=h;clear h;go_enter func242,ntmps242;have hw:=wrapI _ h1 h2;have KC:Hid (Blk (twoC w s m) p #[I n] 197):=HB.out.kept (za0 w s m) HB.out.lt;have c0:(twoC w s m).cell? ⟨p,0,none⟩=some (I n):=KC.out.cell 0;have z0:(twoC w s m).frozen? ⟨p,0,none⟩=false:=KC.out.frozen 0;unfold twoC at c0 z0;go_wp2_with fail
 go_region_law (fail)
 all_goals
  (go_end0
   exact⟨rfl,(KC.out.set 0 _).drew,zsz (zmp (zp8 (za0 w s m)) _)⟩)
theorem zqx(p:Nat)(n:Int)(w:World)(h:Blk w p #[I n] 197):
  Calls prog 243 #[.pointer (some ⟨p,0,none⟩)] w fun e w'=>ze9 w [n] e w':=by
 have HB:Hid (Blk w p #[I n] 197):=h;have c0:w.cell? ⟨p,0,none⟩=some (I n):=h.cell 0;clear h;go_enter func243,ntmps243;go_wp2;go_ret;exact⟨⟨_,rfl,⟨rfl, .inr ⟨w.heap.size,1, #[I n],rfl,ac _,heap_alloc_new w _,ac _,by unfold maxLen;omega,rfl,rfl⟩⟩⟩,(Below.refl _ _).alloc (ac _) _⟩
theorem zx0(p:Nat)(n:Int)(w:World)(h:Blk w p #[I n] 197):
  Calls prog 240 #[.pointer (some ⟨p,0,none⟩)] w fun e w'=>(∃q,e= .returned (.iface 195 (.pointer (some ⟨q,0,none⟩)))∧w.heap.size<=q∧Blk w' q #[I n] 197)∧Below w.heap.size w w':=by
 have c0:w.cell? ⟨p,0,none⟩=some (I n):=h.cell 0;have HK:Hid (Blk (w.alloc (.cells #[I n] 197)) w.heap.size #[I n] 197):=heap_alloc_new w _;clear h;go_enter func240,ntmps240;go_wp2;go_ret;exact⟨⟨_,rfl,ac _,HK.out⟩,(Below.refl _ _).alloc (ac _) _⟩
def addE(n:Int):Int×Int:=if n< -1000∨1000<n then(0,10) else(n,0)
theorem zq9(p:Nat)(op x y:Int)(w:World):
  Calls prog 241 #[.pointer (some ⟨p,0,none⟩),I op,I x,I y] w fun e w'=>e= .returned (.tuple #[efV 0 0 (addE x).1 ⟨0,0,0⟩,I (addE x).2])∧Below w.heap.size w w':=by
 have HB:Hid (Below w.heap.size w (w.alloc (.cells zeroE 128))):=(Below.refl _ _).alloc (ac _) _;go_enter func241,ntmps241;by_cases h1:x< -1000
 ·have HV:Hid (addE x=(0,10)):=by show _=_;unfold addE;rw [aA (Or.inl h1)]
  go_wp2;refine bodyPost_ret (v:= .tuple #[efV 0 0 0 ⟨0,0,0⟩,I 10]) (by simp [results,Tryz.results241,go_sem]) rfl ⟨by rw [HV.out],HB.out⟩
 ·by_cases h2:1000<x
  ·have HV:Hid (addE x=(0,10)):=by show _=_;unfold addE;rw [aA (Or.inr h2)]
   go_wp2;refine bodyPost_ret (v:= .tuple #[efV 0 0 0 ⟨0,0,0⟩,I 10]) (by simp [results,Tryz.results241,go_sem]) rfl ⟨by rw [HV.out],HB.out⟩
  ·have HV:Hid (addE x=(x,0)):=by show _=_;unfold addE;rw [ap (by omega)]
   go_wp2;refine bodyPost_ret (v:= .tuple #[efV 0 0 x ⟨0,0,0⟩,I 0]) (by simp [results,Tryz.results241,go_sem]) rfl ⟨by rw [HV.out],(Below.refl _ _).alloc (ac _) _⟩
end Go.Proofs.YtfmcngncaffloabGreatDoor
namespace Go.Proofs.YtfmcngncaffloabGreatDoor
open Go.RowKit Go.Proofs.Tryz Wv
set_option maxRecDepth 100000
theorem zd8{P:Program}(w:World)(t ty elem:TypeId)(s g o dLen dCap:Nat)(a:Addr)(sLen sCap:Nat)(cur:Array Value)(tt:TypeId)(cs:List Value)(hu:P.underlying t=some (.slice elem))(hs:(P.info? elem).map (·.size)=some s)(hg:Blk w g cur tt)(k:Nat)(hk:Nat.min sLen dLen=k)(hn:cs.length=k*s)(hsrc:∀j v,cs[j]?=some v->w.cell? (a.add j)=some v)(hfit:o+cs.length<=cur.size)(h1:∀v∈cs,v.oneCell'=true):
  (Builtin.copy_ #[t,t] ty #[.slice (some ⟨g,o,none⟩) dLen dCap, .slice (some a) sLen sCap]).run P w= .ok (goInt k) (w.setRow g (cur.toList.take o++cs++cur.toList.drop (o+cs.length)).toArray):=by
 have hl:(loadCells a (k*s)).run P w= .ok cs.toArray w:=by rw [←hn];exact run_loadCells_list w a cs hsrc
 have hst:=run_storeCells_at P g o tt cs 0 cur w hg (by simpa using hfit) h1;cases hq:P.info? elem with
 | none=>simp [hq] at hs
 | some i=>
  have hi:i.size=s:=by simpa [hq] using hs
  simp [Builtin.copy_,run_underlying hu,Builtin.lenOf,Builtin.firstCells,sizeOf,typeInfo,hq,hi,hk,hl,hst]
theorem zrw{α:Type}(A B R X:List α)(hR:X.length<=R.length)(c c1:List α)(hc:c=A++B++R)(h1:c1=c.take (A.length+X.length)++B++c.drop (A.length+X.length+B.length)):
  c1.take A.length++X++c1.drop (A.length+X.length)=A++X++B++R.drop X.length:=by
 have hl:(c.take (A.length+X.length)).length=A.length+X.length:=by rw [al,hc];simp;omega
 have e1:c1.take A.length=A:=by
  rw [h1,au,List.take_append_of_le_length (by omega),List.take_take,Nat.min_eq_left (by omega),hc,au,List.take_left]
 have e2:c1.drop (A.length+X.length)=B++R.drop X.length:=by
  rw [h1,au,List.drop_append_of_le_length (by omega),List.drop_of_length_le (by omega),List.nil_append,hc];congr 1
  rw [show A.length+X.length+B.length=(A++B).length+X.length by simp;omega,List.drop_append];simp
 rw [e1,e2,←au]
theorem zy6{α:Type}(A Z X B:List α)(c c1:List α)(hc:c=A++Z)(h1:c1=c.take A.length++X++c.drop (A.length+X.length)):
  c1.take (A.length+X.length)++B++c1.drop (A.length+X.length+B.length)=A++X++B++Z.drop (X.length+B.length):=by
 have e0:c1=A++X++Z.drop X.length:=by rw [h1,hc,List.take_left,List.drop_append];simp
 have e1:c1.take (A.length+X.length)=A++X:=by rw [e0,←ah,List.take_left]
 have e2:c1.drop (A.length+X.length+B.length)=Z.drop (X.length+B.length):=by
  rw [e0,←ah,List.drop_append,List.drop_drop];simp
 rw [e1,e2]
theorem zon{P:Program}(w:World){o:Oper}{a:Act}{K:Act->World->Prop}{Q:Exit->Act->World->Prop}(d s:Operand)(t:TypeId)
  (ho:o.op= .call {callee:= .builtin .copy,args:= #[d,s],argTypes:= #[t,t]}) (v u:Value) (hd:a.eval d=v) (hs:a.eval s=u) {v':Value} {w':World}
  (hr:(Builtin.copy_ #[t,t] o.type #[v,u]).run P w= .ok v' w') (h:K (a.put o.dst v') w'):o.wp P a w K Q:=by
 unfold Oper.wp execOp;simp only [ho,resolve,invoke,builtin,Sem.run_bind,Sem.run_pure,Result.andThen_ok,List.map_toArray,List.map_cons,List.map_nil,hd,hs,hr];exact h
theorem zfc{P:Program}(w:World){ops:Array Oper}{rest:List Oper}{o:Oper}{a:Act}{Q:Exit->Act->World->Prop}(hgd:o.guard=none)(d s:Operand)(t:TypeId)
  (ho:o.op= .call {callee:= .builtin .copy,args:= #[d,s],argTypes:= #[t,t]}) (v u:Value) (hd:a.eval d=v) (hs:a.eval s=u) {v':Value} {w':World}
  (hr:(Builtin.copy_ #[t,t] o.type #[v,u]).run P w= .ok v' w') (h:wpList P ops Q rest (a.put o.dst v') w'):wpList P ops Q (o::rest) a w:=
 wpList_plain hgd fun _ hK=>zon w d s t ho v u hd hs hr (hK _ _ h)
theorem zgl{P:Program}{ops:Array Oper}{o:Oper}{a:Act}{w:World}{K:Act->World->Prop}{Q:Exit->Act->World->Prop}{E:Prop}
  (hg:o.guard=none) (d x:Operand) (t:TypeId) (hop:o.op=Op.call {callee:=Callee.builtin Builtin.copy,args:= #[d,x],argTypes:= #[t,t]})
  (v u:Value) (hd:a.eval d=v) (hx:a.eval x=u) {v':Value} {w':World} (hr:(Builtin.copy_ #[t,t] o.type #[v,u]).run P w= .ok v' w') (hK:K (a.put o.dst v') w'):
  if Region.wanted o (yielded ops a.tmps)=true then Oper.wp P o a w K Q else E:=by
 have hw:Region.wanted o (yielded ops a.tmps)=true:=by simp [Region.wanted,hg]
 rw [aA hw];unfold Oper.wp;simp [execOp,hop,resolve,invoke,builtin,hd,hx,hr,Result.andThen];exact hK
theorem za2{α:Type}(f:α->List Value):∀(a b:List α),flat f (a++b)=flat f a++flat f b
 | [],b=>rfl
 | x::a,b=>by show f x++flat f (a++b)=f x++flat f a++flat f b;rw [za2 f a b,au]
def insL(ls:List El)(i:Nat)(e:El):List El:=ls.take i++e::ls.drop i
theorem zd2(ls:List El)(i:Nat)(e:El)(hi:i<=ls.length):(insL ls i e).length=ls.length+1:=by
 unfold insL;rw [ah,al,aJ,aP];omega
theorem zmi(ls:List El)(i:Nat)(e:El):flat El.cells (insL ls i e)=flat El.cells (ls.take i)++e.cells++flat El.cells (ls.drop i):=by
 unfold insL;rw [za2];show _++(e.cells++flat El.cells (ls.drop i))=_;rw [au]
