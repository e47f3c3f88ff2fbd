import Derived.Test.YtfmcngncaffloabGreatDoorJ04KrC
import Derived.Deep.RegionHeldLaw
set_option maxHeartbeats 12800000
namespace Go.Proofs.YtfmcngncaffloabGreatDoor
open Go.RowKit Go.Proofs.Tryz Wv
set_option maxRecDepth 100000
section
variable {σ : Type} {O : Ops σ} {P : List (Nat × Obj) -> σ -> World -> Prop} {s n : Nat} {S : σ} {Z : List (Nat × Obj)}
def doesX(O:Ops σ)(n:Nat)(S:σ)(o:Sp):σ×Int:=
 if Wv.pk o.k 16<=4 then((O.doo (O.bgn S (Wv.pk o.r n)).1 (Wv.pk o.r n) (1+Wv.pk o.a 6) (Wv.pk (o.a.tdiv 6) 2*4+kdI (1+Wv.pk o.a 6)) (Wv.pk o.b 6) (Wv.pk o.c 256)).1,0)
 else if Wv.pk o.k 16<=6 then((O.com S (Wv.pk o.r n)).1,if (O.com S (Wv.pk o.r n)).2.2=0 then(O.com S (Wv.pk o.r n)).2.1 else 0)
 else if Wv.pk o.k 16<=7 then((O.abt S (Wv.pk o.r n)).1,0)
 else if Wv.pk o.k 16<=9 then((O.dlv S (Wv.pk o.a 40)).1,0)
 else if Wv.pk o.k 16<=10 then(ze4 O S (Wv.pk o.a 40) o.b o.c,0)
 else if Wv.pk o.k 16<=12 then((O.ask S (Wv.pk o.r n) (Wv.pk o.a n)).1,0)
 else if Wv.pk o.k 16<=13 then((O.syn S (Wv.pk o.r n)).1,0)
 else if Wv.pk o.k 16<=14 then(if Wv.pk o.b 2=0 then((O.crs S (Wv.pk o.r n) (Wv.pk o.a 300 - 50)).1,0) else((O.fal S (Wv.pk o.r n) (Wv.pk o.a 300 - 50)).1,0))
 else((O.rst S (Wv.pk o.r n)).1,0)
theorem kz_cell{w:World}{g:Nat}{o:Sp}(h:w.heap[g]?=some (spO o)):w.cell? ⟨g,0,none⟩=some (I o.k)∧w.cell? ⟨g,1,none⟩=some (I o.r)∧w.cell? ⟨g,2,none⟩=some (I o.a)∧w.cell? ⟨g,3,none⟩=some (I o.b)∧w.cell? ⟨g,4,none⟩=some (I o.c):=by
 have hb:Blk w g #[I o.k,I o.r,I o.a,I o.b,I o.c] 30:=h;exact⟨hb.cell 0,hb.cell 1,hb.cell 2,hb.cell 3,hb.cell 4⟩
theorem rg_div{a:Int}(h:Rg a):Rg (a.tdiv 6):=by
 unfold Rg at *
 rcases Int.le_total 0 a with h0 | h0
 ·rw [Int.tdiv_eq_ediv_of_nonneg h0];omega
 ·have:a.tdiv 6= -((-a).tdiv 6):=by rw [Int.neg_tdiv,Int.neg_neg]
  rw [this,Int.tdiv_eq_ediv_of_nonneg (by omega)];omega
theorem kdI_lt(op:Int):0<=kdI op∧kdI op<=3:=by unfold kdI;(repeat' split)<;>omega
theorem does_any(hA:Apz O P s)(o:Sp)(ho:SpOk o)(hn:1<=n∧n<=4)(w:World)(hP:P Z S w):
  Calls prog 9 #[sV s,I n,spV o] w fun e w'=>e= .returned (I (doesX O n S o).2)∧P Z (doesX O n S o).1 w':=by
 obtain⟨k,r,a,b,c⟩:=o;have hP1:=hA.lit hP ⟨k,r,a,b,c⟩;have HO:Hid (∀S w',P ((w.heap.size,spO ⟨k,r,a,b,c⟩)::Z) S w'->P Z S w'):=fun S w' h=>hA.off h
 have HKZ:Hid (∀S w',P ((w.heap.size,spO ⟨k,r,a,b,c⟩)::Z) S w'->w'.cell? ⟨w.heap.size,0,none⟩=some (I k)∧w'.cell? ⟨w.heap.size,1,none⟩=some (I r)∧w'.cell? ⟨w.heap.size,2,none⟩=some (I a)∧w'.cell? ⟨w.heap.size,3,none⟩=some (I b)∧w'.cell? ⟨w.heap.size,4,none⟩=some (I c)):=fun S w' h=>kz_cell (o:=⟨k,r,a,b,c⟩) (hA.kz _ _ _ h (w.heap.size,spO ⟨k,r,a,b,c⟩) (List.mem_cons_self ..))
 have HLO:Hid (∀w',P ((w.heap.size,spO ⟨k,r,a,b,c⟩)::Z) S w'->Calls prog 29 #[sV s,I (Wv.pk a 40), .agg #[I k,I r,I a,I b,I c]] w' fun e w'=>e= .returned (.tuple #[])∧P ((w.heap.size,spO ⟨k,r,a,b,c⟩)::Z) (ze4 O S (Wv.pk a 40) b c) w'):=fun w' h=>zwl hA (Wv.pk a 40) ⟨k,r,a,b,c⟩ ho.b ho.c w' h
 have HA:Hid (Api O (P ((w.heap.size,spO ⟨k,r,a,b,c⟩)::Z)) s):=hA.api _;obtain⟨hk,hr,ha,hb,hc⟩:=ho;have HKR:Hid (Rg k):=hk;have HRR:Hid (Rg r):=hr;have HAR:Hid (Rg a):=ha;have HBR:Hid (Rg b):=hb;have HCR:Hid (Rg c):=hc;have HDR:Hid (Rg (a.tdiv 6)):=rg_div ha;have HNR:Hid (0<(n:Int)∧(n:Int)<=1048576):=⟨by omega,by omega⟩
 have HZ:Hid (doesX O n S ⟨k,r,a,b,c⟩=doesX O n S ⟨k,r,a,b,c⟩):=rfl;conv at HZ=>arg 1;rhs;unfold doesX
 simp only at HZ;show Calls prog 9 #[sV s,I n, .agg #[I k,I r,I a,I b,I c]] w _;generalize doesX O n S ⟨k,r,a,b,c⟩=Y at *
 obtain⟨Pz,hPz⟩:∃Pz,Pz=P ((w.heap.size,spO ⟨k,r,a,b,c⟩)::Z):=⟨_,rfl⟩
 rw [←hPz] at HA hP1 HO HKZ HLO;obtain⟨k0,k1⟩:=pk_lt k 16 (by decide);obtain⟨a0,a1⟩:=pk_lt a 6 (by decide);obtain⟨d0,d1⟩:=pk_lt (a.tdiv 6) 2 (by decide);obtain⟨x0,x1⟩:=pk_lt a 300 (by decide);obtain⟨y0,y1⟩:=pk_lt b 2 (by decide);generalize hpk:Wv.pk k 16=pk at *
 generalize hpr:Wv.pk r n=pr at *
 generalize hpi:Wv.pk a 40=pi at *
 generalize hpa:Wv.pk a 6=pa at *
 generalize hpd:Wv.pk (a.tdiv 6) 2=pd at *
 generalize hpb:Wv.pk b 6=pb at *
 generalize hpc:Wv.pk c 256=pc at *
 generalize hpn:Wv.pk a n=pn at *
 generalize hpx:Wv.pk a 300=px at *
 generalize hpy:Wv.pk b 2=py at *
 have HKD:Hid (∀w,Calls prog 26 #[I (1+pa)] w fun e w'=>e= .returned (I (kdI (1+pa)))∧w'=w):=fun w=>zz1 (1+pa) (by omega) (by omega) w
 obtain⟨z0,z1⟩:=kdI_lt (1+pa);generalize kdI (1+pa)=kd at *
 have hw1:IntKind.i64.wrap (1+pa)=1+pa:=by rw [IntKind.wrap_i64];omega
 have hw2:IntKind.i64.wrap (pd*4)=pd*4:=by rw [IntKind.wrap_i64];omega
 have hw3:IntKind.i64.wrap (pd*4+kd)=pd*4+kd:=by rw [IntKind.wrap_i64];omega
 have hw4:IntKind.i64.wrap (px - 50)=px - 50:=by rw [IntKind.wrap_i64];omega
 have hw5:IntKind.i64.wrap (a.tdiv 6)=a.tdiv 6:=by have h:=HDR.out;unfold Rg at h;rw [IntKind.wrap_i64];omega
 have hcs:(pk=0∨pk=1∨pk=2∨pk=3∨pk=4)∨(pk=5∨pk=6)∨pk=7∨(pk=8∨pk=9)∨pk=10∨(pk=11∨pk=12)∨pk=13∨pk=14∨pk=15:=by omega
 have hcy:py=0∨py=1:=by omega
 have HP1:Hid (Pz S (w.alloc (.cells #[I k,I r,I a,I b,I c] 30))):=hP1;have HC1:=HKZ.out S _ HP1.out;clear hP hP1 hPz hA hk hr ha hb hc k0 k1 a0 a1 d0 d1 x0 x1 y0 y1 z0 z1 hn;rcases hcs with hA | hB | rfl | hD | rfl | hE | rfl | rfl | rfl
 ·rcases hA with rfl | rfl | rfl | rfl | rfl
  all_goals
   replace HZ:Hid (Y=((O.doo (O.bgn S pr).1 pr (1+pa) (pd*4+kd) pb pc).1,0)):=HZ;go_enter func9,ntmps9
   go_wp2_with (first
    | (go_at_call 7;refine(zaq _ _ _ (by first | exact HKR.out | exact HRR.out | exact HAR.out | exact HDR.out | exact HBR.out | exact HCR.out) (by first | exact⟨by decide,by decide⟩ | exact HNR.out)).mono ?_;rintro e w10 ⟨rfl,hw10⟩;rw [hw10];clear hw10 w10;first | rw [hpk] | rw [hpr] | rw [hpi] | rw [hpa] | rw [hpd] | rw [hpb] | rw [hpc] | rw [hpn] | rw [hpx] | rw [hpy]))
   refine(HA.out.bgn S _ pr HP1.out).mono ?_;rintro e w2 ⟨rfl,h2⟩;have HP2:Hid (Pz (O.bgn S pr).1 w2.drew):=HA.out.bel _ _ _ h2 (Below.refl _ _).drew;obtain⟨e0,e1,e2,e3,e4⟩:=HKZ.out _ _ h2;have y0:w2.drew.cell? ⟨w.heap.size,2,none⟩=some (I a):=e2;have y1:w2.drew.cell? ⟨w.heap.size,3,none⟩=some (I b):=e3;have y2:w2.drew.cell? ⟨w.heap.size,4,none⟩=some (I c):=e4;have hY:Y.2=0:=by rw [HZ.out]
   clear h2 e0 e1 e2 e3 e4 HC1;go_wp2_with fail
   go_region_held_law (fun w'=>w'.cell? ⟨w.heap.size,2,none⟩=some (I a)∧w'.cell? ⟨w.heap.size,3,none⟩=some (I b)∧w'.cell? ⟨w.heap.size,4,none⟩=some (I c)) (exact⟨by with_reducible assumption,by with_reducible assumption,by with_reducible assumption⟩)
    (first
    | (go_at_call 7;refine(zaq _ _ _ (by first | exact HKR.out | exact HRR.out | exact HAR.out | exact HDR.out | exact HBR.out | exact HCR.out) (by first | exact⟨by decide,by decide⟩ | exact HNR.out)).mono ?_;rintro e w10 ⟨rfl,hw10⟩;rw [hw10];clear hw10 w10;first | rw [hpk] | rw [hpr] | rw [hpi] | rw [hpa] | rw [hpd] | rw [hpb] | rw [hpc] | rw [hpn] | rw [hpx] | rw [hpy])
    | (go_at_call 26;refine(HKD.out _).mono ?_;rintro e w10 ⟨rfl,hw10⟩;rw [hw10];clear hw10 w10)
    | (go_at_call 17;refine(HA.out.doo (O.bgn S pr).1 _ pr (1+pa) (pd*4+kd) pb pc HP2.out).mono ?_;rintro e w3 ⟨rfl,h3⟩;have HE:Hid (P Z Y.1 w3):=(by show P Z Y.1 w3;rw [HZ.out];exact HO.out _ _ h3);obtain⟨e0,e1,e2,e3,e4⟩:=HKZ.out _ _ h3;clear h3))
   go_wp2;go_ret;exact⟨by rw [hY];first | done | rfl,HE.out⟩
 ·rcases hB with rfl | rfl
  all_goals
   replace HZ:Hid (Y=((O.com S pr).1,if (O.com S pr).2.2=0 then(O.com S pr).2.1 else 0)):=HZ;have HCM:=HA.out.com S _ pr HP1.out;have HCM:Hid (Calls prog 18 #[sV s,I pr] (w.alloc (.cells #[I k,I r,I a,I b,I c] 30)) fun e w'=>e= .returned (.tuple #[I (O.com S pr).2.1,I (O.com S pr).2.2])∧Pz (O.com S pr).1 w'):=HCM;generalize O.com S pr=C at *
   obtain⟨C1,C2,C3⟩:=C;clear HC1;go_enter func9,ntmps9
   go_wp2_with (first
    | (go_at_call 7;refine(zaq _ _ _ (by first | exact HKR.out | exact HRR.out | exact HAR.out | exact HDR.out | exact HBR.out | exact HCR.out) (by first | exact⟨by decide,by decide⟩ | exact HNR.out)).mono ?_;rintro e w10 ⟨rfl,hw10⟩;rw [hw10];clear hw10 w10;first | rw [hpk] | rw [hpr] | rw [hpi] | rw [hpa] | rw [hpd] | rw [hpb] | rw [hpc] | rw [hpn] | rw [hpx] | rw [hpy]))
   refine HCM.out.mono ?_;rintro e w2 ⟨rfl,h2⟩;have HE:Hid (P Z Y.1 w2):=by show P Z Y.1 w2;rw [HZ.out];exact HO.out _ _ h2
   clear h2 HCM;by_cases h0:C3=0
   ·have hY:Y.2=C2:=by rw [HZ.out];exact aA h0
    have hb:(C3==0)=true:=by simp [h0]
    go_wp2;go_ret;exact⟨by rw [hY];first | done | rfl,HE.out⟩
   ·have hY:Y.2=0:=by rw [HZ.out];exact ap h0
    have hb:(C3==0)=false:=by simp [h0]
    go_wp2;go_ret;exact⟨by rw [hY];first | done | rfl,HE.out⟩
 ·replace HZ:Hid (Y=((O.abt S pr).1,0)):=HZ
  clear HC1;go_enter func9,ntmps9
  go_wp2_with (first
   | (go_at_call 7;refine(zaq _ _ _ (by first | exact HKR.out | exact HRR.out | exact HAR.out | exact HDR.out | exact HBR.out | exact HCR.out) (by first | exact⟨by decide,by decide⟩ | exact HNR.out)).mono ?_;rintro e w10 ⟨rfl,hw10⟩;rw [hw10];clear hw10 w10;first | rw [hpk] | rw [hpr] | rw [hpi] | rw [hpa] | rw [hpd] | rw [hpb] | rw [hpc] | rw [hpn] | rw [hpx] | rw [hpy]))
  refine(HA.out.abt S _ pr HP1.out).mono ?_;rintro e w2 ⟨rfl,h2⟩;have HE:Hid (P Z Y.1 w2):=by show P Z Y.1 w2;rw [HZ.out];exact HO.out _ _ h2
  have hY:Y.2=0:=by rw [HZ.out]
  clear h2;go_wp2;go_ret;exact⟨by rw [hY];first | done | rfl,HE.out⟩
 ·rcases hD with rfl | rfl
  all_goals
   replace HZ:Hid (Y=((O.dlv S pi).1,0)):=HZ;clear HC1;go_enter func9,ntmps9
   go_wp2_with (first
    | (go_at_call 7;refine(zaq _ _ _ (by first | exact HKR.out | exact HRR.out | exact HAR.out | exact HDR.out | exact HBR.out | exact HCR.out) (by first | exact⟨by decide,by decide⟩ | exact HNR.out)).mono ?_;rintro e w10 ⟨rfl,hw10⟩;rw [hw10];clear hw10 w10;first | rw [hpk] | rw [hpr] | rw [hpi] | rw [hpa] | rw [hpd] | rw [hpb] | rw [hpc] | rw [hpn] | rw [hpx] | rw [hpy]))
   refine(HA.out.dlv S _ pi HP1.out).mono ?_;rintro e w2 ⟨rfl,h2⟩;have HE:Hid (P Z Y.1 w2):=by show P Z Y.1 w2;rw [HZ.out];exact HO.out _ _ h2
   have hY:Y.2=0:=by rw [HZ.out]
   clear h2;go_wp2;go_ret;exact⟨by rw [hY];first | done | rfl,HE.out⟩
 ·replace HZ:Hid (Y=(ze4 O S pi b c,0)):=HZ
  clear HC1;go_enter func9,ntmps9
  go_wp2_with (first
   | (go_at_call 7;refine(zaq _ _ _ (by first | exact HKR.out | exact HRR.out | exact HAR.out | exact HDR.out | exact HBR.out | exact HCR.out) (by first | exact⟨by decide,by decide⟩ | exact HNR.out)).mono ?_;rintro e w10 ⟨rfl,hw10⟩;rw [hw10];clear hw10 w10;first | rw [hpk] | rw [hpr] | rw [hpi] | rw [hpa] | rw [hpd] | rw [hpb] | rw [hpc] | rw [hpn] | rw [hpx] | rw [hpy]))
  refine(HLO.out _ HP1.out).mono ?_;rintro e w2 ⟨rfl,h2⟩;have HE:Hid (P Z Y.1 w2):=by show P Z Y.1 w2;rw [HZ.out];exact HO.out _ _ h2
  have hY:Y.2=0:=by rw [HZ.out]
  clear h2;go_wp2;go_ret;exact⟨by rw [hY];first | done | rfl,HE.out⟩
 ·rcases hE with rfl | rfl
  all_goals
   replace HZ:Hid (Y=((O.ask S pr pn).1,0)):=HZ;clear HC1;go_enter func9,ntmps9
   go_wp2_with (first
    | (go_at_call 7;refine(zaq _ _ _ (by first | exact HKR.out | exact HRR.out | exact HAR.out | exact HDR.out | exact HBR.out | exact HCR.out) (by first | exact⟨by decide,by decide⟩ | exact HNR.out)).mono ?_;rintro e w10 ⟨rfl,hw10⟩;rw [hw10];clear hw10 w10;first | rw [hpk] | rw [hpr] | rw [hpi] | rw [hpa] | rw [hpd] | rw [hpb] | rw [hpc] | rw [hpn] | rw [hpx] | rw [hpy]))
   refine(HA.out.ask S _ pr pn HP1.out).mono ?_;rintro e w2 ⟨rfl,h2⟩;have HE:Hid (P Z Y.1 w2):=by show P Z Y.1 w2;rw [HZ.out];exact HO.out _ _ h2
   have hY:Y.2=0:=by rw [HZ.out]
   clear h2;go_wp2;go_ret;exact⟨by rw [hY];first | done | rfl,HE.out⟩
 ·replace HZ:Hid (Y=((O.syn S pr).1,0)):=HZ
  clear HC1;go_enter func9,ntmps9
  go_wp2_with (first
   | (go_at_call 7;refine(zaq _ _ _ (by first | exact HKR.out | exact HRR.out | exact HAR.out | exact HDR.out | exact HBR.out | exact HCR.out) (by first | exact⟨by decide,by decide⟩ | exact HNR.out)).mono ?_;rintro e w10 ⟨rfl,hw10⟩;rw [hw10];clear hw10 w10;first | rw [hpk] | rw [hpr] | rw [hpi] | rw [hpa] | rw [hpd] | rw [hpb] | rw [hpc] | rw [hpn] | rw [hpx] | rw [hpy]))
  refine(HA.out.syn S _ pr HP1.out).mono ?_;rintro e w2 ⟨rfl,h2⟩;have HE:Hid (P Z Y.1 w2):=by show P Z Y.1 w2;rw [HZ.out];exact HO.out _ _ h2
  have hY:Y.2=0:=by rw [HZ.out]
  clear h2;go_wp2;go_ret;exact⟨by rw [hY];first | done | rfl,HE.out⟩
 ·rcases hcy with rfl | rfl
  ·replace HZ:Hid (Y=((O.crs S pr (px - 50)).1,0)):=HZ
   clear HC1;go_enter func9,ntmps9
   go_wp2_with (first
    | (go_at_call 7;refine(zaq _ _ _ (by first | exact HKR.out | exact HRR.out | exact HAR.out | exact HDR.out | exact HBR.out | exact HCR.out) (by first | exact⟨by decide,by decide⟩ | exact HNR.out)).mono ?_;rintro e w10 ⟨rfl,hw10⟩;rw [hw10];clear hw10 w10;first | rw [hpk] | rw [hpr] | rw [hpi] | rw [hpa] | rw [hpd] | rw [hpb] | rw [hpc] | rw [hpn] | rw [hpx] | rw [hpy]))
   refine(HA.out.crs S _ pr (px - 50) HP1.out).mono ?_;rintro e w2 ⟨rfl,h2⟩;have HE:Hid (P Z Y.1 w2):=by show P Z Y.1 w2;rw [HZ.out];exact HO.out _ _ h2
   have hY:Y.2=0:=by rw [HZ.out]
   clear h2;go_wp2;go_ret;exact⟨by rw [hY];first | done | rfl,HE.out⟩
  ·replace HZ:Hid (Y=((O.fal S pr (px - 50)).1,0)):=HZ
   clear HC1;go_enter func9,ntmps9
   go_wp2_with (first
    | (go_at_call 7;refine(zaq _ _ _ (by first | exact HKR.out | exact HRR.out | exact HAR.out | exact HDR.out | exact HBR.out | exact HCR.out) (by first | exact⟨by decide,by decide⟩ | exact HNR.out)).mono ?_;rintro e w10 ⟨rfl,hw10⟩;rw [hw10];clear hw10 w10;first | rw [hpk] | rw [hpr] | rw [hpi] | rw [hpa] | rw [hpd] | rw [hpb] | rw [hpc] | rw [hpn] | rw [hpx] | rw [hpy]))
   refine(HA.out.fal S _ pr (px - 50) HP1.out).mono ?_;rintro e w2 ⟨rfl,h2⟩;have HE:Hid (P Z Y.1 w2):=by show P Z Y.1 w2;rw [HZ.out];exact HO.out _ _ h2
   have hY:Y.2=0:=by rw [HZ.out]
   clear h2;go_wp2;go_ret;exact⟨by rw [hY];first | done | rfl,HE.out⟩
 ·replace HZ:Hid (Y=((O.rst S pr).1,0)):=HZ
  clear HC1;go_enter func9,ntmps9
  go_wp2_with (first
   | (go_at_call 7;refine(zaq _ _ _ (by first | exact HKR.out | exact HRR.out | exact HAR.out | exact HDR.out | exact HBR.out | exact HCR.out) (by first | exact⟨by decide,by decide⟩ | exact HNR.out)).mono ?_;rintro e w10 ⟨rfl,hw10⟩;rw [hw10];clear hw10 w10;first | rw [hpk] | rw [hpr] | rw [hpi] | rw [hpa] | rw [hpd] | rw [hpb] | rw [hpc] | rw [hpn] | rw [hpx] | rw [hpy]))
  refine(HA.out.rst S _ pr HP1.out).mono ?_;rintro e w2 ⟨rfl,h2⟩;have HE:Hid (P Z Y.1 w2):=by show P Z Y.1 w2;rw [HZ.out];exact HO.out _ _ h2
  have hY:Y.2=0:=by rw [HZ.out]
  clear h2;go_wp2;go_ret;exact⟨by rw [hY];first | done | rfl,HE.out⟩
end
