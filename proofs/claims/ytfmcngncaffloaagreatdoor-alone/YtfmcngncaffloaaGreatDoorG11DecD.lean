import Derived.Test.YtfmcngncaffloaaGreatDoorG09CovC
import Derived.Test.YtfmcngncaffloaaGreatDoorG08SamI
import Derived.Test.YtfmcngncaffloaaGreatDoorG10LaidA
set_option maxHeartbeats 3200000
namespace Go.Proofs.YtfmcngncaffloaaGreatDoor
open Go.RowKit
set_option maxRecDepth 100000
theorem zzv{k:Nat}{x:Bool}(h:((k:Int)==0)=true):Hid (true=((k==0) || x)):=by
 have e:(k==0)=true:=by simpa using h
 show true=((k==0) || x)
 rw [e];rfl
theorem zjh(b:Wv.Bt)(ca:Option Addr)(cc:Nat)(ev:Value)(i:Int)(ds:List Wv.Dt)(p q dc:Nat)(w:World)(eb ef:Addr)(hI:zay)(g:Gl w eb ef)(hpw:Pw w)(hr:Right b)(h:At w ca (b.clock.map I))
  (hd:Hid (∀k (hk:k<ds.length),w.cell? ⟨p,q+k*3,none⟩=some (I ds[k].o)∧w.cell? ⟨p,q+k*3+1,none⟩=some (I ds[k].s)∧w.cell? ⟨p,q+k*3+2,none⟩=some (I ds[k].i))) (hp:p<w.heap.size) (hl:ds.length<=150):
  Calls Tryz.prog 204 #[batV b ca cc ev,I i, .slice (some ⟨p,q,none⟩) ds.length dc] w fun e w'=>zb9 (Wv.dotsOk b i ds) eb e∧Below w.heap.size w w':=by
 have hpw':Hid (Pw w):=hpw
 have g':Hid (Gl w eb ef):=g
 have hr':Hid (Right b):=hr
 have h':Hid (At w ca (b.clock.map I)):=h
 clear g hpw hr h
 go_enter Tryz.func204,Tryz.ntmps204
 go_wp2_with fail
 go_loopw [12] (fun x wr=>∃k:Nat,k<=ds.length∧x=I k∧Hid (Wv.dotsTo b i ds k=true)∧Hid (Below (w.heap.size+1) (w.alloc (.cells #[I b.o,I b.s,I b.t, .slice ca b.clock.length cc,ev] 124)) wr)) (fun x _=>ds.length - (intOf x).toNat)
 case atStart=>exact⟨0,Nat.zero_le _,rfl,rfl,Below.refl _ _⟩
 case round=>
  obtain⟨k,hk,rfl,hto,hb⟩:=hrel
  by_cases hlt:k<ds.length
  ·have hsz:w.heap.size<wr.heap.size:=by have:=hb.out.size;simp at this;omega
   have hbw:Hid (Below w.heap.size w wr):=((Below.refl _ _).alloc (Nat.le_refl _) _).trans (hb.out.mono (by omega))
   have hpr:p<wr.heap.size:=by omega
   obtain⟨c0,c1,c2⟩:=hd.out k hlt
   replace c0:=zaa hbw.out c0
   replace c1:=zaa hbw.out c1
   replace c2:=zaa hbw.out c2
   have b0:∀j,wr.cell? ⟨w.heap.size,j,none⟩= #[I b.o,I b.s,I b.t, .slice ca b.clock.length cc,ev][j]?:=fun j=>by
    rw [hb.out.cell (p:=⟨w.heap.size,j,none⟩) (by simp)];exact World.cell?_alloc_mark w _ _ _ j
   have b1:=b0 1
   have b2:=b0 2
   have b3:=b0 3
   have b4:=b0 4
   replace b0:=b0 0
   simp at b0 b1 b2 b3 b4
   have HD:Hid (Wv.dOk b i ds k=(((k==0) || Wv.lessD (ds.getD (k - 1) ⟨0,0,0⟩) ds[k]) && Wv.cov b ds[k] i)):=by show Wv.dOk b i ds k=_;simp [Wv.dOk,hlt]
   generalize ds[k]=d at c0 c1 c2 HD
   by_cases hk0:k=0
   ·replace hk0:((k:Int)==0)=true:=by simp [hk0]
    go_wp2_with fail
    go_quiet (fail)
    have HR:=zzv (x:=Wv.lessD (ds.getD (k - 1) ⟨0,0,0⟩) d) hk0
    have hb1:Hid (Below wr.heap.size wr ((wr.alloc (.cells #[I d.o,I d.s,I d.i] 146)).drewN nq)):=zal ((Below.refl _ _).alloc (Nat.le_refl _) _) _
    have x:∀j,((wr.alloc (.cells #[I d.o,I d.s,I d.i] 146)).drewN nq).cell? ⟨wr.heap.size,j,none⟩= #[I d.o,I d.s,I d.i][j]?:=fun j=>World.cell?_alloc_mark wr _ _ _ j
    have x0:=x 0
    have x1:=x 1
    have x2:=x 2
    simp only [List.getElem?_toArray,List.getElem?_cons_zero,List.getElem?_cons_succ] at x0 x1 x2
    clear x
    have hsz1:wr.heap.size<((wr.alloc (.cells #[I d.o,I d.s,I d.i] 146)).drewN nq).heap.size:=zag x0
    generalize ((wr.alloc (.cells #[I d.o,I d.s,I d.i] 146)).drewN nq)=w1 at *
    have y0:=zaa hb1.out b0
    have y1:=zaa hb1.out b1
    have y2:=zaa hb1.out b2
    have y3:=zaa hb1.out b3
    have y4:=zaa hb1.out b4
    clear b0 b1 b2 b3 b4 c0 c1 c2
    have HB:Hid (Below w.heap.size w w1):=hbw.out.trans (hb1.out.mono (by omega))
    cases hcv:Wv.cov b d i
    ·have HF:Hid (Wv.dotsOk b i ds=false):=Wv.dotsTo_no b i ds _ k hlt (by rw [HD.out,hcv];simp)
     go_wp2_with (first | (go_at_call 213;refine(zdp b ca cc ev d i _ hr'.out ?_).mono ?_;exact h'.out.kept HB.out;rintro e w2 ⟨rfl,hb2⟩;rw [hcv];have hb2':Hid (Below w.heap.size w w2):=HB.out.trans (hb2.mono (by omega));have hsz2:=hb2.size;clear hb2))
     have hE:=(g'.out.kept hb2'.out).errBatch
     have hz:=zag hE
     go_region_held3 (fun w'=>w'.cell? ⟨0,0,none⟩=some (Sent eb)) (first | go_keep | (refine zaa hb9 ?_;go_keep))
      (first | (go_at_call 182;refine(hI k _ (by omega) ?_).mono ?_;exact hpw'.out.kept (Below.drew hb2'.out);rintro e w' ⟨⟨st,hst,rfl⟩,hb9⟩;have hcat:¬9223372036854775807<4+st.size:=by omega))
     go_wp2
     go_ret
     exact⟨zbl HF.out,(Below.drew hb2'.out).trans (hb9.mono (by simp;omega))⟩
    ·have HT:Hid (Wv.dotsTo b i ds (k+1)=true):=by show(Wv.dotsTo b i ds k && Wv.dOk b i ds k)=true;rw [hto.out,HD.out,hcv,←HR.out];rfl
     go_wp2_with (first | (go_at_call 213;refine(zdp b ca cc ev d i _ hr'.out ?_).mono ?_;exact h'.out.kept HB.out;rintro e w2 ⟨rfl,hb2⟩;rw [hcv];have hb2':Hid (Below w1.heap.size w1 w2):=hb2;clear hb2))
     exact⟨⟨k+1,by omega,by go_num,HT,(hb.out.trans (hb1.out.mono (by omega))).trans (hb2'.out.mono (by omega))⟩,by simp [intOf];omega⟩
   ·obtain⟨e0,e1,e2⟩:=hd.out (k - 1) (by omega)
    have hk1:((k:Int)==0)=false:=by simp;omega
    replace e0:=zaa hbw.out e0
    replace e1:=zaa hbw.out e1
    replace e2:=zaa hbw.out e2
    have HG:Hid (ds.getD (k - 1) ⟨0,0,0⟩=ds[k - 1]):=by show ds.getD (k - 1) ⟨0,0,0⟩=ds[k - 1];simp [show k - 1<ds.length by omega]
    generalize ds[k - 1]=f at e0 e1 e2 HG
    have hm1:(k:Int) - 1<(ds.length:Int):=by omega
    have hm0:(0:Int)<=(k:Int) - 1:=by omega
    have hm2:(1:Int)<=(k:Int):=by omega
    have hm3:1<=k:=by omega
    have hm4:0<k:=by omega
    have hm5:(k:Int)<=(ds.length:Int):=by omega
    have hw1:IntKind.i64.wrap ((k:Int) - 1)=(k:Int) - 1:=by rw [IntKind.wrap_i64];omega
    clear hk0
    go_wp2_with fail
    go_region_held3 (fun w'=>w'.cell? ⟨p,q+(k - 1)*3,none⟩=some (I f.o)∧w'.cell? ⟨p,q+(k - 1)*3+1,none⟩=some (I f.s)∧w'.cell? ⟨p,q+(k - 1)*3+2,none⟩=some (I f.i)∧w'.cell? ⟨wr.heap.size,0,none⟩=some (I d.o)∧w'.cell? ⟨wr.heap.size,1,none⟩=some (I d.s)∧w'.cell? ⟨wr.heap.size,2,none⟩=some (I d.i)) (first | go_keep | (refine⟨zaa hb0 ?_,zaa hb0 ?_,zaa hb0 ?_,zaa hb0 ?_,zaa hb0 ?_,zaa hb0 ?_⟩<;>go_keep))
     (first | (go_at_call 214;refine(zh0 f d _).mono ?_;rintro e w1 ⟨⟨r,rfl,hr1⟩,hb0⟩))
    have x:∀j,w1.cell? ⟨wr.heap.size,j,none⟩= #[I d.o,I d.s,I d.i][j]?:=fun j=>(hb0.cell (p:=⟨wr.heap.size,j,none⟩) (by simp)).trans (World.cell?_alloc_mark wr _ _ _ j)
    have x0:=x 0
    have x1:=x 1
    have x2:=x 2
    simp only [List.getElem?_toArray,List.getElem?_cons_zero,List.getElem?_cons_succ] at x0 x1 x2
    clear x
    have hb1:Hid (Below wr.heap.size wr w1):=((Below.refl _ _).alloc (Nat.le_refl _) _).drew.trans (hb0.mono (by simp))
    have hsz1:wr.heap.size<w1.heap.size:=zag x0
    have y0:=zaa hb1.out b0
    have y1:=zaa hb1.out b1
    have y2:=zaa hb1.out b2
    have y3:=zaa hb1.out b3
    have y4:=zaa hb1.out b4
    have hkz:(k==0)=false:=by simpa using hk1
    have HK:Hid ((k==0)=false):=hkz
    clear b0 b1 b2 b3 b4 c0 c1 c2 e0 e1 e2 hb0 hm0 hm1 hm2 hm3 hm4 hm5 hw1 hr1 hkz
    cases hls:Wv.lessD f d
    ·have HF:Hid (Wv.dotsOk b i ds=false):=Wv.dotsTo_no b i ds _ k hlt (by rw [HD.out,HG.out,hls,HK.out];rfl)
     have HB:Hid (Below w.heap.size w w1):=hbw.out.trans (hb1.out.mono (by omega))
     have hE:=(g'.out.kept HB.out).errBatch
     have hz:=zag hE
     go_wp2_with fail
     go_region_held3 (fun w'=>w'.cell? ⟨0,0,none⟩=some (Sent eb)) (first | go_keep | (refine zaa hb9 ?_;go_keep))
      (first | (go_at_call 182;refine(hI k _ (by omega) ?_).mono ?_;exact hpw'.out.kept (Below.drew HB.out);rintro e w' ⟨⟨st,hst,rfl⟩,hb9⟩;have hcat:¬9223372036854775807<4+st.size:=by omega))
     go_wp2
     go_ret
     exact⟨zbl HF.out,(Below.drew HB.out).trans (hb9.mono (by simp;omega))⟩
    ·have HR:Hid (true=((k==0) || Wv.lessD (ds.getD (k - 1) ⟨0,0,0⟩) d)):=by show true=_;rw [HG.out,hls,HK.out];rfl
     have HB:Hid (Below w.heap.size w w1):=hbw.out.trans (hb1.out.mono (by omega))
     cases hcv:Wv.cov b d i
     ·have HF:Hid (Wv.dotsOk b i ds=false):=Wv.dotsTo_no b i ds _ k hlt (by rw [HD.out,hcv];simp)
      go_wp2_with (first | (go_at_call 213;refine(zdp b ca cc ev d i _ hr'.out ?_).mono ?_;exact h'.out.kept HB.out;rintro e w2 ⟨rfl,hb2⟩;rw [hcv];have hb2':Hid (Below w.heap.size w w2):=HB.out.trans (hb2.mono (by omega));have hsz2:=hb2.size;clear hb2))
      have hE:=(g'.out.kept hb2'.out).errBatch
      have hz:=zag hE
      go_region_held3 (fun w'=>w'.cell? ⟨0,0,none⟩=some (Sent eb)) (first | go_keep | (refine zaa hb9 ?_;go_keep))
       (first | (go_at_call 182;refine(hI k _ (by omega) ?_).mono ?_;exact hpw'.out.kept (Below.drew hb2'.out);rintro e w' ⟨⟨st,hst,rfl⟩,hb9⟩;have hcat:¬9223372036854775807<4+st.size:=by omega))
      go_wp2
      go_ret
      exact⟨zbl HF.out,(Below.drew hb2'.out).trans (hb9.mono (by simp;omega))⟩
     ·have HT:Hid (Wv.dotsTo b i ds (k+1)=true):=by show(Wv.dotsTo b i ds k && Wv.dOk b i ds k)=true;rw [hto.out,HD.out,hcv,←HR.out];rfl
      go_wp2_with (first | (go_at_call 213;refine(zdp b ca cc ev d i _ hr'.out ?_).mono ?_;exact h'.out.kept HB.out;rintro e w2 ⟨rfl,hb2⟩;rw [hcv];have hb2':Hid (Below w1.heap.size w1 w2):=hb2;clear hb2))
      exact⟨⟨k+1,by omega,by go_num,HT,(hb.out.trans (hb1.out.mono (by omega))).trans (hb2'.out.mono (by omega))⟩,by simp [intOf];omega⟩
  ·obtain rfl:k=ds.length:=by omega
   have HB:Hid (Below w.heap.size w wr):=((Below.refl _ _).alloc (Nat.le_refl _) _).trans (hb.out.mono (by omega))
   go_wp2
   go_ret
   exact⟨zdo hto.out,HB.out⟩
theorem zji(h0 h1 h2 h3 h4:Value)(i:Int)(da:Option Addr)(dc:Nat)(w:World):
  Calls Tryz.prog 204 #[.agg #[h0,h1,h2,h3,h4],I i, .slice da 0 dc] w fun e w'=>e= .returned .nilIface∧Below w.heap.size w w':=by
 go_enter Tryz.func204,Tryz.ntmps204
 go_wp2_with fail
 go_rounds 1
 go_ret
 exact⟨rfl,(Below.refl _ _).alloc (Nat.le_refl _) _⟩
theorem zj6(b:Wv.Bt)(ca:Option Addr)(cc:Nat)(ev:Value)(i:Int)(ds:List Wv.Dt)(da:Option Addr)(dc:Nat)(w:World)(eb ef:Addr)(hI:zay)(g:Gl w eb ef)(hpw:Pw w)(hr:Right b)(h:At w ca (b.clock.map I))
  (hd:At w da (flat zab ds)) (hl:ds.length<=150):
  Calls Tryz.prog 204 #[batV b ca cc ev,I i, .slice da ds.length dc] w fun e w'=>zb9 (Wv.dotsOk b i ds) eb e∧Below w.heap.size w w':=by
 rcases Nat.eq_zero_or_pos ds.length with hz | hz
 ·obtain rfl:=List.eq_nil_of_length_eq_zero hz
  refine(zji _ _ _ _ _ i da dc w).mono ?_
  rintro e w' ⟨rfl,hb⟩
  exact⟨zdo rfl,hb⟩
 ·obtain⟨p,q,rfl,hp,hc⟩:=zdd hd hz
  exact zjh b ca cc ev i ds p q dc w eb ef hI g hpw hr h hc hp hl
theorem zgm{ok:Bool}{eb:Addr}{v:Value}(h:ok=false)(hv:zfw eb v):zb9 ok eb (.returned v):=by
 rw [h];exact⟨_,rfl,hv⟩
def hNum(b:Wv.Bt):Prop:=(2<=b.clock.length∧b.clock.length<=4)∧(0<=b.o∧b.o<=(b.clock.length:Int) - 1)∧(1<=b.s∧b.s<=30)∧(1<=b.t∧b.t<=200)∧(1<=b.effs.length∧b.effs.length<=5)
theorem zxl(b:Wv.Bt)(h:¬hNum b):Wv.headOk b=false:=by
 rw [←Bool.not_eq_true]
 intro hh
 simp only [Wv.headOk,Bool.and_eq_true,decide_eq_true_eq] at hh
 obtain⟨⟨⟨⟨⟨h1,h2⟩,h3⟩,h4⟩,h5⟩,_⟩:=hh
 exact h ⟨h1,h2,h3,h4,h5⟩
theorem zr0(b:Wv.Bt)(h:hNum b):Wv.headOk b=Wv.clkOk b:=by
 obtain⟨h1,h2,h3,h4,h5⟩:=h
 simp [Wv.headOk,h1,h2,h3,h4,h5]
theorem zl7(b:Wv.Bt)(ca ea:Option Addr)(cc ec:Nat)(w:World)(eb ef:Addr)(g:Gl w eb ef)(hn:b.clock.length<=9223372036854775807)(hn':b.effs.length<=9223372036854775807)(hh:¬hNum b):
  Calls Tryz.prog 180 #[bV b ca ea cc ec] w fun e w'=>zb9 (Wv.headOk b) eb e∧Below w.heap.size w w':=by
 have hE:=g.errBatch
 have hz:=zag hE
 have HN:Hid (¬hNum b):=hh
 clear g hh
 go_enter Tryz.func180,Tryz.ntmps180
 go_wp2_with (first | (go_at_call 115;refine(zai _ _ _ _).mono ?_;rintro e w' ⟨rfl,h⟩;subst h))
 all_goals first | (go_ret;exact⟨zbl (zxl b HN.out),(Below.refl _ _).alloc (Nat.le_refl _) _⟩) | (exfalso;apply HN.out;unfold hNum;simp_all;omega)
theorem zj4(b:Wv.Bt)(ca ea:Option Addr)(cc ec:Nat)(w:World)(eb ef:Addr)(hI:zay)(g:Gl w eb ef)(hp:Pw w)(h:At w ca (b.clock.map I))(hh:hNum b):
  Calls Tryz.prog 180 #[bV b ca ea cc ec] w fun e w'=>zb9 (Wv.headOk b) eb e∧Below w.heap.size w w':=by
 rw [zr0 b hh]
 obtain⟨⟨a1,a2⟩,⟨a3,a4⟩,⟨a5,a6⟩,⟨a7,a8⟩,⟨a9,a10⟩⟩:=hh
 have k1:(2:Int)<=(b.clock.length:Int):=by omega
 have k2:(b.clock.length:Int)<=4:=by omega
 have k9:(1:Int)<=(b.effs.length:Int):=by omega
 have k10:(b.effs.length:Int)<=5:=by omega
 have hpw':Hid (Pw w):=hp
 have g':Hid (Gl w eb ef):=g
 have h':Hid (At w ca (b.clock.map I)):=h
 have HB:Hid (Below w.heap.size w (w.alloc (.cells #[I b.o,I b.s,I b.t, .slice ca b.clock.length cc, .slice ea b.effs.length ec] 124))):=(Below.refl _ _).alloc (Nat.le_refl _) _
 clear g hp h
 go_enter Tryz.func180,Tryz.ntmps180
 go_wp2_with (first | (go_at_call 115;refine(zai _ _ _ _).mono ?_;rintro e w' ⟨rfl,h⟩;subst h))
 refine(zjj b ca cc (.slice ea b.effs.length ec) _ eb ef hI (g'.out.kept HB.out) (hpw'.out.kept HB.out) (h'.out.kept HB.out) a2 a1 a5 a6).mono ?_
 rintro e w2 ⟨he,hb⟩
 have hb2:Hid (Below w.heap.size w w2):=HB.out.trans (hb.mono (by simp))
 unfold zb9 at he
 cases hc:Wv.clkOk b
 ·rw [hc] at he
  obtain⟨v,rfl,hv⟩:=he
  have HV:Hid (zfw eb v):=hv
  go_wp2
  go_ret
  exact⟨zgm hc HV.out,hb2.out⟩
 ·rw [hc] at he
  obtain rfl:=he
  go_wp2
  go_ret
  exact⟨zdo hc,hb2.out⟩
theorem zj5(b:Wv.Bt)(ca ea:Option Addr)(cc ec:Nat)(w:World)(eb ef:Addr)(hI:zay)(g:Gl w eb ef)(hp:Pw w)(h:At w ca (b.clock.map I))(hn:b.clock.length<=9223372036854775807)(hn':b.effs.length<=9223372036854775807):
  Calls Tryz.prog 180 #[bV b ca ea cc ec] w fun e w'=>zb9 (Wv.headOk b) eb e∧Below w.heap.size w w':=by
 by_cases hh:hNum b
 ·exact zj4 b ca ea cc ec w eb ef hI g hp h hh
 ·exact zl7 b ca ea cc ec w eb ef g hn hn' hh
theorem zav(w:World)(cs:Array Value)(t:TypeId)(o:Obj)(j:Nat):((w.alloc (.cells cs t)).alloc o).cell? ⟨w.heap.size,j,none⟩=cs[j]?:=by
 rw [((Below.refl (w.heap.size+1) (w.alloc (.cells cs t))).alloc (by simp) o).cell (p:=⟨w.heap.size,j,none⟩) (by simp)]
 exact World.cell?_alloc_mark w cs t (0,0) j
theorem zb5(n:Int)(h1:0<=n)(h2:n<=7)(w:World):
  Calls Tryz.prog 64 #[I n] w fun e w'=>e= .returned (I (n % 4))∧w'=w:=by
 go_enter Tryz.func64,Tryz.ntmps64
 go_wp2
 go_ret
 exact⟨rfl,rfl⟩
theorem zjg(b:Wv.Bt)(ca:Option Addr)(cc:Nat)(ev:Value)(i:Int)(m:Em)(w:World)(eb ef:Addr)(g:Gl w eb ef)(ho:¬(1<=m.e.op∧m.e.op<=6)):
  Calls Tryz.prog 181 #[batV b ca cc ev,I i,effV m] w fun e w'=>zb9 (Wv.effOk b i m.e) eb e∧Below w.heap.size w w':=by
 have HF:Hid (Wv.effOk b i m.e=false):=by
  have:Wv.isOp m.e.op=false:=by simp [Wv.isOp];omega
  show Wv.effOk b i m.e=false
  simp [Wv.effOk,this]
 have HO:Hid (¬(1<=m.e.op∧m.e.op<=6)):=ho
 have g':Hid (Gl w eb ef):=g
 have HB:Hid (Below w.heap.size w ((w.alloc (.cells #[I b.o,I b.s,I b.t, .slice ca b.clock.length cc,ev] 124)).alloc (.cells #[I m.e.op,I m.e.ob,I m.e.va,I m.e.ref.o,I m.e.ref.s,I m.e.ref.i, .slice m.da m.e.dots.length m.dc] 149))):=((Below.refl _ _).alloc (Nat.le_refl _) _).alloc (by simp) _
 clear g ho
 go_enter Tryz.func181,Tryz.ntmps181
 go_wp2_with (first | (go_at_call 67;refine(zki m.e.op _ eb ef (g'.out.kept HB.out) HO.out).mono ?_;rintro e w1 ⟨⟨st,rfl⟩,hb1⟩))
 go_ret
 exact⟨zbl HF.out,HB.out.trans (Below.alloc (hb1.mono (by simp;omega)) (by have:=hb1.size;simp at this;omega) _)⟩
theorem zh1(b:Wv.Bt)(ca:Option Addr)(cc:Nat)(ev:Value)(i:Int)(m:Em)(w:World)(eb ef:Addr)(hI:zay)(g:Gl w eb ef)(hp:Pw w)(hr:Right b)(h:At w ca (b.clock.map I))(hd:At w m.da (flat zab m.e.dots))(ho:1<=m.e.op∧m.e.op<=6)(hn:m.e.dots.length<=9223372036854775807):
  Calls Tryz.prog 181 #[batV b ca cc ev,I i,effV m] w fun e w'=>zb9 (Wv.effOk b i m.e) eb e∧Below w.heap.size w w':=by
 have HE:Hid (Wv.effOk b i m.e=((decide (0<=m.e.ob) && decide (m.e.ob<=7) && (m.e.ob % 4==Wv.rKind m.e.op)) && (decide (Wv.rLeast m.e.op<=m.e.va) && decide (m.e.va<=Wv.rGreat m.e.op)) &&
  Wv.refOk b i m.e.ref (Wv.rRef m.e.op) && (decide (Wv.rLeastD m.e.op<=m.e.dots.length) && decide ((m.e.dots.length:Int)<=Wv.rMostD m.e.op)) && Wv.dotsOk b i m.e.dots)):=by
  have:Wv.isOp m.e.op=true:=by simp [Wv.isOp,ho]
  show Wv.effOk b i m.e=_
  simp only [Wv.effOk,this,Bool.true_and]
 have HO:Hid (1<=m.e.op∧m.e.op<=6):=ho
 have hpw':Hid (Pw w):=hp
 have g':Hid (Gl w eb ef):=g
 have hr':Hid (Right b):=hr
 have h':Hid (At w ca (b.clock.map I)):=h
 have hd':Hid (At w m.da (flat zab m.e.dots)):=hd
 have hE:=g.errBatch
 have HB:Hid (Below w.heap.size w ((w.alloc (.cells #[I b.o,I b.s,I b.t, .slice ca b.clock.length cc,ev] 124)).alloc (.cells #[I m.e.op,I m.e.ob,I m.e.va,I m.e.ref.o,I m.e.ref.s,I m.e.ref.i, .slice m.da m.e.dots.length m.dc] 149))):=((Below.refl _ _).alloc (Nat.le_refl _) _).alloc (by simp) _
 clear g ho hp hr h hd
 go_enter Tryz.func181,Tryz.ntmps181
 go_wp2_with fail
 refine(zbq m.e.op _ eb ef (g'.out.kept HB.out) HO.out).mono ?_
 rintro e w1 ⟨rfl,hb0⟩
 have hb1:Hid (Below ((w.alloc (.cells #[I b.o,I b.s,I b.t, .slice ca b.clock.length cc,ev] 124)).alloc (.cells #[I m.e.op,I m.e.ob,I m.e.va,I m.e.ref.o,I m.e.ref.s,I m.e.ref.i, .slice m.da m.e.dots.length m.dc] 149)).heap.size ((w.alloc (.cells #[I b.o,I b.s,I b.t, .slice ca b.clock.length cc,ev] 124)).alloc (.cells #[I m.e.op,I m.e.ob,I m.e.va,I m.e.ref.o,I m.e.ref.s,I m.e.ref.i, .slice m.da m.e.dots.length m.dc] 149)) w1):=hb0
 have hsz:w.heap.size+1<w1.heap.size:=by have:=hb0.size;simp at this;omega
 have hsz0:w.heap.size<w1.heap.size:=by omega
 have HB1:Hid (Below w.heap.size w w1):=HB.out.trans (hb0.mono (by simp;omega))
 clear hb0
 have y0:w1.cell? ⟨w.heap.size,0,none⟩=some (I b.o):=(hb1.out.cell (p:=⟨w.heap.size,0,none⟩) (by simp;omega)).trans (zav w _ _ _ _)
 have y1:w1.cell? ⟨w.heap.size,1,none⟩=some (I b.s):=(hb1.out.cell (p:=⟨w.heap.size,1,none⟩) (by simp;omega)).trans (zav w _ _ _ _)
 have y2:w1.cell? ⟨w.heap.size,2,none⟩=some (I b.t):=(hb1.out.cell (p:=⟨w.heap.size,2,none⟩) (by simp;omega)).trans (zav w _ _ _ _)
 have y3:w1.cell? ⟨w.heap.size,3,none⟩=some (.slice ca b.clock.length cc):=(hb1.out.cell (p:=⟨w.heap.size,3,none⟩) (by simp;omega)).trans (zav w _ _ _ _)
 have y4:w1.cell? ⟨w.heap.size,4,none⟩=some (ev):=(hb1.out.cell (p:=⟨w.heap.size,4,none⟩) (by simp;omega)).trans (zav w _ _ _ _)
 have x0:w1.cell? ⟨w.heap.size+1,0,none⟩=some (I m.e.op):=(hb1.out.cell (p:=⟨w.heap.size+1,0,none⟩) (by simp)).trans (Joins.cell_alloc_mark_at _ _ _ _ _ _ (by simp))
 have x1:w1.cell? ⟨w.heap.size+1,1,none⟩=some (I m.e.ob):=(hb1.out.cell (p:=⟨w.heap.size+1,1,none⟩) (by simp)).trans (Joins.cell_alloc_mark_at _ _ _ _ _ _ (by simp))
 have x2:w1.cell? ⟨w.heap.size+1,2,none⟩=some (I m.e.va):=(hb1.out.cell (p:=⟨w.heap.size+1,2,none⟩) (by simp)).trans (Joins.cell_alloc_mark_at _ _ _ _ _ _ (by simp))
 have x3:w1.cell? ⟨w.heap.size+1,3,none⟩=some (I m.e.ref.o):=(hb1.out.cell (p:=⟨w.heap.size+1,3,none⟩) (by simp)).trans (Joins.cell_alloc_mark_at _ _ _ _ _ _ (by simp))
 have x4:w1.cell? ⟨w.heap.size+1,4,none⟩=some (I m.e.ref.s):=(hb1.out.cell (p:=⟨w.heap.size+1,4,none⟩) (by simp)).trans (Joins.cell_alloc_mark_at _ _ _ _ _ _ (by simp))
 have x5:w1.cell? ⟨w.heap.size+1,5,none⟩=some (I m.e.ref.i):=(hb1.out.cell (p:=⟨w.heap.size+1,5,none⟩) (by simp)).trans (Joins.cell_alloc_mark_at _ _ _ _ _ _ (by simp))
 have x6:w1.cell? ⟨w.heap.size+1,6,none⟩=some (.slice m.da m.e.dots.length m.dc):=(hb1.out.cell (p:=⟨w.heap.size+1,6,none⟩) (by simp)).trans (Joins.cell_alloc_mark_at _ _ _ _ _ _ (by simp))
 replace hE:=zaa HB1.out hE
 have hz:=zag hE
 unfold ruleV
 have HB2:Hid (Below w.heap.size w (w1.alloc (.cells #[I (Wv.rKind m.e.op),I (Wv.rLeast m.e.op),I (Wv.rGreat m.e.op),I (Wv.rRef m.e.op),I (Wv.rLeastD m.e.op),I (Wv.rMostD m.e.op)] 140))):=HB1.out.alloc (by omega) _
 cases hA:(decide (0<=m.e.ob) && decide (m.e.ob<=7))
 ·have HF:Hid (Wv.effOk b i m.e=false):=by show Wv.effOk b i m.e=false;rw [HE.out,hA];rfl
  go_wp2_with fail
  go_quiet ((go_at_call 115;exact Calls.quiet_of_same (zai _ _ _ _)))
  go_wp2
  go_ret
  exact⟨zbl HF.out,zal HB2.out _⟩
 ·have hA':0<=m.e.ob∧m.e.ob<=7:=by simpa using hA
  obtain⟨hA1,hA2⟩:=hA'
  cases hB:(m.e.ob % 4==Wv.rKind m.e.op)
  ·have HF:Hid (Wv.effOk b i m.e=false):=by show Wv.effOk b i m.e=false;rw [HE.out,hA,hB];rfl
   have hB':(m.e.ob % 4 !=Wv.rKind m.e.op)=true:=by simpa using hB
   go_wp2_with fail
   go_quiet (first | (go_at_call 115;exact Calls.quiet_of_same (zai _ _ _ _)) | (go_at_call 64;exact Calls.quiet_of_same (zb5 _ hA1 hA2 _)))
   go_wp2
   go_ret
   exact⟨zbl HF.out,zal HB2.out _⟩
  ·have hB':(m.e.ob % 4 !=Wv.rKind m.e.op)=false:=by simpa using hB
   go_wp2_with fail
   go_quiet (first | (go_at_call 115;exact Calls.quiet_of_same (zai _ _ _ _)) | (go_at_call 64;exact Calls.quiet_of_same (zb5 _ hA1 hA2 _)))
   have HN:Hid (Below w.heap.size w ((w1.alloc (.cells #[I (Wv.rKind m.e.op),I (Wv.rLeast m.e.op),I (Wv.rGreat m.e.op),I (Wv.rRef m.e.op),I (Wv.rLeastD m.e.op),I (Wv.rMostD m.e.op)] 140)).drewN nq)):=zal HB2.out nq
   have HW1:Hid (Below w1.heap.size w1 ((w1.alloc (.cells #[I (Wv.rKind m.e.op),I (Wv.rLeast m.e.op),I (Wv.rGreat m.e.op),I (Wv.rRef m.e.op),I (Wv.rLeastD m.e.op),I (Wv.rMostD m.e.op)] 140)).drewN nq)):=zal ((Below.refl _ _).alloc (Nat.le_refl _) _) nq
   have r0:((w1.alloc (.cells #[I (Wv.rKind m.e.op),I (Wv.rLeast m.e.op),I (Wv.rGreat m.e.op),I (Wv.rRef m.e.op),I (Wv.rLeastD m.e.op),I (Wv.rMostD m.e.op)] 140)).drewN nq).cell? ⟨w1.heap.size,0,none⟩=some (I (Wv.rKind m.e.op)):=World.cell?_alloc_mark w1 _ _ _ 0
   have r1:((w1.alloc (.cells #[I (Wv.rKind m.e.op),I (Wv.rLeast m.e.op),I (Wv.rGreat m.e.op),I (Wv.rRef m.e.op),I (Wv.rLeastD m.e.op),I (Wv.rMostD m.e.op)] 140)).drewN nq).cell? ⟨w1.heap.size,1,none⟩=some (I (Wv.rLeast m.e.op)):=World.cell?_alloc_mark w1 _ _ _ 1
   have r2:((w1.alloc (.cells #[I (Wv.rKind m.e.op),I (Wv.rLeast m.e.op),I (Wv.rGreat m.e.op),I (Wv.rRef m.e.op),I (Wv.rLeastD m.e.op),I (Wv.rMostD m.e.op)] 140)).drewN nq).cell? ⟨w1.heap.size,2,none⟩=some (I (Wv.rGreat m.e.op)):=World.cell?_alloc_mark w1 _ _ _ 2
   have r3:((w1.alloc (.cells #[I (Wv.rKind m.e.op),I (Wv.rLeast m.e.op),I (Wv.rGreat m.e.op),I (Wv.rRef m.e.op),I (Wv.rLeastD m.e.op),I (Wv.rMostD m.e.op)] 140)).drewN nq).cell? ⟨w1.heap.size,3,none⟩=some (I (Wv.rRef m.e.op)):=World.cell?_alloc_mark w1 _ _ _ 3
   have r4:((w1.alloc (.cells #[I (Wv.rKind m.e.op),I (Wv.rLeast m.e.op),I (Wv.rGreat m.e.op),I (Wv.rRef m.e.op),I (Wv.rLeastD m.e.op),I (Wv.rMostD m.e.op)] 140)).drewN nq).cell? ⟨w1.heap.size,4,none⟩=some (I (Wv.rLeastD m.e.op)):=World.cell?_alloc_mark w1 _ _ _ 4
   have r5:((w1.alloc (.cells #[I (Wv.rKind m.e.op),I (Wv.rLeast m.e.op),I (Wv.rGreat m.e.op),I (Wv.rRef m.e.op),I (Wv.rLeastD m.e.op),I (Wv.rMostD m.e.op)] 140)).drewN nq).cell? ⟨w1.heap.size,5,none⟩=some (I (Wv.rMostD m.e.op)):=World.cell?_alloc_mark w1 _ _ _ 5
   replace x0:=zaa HW1.out x0
   replace x1:=zaa HW1.out x1
   replace x2:=zaa HW1.out x2
   replace x3:=zaa HW1.out x3
   replace x4:=zaa HW1.out x4
   replace x5:=zaa HW1.out x5
   replace x6:=zaa HW1.out x6
   replace y0:=zaa HW1.out y0
   replace y1:=zaa HW1.out y1
   replace y2:=zaa HW1.out y2
   replace y3:=zaa HW1.out y3
   replace y4:=zaa HW1.out y4
   replace hE:=zaa HW1.out hE
   have hs1:w1.heap.size<((w1.alloc (.cells #[I (Wv.rKind m.e.op),I (Wv.rLeast m.e.op),I (Wv.rGreat m.e.op),I (Wv.rRef m.e.op),I (Wv.rLeastD m.e.op),I (Wv.rMostD m.e.op)] 140)).drewN nq).heap.size:=by simp
   clear HB2 HW1
   generalize (w1.alloc (.cells #[I (Wv.rKind m.e.op),I (Wv.rLeast m.e.op),I (Wv.rGreat m.e.op),I (Wv.rRef m.e.op),I (Wv.rLeastD m.e.op),I (Wv.rMostD m.e.op)] 140)).drewN nq=w2 at *
   replace hz:=zag hE
   cases hC:(decide (Wv.rLeast m.e.op<=m.e.va) && decide (m.e.va<=Wv.rGreat m.e.op))
   ·have HF:Hid (Wv.effOk b i m.e=false):=by show Wv.effOk b i m.e=false;rw [HE.out,hA,hB,hC];rfl
    go_wp2_with (first | (go_at_call 115;refine(zai _ _ _ _).mono ?_;rintro e w' ⟨rfl,h⟩;subst h))
    go_ret
    exact⟨zbl HF.out,HN.out⟩
   ·cases hD:Wv.refOk b i m.e.ref (Wv.rRef m.e.op)
    ·have HF:Hid (Wv.effOk b i m.e=false):=by show Wv.effOk b i m.e=false;rw [HE.out,hA,hB,hC,hD];rfl
     go_wp2_with (first | (go_at_call 115;refine(zai _ _ _ _).mono ?_;rintro e w' ⟨rfl,h⟩;subst h))
     refine(zfa b ca cc ev m.e.ref i (Wv.rRef m.e.op) _ hr'.out (h'.out.kept HN.out)).mono ?_
     rw [hD]
     rintro e w3 ⟨rfl,hb2⟩
     have HB3:Hid (Below w.heap.size w w3):=HN.out.trans (hb2.mono (by omega))
     replace r4:=zaa hb2 r4
     replace r5:=zaa hb2 r5
     replace x6:=zaa hb2 x6
     replace y0:=zaa hb2 y0
     replace y1:=zaa hb2 y1
     replace y2:=zaa hb2 y2
     replace y3:=zaa hb2 y3
     replace y4:=zaa hb2 y4
     replace hE:=zaa hb2 hE
     replace hz:=zag hE
     have hs3:=hb2.size
     clear hb2 x0 x1 x2 x3 x4 x5 r0 r1 r2 r3
     go_wp2_with (first | (go_at_call 115;refine(zai _ _ _ _).mono ?_;rintro e w' ⟨rfl,h⟩;subst h))
     go_ret
     exact⟨zbl HF.out,HB3.out⟩
    ·cases hL:(decide (Wv.rLeastD m.e.op<=m.e.dots.length) && decide ((m.e.dots.length:Int)<=Wv.rMostD m.e.op))
     ·have HF:Hid (Wv.effOk b i m.e=false):=by show Wv.effOk b i m.e=false;rw [HE.out,hA,hB,hC,hD,hL];rfl
      go_wp2_with (first | (go_at_call 115;refine(zai _ _ _ _).mono ?_;rintro e w' ⟨rfl,h⟩;subst h))
      refine(zfa b ca cc ev m.e.ref i (Wv.rRef m.e.op) _ hr'.out (h'.out.kept HN.out)).mono ?_
      rw [hD]
      rintro e w3 ⟨rfl,hb2⟩
      have HB3:Hid (Below w.heap.size w w3):=HN.out.trans (hb2.mono (by omega))
      replace r4:=zaa hb2 r4
      replace r5:=zaa hb2 r5
      replace x6:=zaa hb2 x6
      replace y0:=zaa hb2 y0
      replace y1:=zaa hb2 y1
      replace y2:=zaa hb2 y2
      replace y3:=zaa hb2 y3
      replace y4:=zaa hb2 y4
      replace hE:=zaa hb2 hE
      replace hz:=zag hE
      have hs3:=hb2.size
      clear hb2 x0 x1 x2 x3 x4 x5 r0 r1 r2 r3
      go_wp2_with (first | (go_at_call 115;refine(zai _ _ _ _).mono ?_;rintro e w' ⟨rfl,h⟩;subst h))
      go_ret
      exact⟨zbl HF.out,HB3.out⟩
     ·have HT:Hid (Wv.effOk b i m.e=Wv.dotsOk b i m.e.dots):=by show Wv.effOk b i m.e=_;rw [HE.out,hA,hB,hC,hD,hL];rfl
      have hlen:m.e.dots.length<=150:=by
       simp only [Bool.and_eq_true,decide_eq_true_eq] at hL
       have:Wv.rMostD m.e.op<=150:=by unfold Wv.rMostD;repeat' split<;>omega
       omega
      go_wp2_with (first | (go_at_call 115;refine(zai _ _ _ _).mono ?_;rintro e w' ⟨rfl,h⟩;subst h))
      refine(zfa b ca cc ev m.e.ref i (Wv.rRef m.e.op) _ hr'.out (h'.out.kept HN.out)).mono ?_
      rw [hD]
      rintro e w3 ⟨rfl,hb2⟩
      have HB3:Hid (Below w.heap.size w w3):=HN.out.trans (hb2.mono (by omega))
      replace r4:=zaa hb2 r4
      replace r5:=zaa hb2 r5
      replace x6:=zaa hb2 x6
      replace y0:=zaa hb2 y0
      replace y1:=zaa hb2 y1
      replace y2:=zaa hb2 y2
      replace y3:=zaa hb2 y3
      replace y4:=zaa hb2 y4
      replace hE:=zaa hb2 hE
      replace hz:=zag hE
      have hs3:=hb2.size
      clear hb2 x0 x1 x2 x3 x4 x5 r0 r1 r2 r3
      go_wp2_with (first | (go_at_call 115;refine(zai _ _ _ _).mono ?_;rintro e w' ⟨rfl,h⟩;subst h))
      refine(zj6 b ca cc ev i m.e.dots m.da m.dc _ eb ef hI (g'.out.kept HB3.out) (hpw'.out.kept HB3.out) hr'.out (h'.out.kept HB3.out) (hd'.out.kept HB3.out) hlen).mono ?_
      rintro e w4 ⟨he,hb3⟩
      have HB4:Hid (Below w.heap.size w w4):=HB3.out.trans (hb3.mono (by omega))
      unfold zb9 at he
      cases hc:Wv.dotsOk b i m.e.dots
      ·rw [hc] at he
       obtain⟨v,rfl,hv⟩:=he
       have HV:Hid (zfw eb v):=hv
       clear hv
       go_wp2
       go_ret
       exact⟨zgm (HT.out.trans hc) HV.out,HB4.out⟩
      ·rw [hc] at he
       obtain rfl:=he
       go_wp2
       go_ret
       exact⟨zdo (HT.out.trans hc),HB4.out⟩
theorem zh2(b:Wv.Bt)(ca:Option Addr)(cc:Nat)(ev:Value)(i:Int)(m:Em)(w:World)(eb ef:Addr)(hI:zay)(g:Gl w eb ef)(hp:Pw w)(hr:Right b)(h:At w ca (b.clock.map I))(hd:At w m.da (flat zab m.e.dots))(hn:m.e.dots.length<=9223372036854775807):
  Calls Tryz.prog 181 #[batV b ca cc ev,I i,effV m] w fun e w'=>zb9 (Wv.effOk b i m.e) eb e∧Below w.heap.size w w':=by
 by_cases ho:1<=m.e.op∧m.e.op<=6
 ·exact zh1 b ca cc ev i m w eb ef hI g hp hr h hd ho hn
 ·exact zjg b ca cc ev i m w eb ef g ho
theorem zqs{ok:Bool}{eb:Addr}{v:Value}(h:ok=false)(hv:zfw eb v):zgr ok eb (.returned v):=by
 rw [h];exact⟨_,rfl,Or.inl hv⟩
theorem zn0{ok:Bool}{eb:Addr}{s:ByteArray}{v:Value}(h:ok=false)(hv:zfw eb v):zgr ok eb (.returned (Flt s v)):=by
 obtain⟨t,rfl⟩:=hv
 rw [h];exact⟨_,rfl,Or.inr ⟨_,_,rfl⟩⟩
theorem znz{ok:Bool}{eb:Addr}(h:ok=true):zgr ok eb (.returned .nilIface):=by
 rw [h];rfl
theorem zjw(b:Wv.Bt)(h:Wv.headOk b=true):Right b:=by
 obtain⟨h1,h2,h3,h4,h5⟩:=Wv.head_clock b h
 exact⟨h1,h2,h3,h4,h5⟩
theorem zuz(b:Wv.Bt)(ca ea:Option Addr)(cc ec:Nat)(ms:List Em)(w:World)(eb ef:Addr)(hI:zay)(g:Gl w eb ef)(hp:Pw w)(h:BatAt w b ca ea ms)(hn:b.clock.length<=9223372036854775807)(hn':b.effs.length<=9223372036854775807)(hd:∀m∈ms,m.e.dots.length<=9223372036854775807):
  Calls Tryz.prog 156 #[bV b ca ea cc ec] w fun e w'=>zgr (Wv.isB b) eb e∧Below w.heap.size w w':=by
 have hpw':Hid (Pw w):=hp
 have g':Hid (Gl w eb ef):=g
 have h':Hid (BatAt w b ca ea ms):=h
 have HB:Hid (Below w.heap.size w (w.alloc (.cells #[I b.o,I b.s,I b.t, .slice ca b.clock.length cc, .slice ea b.effs.length ec] 124))):=(Below.refl _ _).alloc (Nat.le_refl _) _
 clear g hp h
 go_enter Tryz.func156,Tryz.ntmps156
 go_wp2_with fail
 refine(zj5 b ca ea cc ec _ eb ef hI (g'.out.kept HB.out) (hpw'.out.kept HB.out) (h'.out.kept HB.out).clock hn hn').mono ?_
 rintro e w1 ⟨he,hb1⟩
 have HB1:Hid (Below w.heap.size w w1):=HB.out.trans (hb1.mono (by simp))
 unfold zb9 at he
 cases hh:Wv.headOk b
 ·rw [hh] at he
  obtain⟨v,rfl,⟨st,rfl⟩⟩:=he
  have HF:Hid (Wv.isB b=false):=by show Wv.isB b=false;rw [Wv.isB,hh];rfl
  go_wp2
  go_ret
  exact⟨zqs HF.out ⟨_,rfl⟩,HB1.out⟩
 ·rw [hh] at he
  obtain rfl:=he
  have HW1:Hid (Below (w.heap.size+1) (w.alloc (.cells #[I b.o,I b.s,I b.t, .slice ca b.clock.length cc, .slice ea b.effs.length ec] 124)) w1):=hb1.mono (by simp)
  have hr':Hid (Right b):=zjw b hh
  have hle:1<=b.effs.length∧b.effs.length<=5:=by
   simp only [Wv.headOk,Bool.and_eq_true,decide_eq_true_eq] at hh
   exact hh.1.2
  have hml:ms.length=b.effs.length:=by rw [h'.out.effs];simp
  obtain⟨p,q,hea,hp,hc0⟩:=ze0 h'.out.cells (by omega)
  have hc:Hid _:=hc0
  subst hea
  have HH:Hid (Wv.headOk b=true):=hh
  have hd':Hid (∀m∈ms,m.e.dots.length<=9223372036854775807):=hd
  have HL:Hid (ms.length=b.effs.length):=hml
  clear hb1 hc0 hh hd hml
  have y0:w1.cell? ⟨w.heap.size,0,none⟩=some (I b.o):=(HW1.out.cell (p:=⟨w.heap.size,0,none⟩) (by simp)).trans (World.cell?_alloc_mark w _ _ _ 0)
  have y1:w1.cell? ⟨w.heap.size,1,none⟩=some (I b.s):=(HW1.out.cell (p:=⟨w.heap.size,1,none⟩) (by simp)).trans (World.cell?_alloc_mark w _ _ _ 1)
  have y2:w1.cell? ⟨w.heap.size,2,none⟩=some (I b.t):=(HW1.out.cell (p:=⟨w.heap.size,2,none⟩) (by simp)).trans (World.cell?_alloc_mark w _ _ _ 2)
  have y3:w1.cell? ⟨w.heap.size,3,none⟩=some (.slice ca b.clock.length cc):=(HW1.out.cell (p:=⟨w.heap.size,3,none⟩) (by simp)).trans (World.cell?_alloc_mark w _ _ _ 3)
  have y4:w1.cell? ⟨w.heap.size,4,none⟩=some (.slice (some ⟨p,q,none⟩) b.effs.length ec):=(HW1.out.cell (p:=⟨w.heap.size,4,none⟩) (by simp)).trans (World.cell?_alloc_mark w _ _ _ 4)
  go_wp2_with fail
  clear y0 y1 y2 y3 y4
  go_loopw [15] (fun x wr=>∃k:Nat,k<=b.effs.length∧x=I k∧Hid (Wv.effsTo b k=true)∧Hid (Below (w.heap.size+1) (w.alloc (.cells #[I b.o,I b.s,I b.t, .slice ca b.clock.length cc, .slice (some ⟨p,q,none⟩) b.effs.length ec] 124)) wr)) (fun x _=>b.effs.length - (intOf x).toNat)
  case atStart=>exact⟨0,Nat.zero_le _,rfl,rfl,HW1⟩
  case round=>
   obtain⟨k,hk,rfl,hto,hb⟩:=hrel
   have hsz:w.heap.size<wr.heap.size:=by have:=hb.out.size;simp at this;omega
   have hbw:Hid (Below w.heap.size w wr):=((Below.refl _ _).alloc (Nat.le_refl _) _).trans (hb.out.mono (by omega))
   by_cases hlt:k<b.effs.length
   ·have hlt':k<ms.length:=by rw [HL.out];exact hlt
    obtain⟨c0,c1,c2,c3,c4,c5,c6⟩:=hc.out k hlt'
    replace c0:=zaa hbw.out c0
    replace c1:=zaa hbw.out c1
    replace c2:=zaa hbw.out c2
    replace c3:=zaa hbw.out c3
    replace c4:=zaa hbw.out c4
    replace c5:=zaa hbw.out c5
    replace c6:=zaa hbw.out c6
    have hpr:p<wr.heap.size:=by omega
    have HM:Hid (ms[k]∈ms∧b.effs.getD k ⟨0,0,0,⟨0,0,0⟩, []⟩=ms[k].e):=⟨List.getElem_mem _,by rw [h'.out.effs];simp [hlt']⟩
    generalize ms[k]=m at c0 c1 c2 c3 c4 c5 c6 HM
    have y0:wr.cell? ⟨w.heap.size,0,none⟩=some (I b.o):=(hb.out.cell (p:=⟨w.heap.size,0,none⟩) (by simp)).trans (World.cell?_alloc_mark w _ _ _ 0)
    have y1:wr.cell? ⟨w.heap.size,1,none⟩=some (I b.s):=(hb.out.cell (p:=⟨w.heap.size,1,none⟩) (by simp)).trans (World.cell?_alloc_mark w _ _ _ 1)
    have y2:wr.cell? ⟨w.heap.size,2,none⟩=some (I b.t):=(hb.out.cell (p:=⟨w.heap.size,2,none⟩) (by simp)).trans (World.cell?_alloc_mark w _ _ _ 2)
    have y3:wr.cell? ⟨w.heap.size,3,none⟩=some (.slice ca b.clock.length cc):=(hb.out.cell (p:=⟨w.heap.size,3,none⟩) (by simp)).trans (World.cell?_alloc_mark w _ _ _ 3)
    have y4:wr.cell? ⟨w.heap.size,4,none⟩=some (.slice (some ⟨p,q,none⟩) b.effs.length ec):=(hb.out.cell (p:=⟨w.heap.size,4,none⟩) (by simp)).trans (World.cell?_alloc_mark w _ _ _ 4)
    have HB2:Hid (Below w.heap.size w (wr.alloc (.cells #[I m.e.op,I m.e.ob,I m.e.va,I m.e.ref.o,I m.e.ref.s,I m.e.ref.i, .slice m.da m.e.dots.length m.dc] 149))):=hbw.out.alloc (by omega) _
    go_wp2_with fail
    refine(zh2 b ca cc (.slice (some ⟨p,q,none⟩) b.effs.length ec) k m _ eb ef hI (g'.out.kept HB2.out) (hpw'.out.kept HB2.out) hr'.out (h'.out.clock.kept HB2.out) ((h'.out.dots m HM.out.1).kept HB2.out) (hd' m HM.out.1)).mono ?_
    rintro e w2 ⟨he,hb2⟩
    have HB3:Hid (Below w.heap.size w w2):=HB2.out.trans (hb2.mono (by simp;omega))
    have HK:Hid (Below (w.heap.size+1) wr w2):=((Below.refl _ _).alloc (by omega) _).trans (hb2.mono (by simp;omega))
    have hsz2:wr.heap.size<w2.heap.size:=by have:=hb2.size;simp at this;omega
    unfold zb9 at he
    clear hb2 c0 c1 c2 c3 c4 c5 c6 y0 y1 y2 y3 y4
    cases hc:Wv.effOk b k m.e
    ·rw [hc] at he
     obtain⟨v,rfl,⟨st,rfl⟩⟩:=he
     have HF:Hid (Wv.isB b=false):=by
      show Wv.isB b=false
      rw [Wv.isB,Wv.effsTo_no b _ k hlt (by rw [HM.out.2,hc]),Bool.and_false]
     go_wp2_with (first | (go_at_call 182;refine(hI k _ (by omega) ?_).mono ?_;exact hpw'.out.kept HB3.out;rintro e w' ⟨⟨sn,hst,rfl⟩,hb9⟩;have hcat:¬9223372036854775807<7+sn.size:=by omega))
     go_ret
     exact⟨zn0 HF.out ⟨_,rfl⟩,HB3.out.trans (hb9.mono (by omega))⟩
    ·rw [hc] at he
     obtain rfl:=he
     have HT:Hid (Wv.effsTo b (k+1)=true):=by
      show(Wv.effsTo b k && Wv.effOk b k _)=true
      rw [hto.out,HM.out.2,hc];rfl
     go_wp2_with fail
     exact⟨⟨k+1,by omega,by go_num,HT,hb.out.trans HK.out⟩,by simp [intOf];omega⟩
   ·obtain rfl:k=b.effs.length:=by omega
    have HT:Hid (Wv.isB b=true):=by show Wv.isB b=true;rw [Wv.isB,HH.out,hto.out];rfl
    go_wp2
    go_ret
    exact⟨znz HT.out,hbw.out⟩
theorem _root_.Go.Proofs.YtfmcngncaffloaaGreatDoor.Wv.effs_len(l:List Wv.Ef)(h:∀e∈l,(Wv.effB e).length<=500):(l.flatMap Wv.effB).length<=500*l.length:=by
 induction l with
 | nil=>simp
 | cons e l ih=>
  have h1:=h e (by simp)
  have h2:=ih (fun x hx=>h x (by simp [hx]))
  simp only [List.flatMap_cons,List.length_append,List.length_cons]
  omega
theorem _root_.Go.Proofs.YtfmcngncaffloaaGreatDoor.Wv.headB_len(b:Wv.Bt):(Wv.headB b).length=b.clock.length+5:=by
 have h1:=Wv.flat1_len b.clock
 have h2:(Wv.hd4 b).length=4:=rfl
 simp only [Wv.headB,List.length_append,h1,h2,Wv.be1_len]
 omega
theorem _root_.Go.Proofs.YtfmcngncaffloaaGreatDoor.Wv.headB_pos(b:Wv.Bt):1<=(Wv.headB b).length:=by have:=Wv.headB_len b;omega
theorem zhc(b:Wv.Bt):∀(n k:Nat),k<n->Wv.effsTo b n=true->Wv.effOk b k (b.effs.getD k ⟨0,0,0,⟨0,0,0⟩, []⟩)=true
 | n+1,k,hk,h=>by
  rw [Wv.effsTo,Bool.and_eq_true] at h
  rcases Nat.lt_succ_iff_lt_or_eq.1 hk with hk | rfl
  ·exact zhc b n k hk h.1
  ·exact h.2
theorem znk(b:Wv.Bt)(ms:List Em)(he:b.effs=ms.map (·.e))(hb:Wv.isB b=true):∀m∈ms,(1<=m.e.op∧m.e.op<=6)∧m.e.dots.length<=150:=by
 intro m hm
 obtain⟨k,hk,rfl⟩:=List.mem_iff_getElem.1 hm
 simp only [Wv.isB,Bool.and_eq_true] at hb
 have h:=zhc b b.effs.length k (by rw [he];simpa using hk) hb.2
 have e:b.effs.getD k ⟨0,0,0,⟨0,0,0⟩, []⟩=ms[k].e:=by rw [he];simp [hk]
 rw [e] at h
 simp only [Wv.effOk,Wv.isOp,Bool.and_eq_true,decide_eq_true_eq] at h
 refine⟨h.1.1.1.1.1, ?_⟩
 have h2:=h.1.2.2
 have:Wv.rMostD ms[k].e.op<=150:=by unfold Wv.rMostD;repeat' split<;>omega
 omega
theorem _root_.Go.Proofs.YtfmcngncaffloaaGreatDoor.Grew.below0{w w':World}{v':Value}(h:Grew w w' (.slice none 0 0) v'):Below w.heap.size w w':=
 ⟨h.grown.os,h.grown.tape,h.grown.output,h.grown.size,fun k hk=>h.grown.block k hk (by simp [Value.ownBlock])⟩
theorem zit{w:World}{B g n cap:Nat}{l:List UInt8}(h:OwnB w B (.slice (some ⟨g,0,none⟩) n cap) l):
  (convert 170 9 (.slice (some ⟨g,0,none⟩) n cap)).run Tryz.prog w= .ok (.string ⟨l.toArray⟩) w:=by
 have hn:n=l.length:=by
  rcases h.2 with⟨e,_⟩ | ⟨_,_,_,e,_⟩
  ·cases e
  ·injection e
 subst hn
 exact zjc w _ _ l (fun j u hu=>h.cells rfl j u hu)
theorem zny(b:Wv.Bt)(ca ea:Option Addr)(cc ec:Nat)(ms:List Em)(w:World)(eb ef:Addr)(hI:zay)(g:Gl w eb ef)(hp:Pw w)(h:BatAt w b ca ea ms)(hb:Wv.isB b=true):
  Calls Tryz.prog 116 #[bV b ca ea cc ec] w fun e w'=>e= .returned (.tuple #[.string ⟨(Wv.frameB b).toArray⟩, .nilIface])∧Below w.heap.size w w':=by
 have hpw':Hid (Pw w):=hp
 have g':Hid (Gl w eb ef):=g
 have h':Hid (BatAt w b ca ea ms):=h
 have HF:Hid (Wv.isB b=true):=hb
 have hH:Wv.headOk b=true:=by simp only [Wv.isB,Bool.and_eq_true] at hb;exact hb.1
 have hcl:2<=b.clock.length∧b.clock.length<=4:=by
  simp only [Wv.headOk,Bool.and_eq_true,decide_eq_true_eq] at hH
  exact hH.1.1.1.1.1
 have hel:1<=b.effs.length∧b.effs.length<=5:=by
  simp only [Wv.headOk,Bool.and_eq_true,decide_eq_true_eq] at hH
  exact hH.1.2
 have hml:ms.length=b.effs.length:=by rw [h.effs];simp
 have HL:Hid (ms.length=b.effs.length):=hml
 obtain⟨p,q,rfl,hp0,hc0⟩:=h.clock.first (by simp;omega)
 obtain⟨p2,q2,rfl,hp2,hc2⟩:=ze0 h.cells (by omega)
 have hcc:Hid _:=hc0
 have hce:Hid _:=hc2
 have HOK:Hid (∀m∈ms,(1<=m.e.op∧m.e.op<=6)∧m.e.dots.length<=150):=znk b ms h.effs hb
 have HB:Hid (Below w.heap.size w (w.alloc (.cells #[I b.o,I b.s,I b.t, .slice (some ⟨p,q,none⟩) b.clock.length cc, .slice (some ⟨p2,q2,none⟩) b.effs.length ec] 124))):=(Below.refl _ _).alloc (Nat.le_refl _) _
 clear g hp h hb hc0 hc2 hH hml
 go_enter Tryz.func116,Tryz.ntmps116
 go_wp2_with fail
 refine(zuz b _ _ cc ec ms _ eb ef hI (g'.out.kept HB.out) (hpw'.out.kept HB.out) (h'.out.kept HB.out) (by omega) (by omega) (fun m hm=>by have:=(HOK.out m hm).2;omega)).mono ?_
 rintro e w1 ⟨he,hb1⟩
 have HB1:Hid (Below w.heap.size w w1):=HB.out.trans (hb1.mono (by simp))
 have hsz1:w.heap.size<w1.heap.size:=by have:=hb1.size;simp at this;omega
 unfold zgr at he
 rw [HF.out] at he
 obtain rfl:=he
 have y0:w1.cell? ⟨w.heap.size,0,none⟩=some (I b.o):=(hb1.cell (p:=⟨w.heap.size,0,none⟩) (by simp)).trans (World.cell?_alloc_mark w _ _ _ 0)
 have y1:w1.cell? ⟨w.heap.size,1,none⟩=some (I b.s):=(hb1.cell (p:=⟨w.heap.size,1,none⟩) (by simp)).trans (World.cell?_alloc_mark w _ _ _ 1)
 have y2:w1.cell? ⟨w.heap.size,2,none⟩=some (I b.t):=(hb1.cell (p:=⟨w.heap.size,2,none⟩) (by simp)).trans (World.cell?_alloc_mark w _ _ _ 2)
 have y3:w1.cell? ⟨w.heap.size,3,none⟩=some (.slice (some ⟨p,q,none⟩) b.clock.length cc):=(hb1.cell (p:=⟨w.heap.size,3,none⟩) (by simp)).trans (World.cell?_alloc_mark w _ _ _ 3)
 have y4:w1.cell? ⟨w.heap.size,4,none⟩=some (.slice (some ⟨p2,q2,none⟩) b.effs.length ec):=(hb1.cell (p:=⟨w.heap.size,4,none⟩) (by simp)).trans (World.cell?_alloc_mark w _ _ _ 4)
 clear hb1
 go_wp2_with fail
 refine(zue w w1 (.slice none 0 0) [] b p q (some ⟨p2,q2,none⟩) cc ec HB1.out hcc (OwnB.nil _ _) (by simp) hcl.2 hel.2).mono ?_
 rintro e w2 ⟨v2,rfl,hO2,hG2⟩
 have HG2:Hid (Grew w1 w2 (.slice none 0 0) v2):=hG2
 have HO2:Hid (OwnB w2 w.heap.size v2 (Wv.headB b)):=hO2
 replace y0:=HG2.out.cell (by simp [Value.ownBlock]) y0
 replace y1:=HG2.out.cell (by simp [Value.ownBlock]) y1
 replace y2:=HG2.out.cell (by simp [Value.ownBlock]) y2
 replace y3:=HG2.out.cell (by simp [Value.ownBlock]) y3
 replace y4:=HG2.out.cell (by simp [Value.ownBlock]) y4
 clear hO2 hG2
 go_wp2_with fail
 clear y0 y1 y2 y3 y4
 have HEL:Hid (∀e∈b.effs,(Wv.effB e).length<=500):=by
  show∀e∈b.effs,_
  rw [h'.out.effs]
  intro e he
  obtain⟨m,hm,rfl⟩:=List.mem_map.1 he
  exact Wv.effB_len _ (HOK.out m hm).2
 go_loopw [5,19] (fun t x wr=>∃k:Nat,k<=b.effs.length∧x=I k∧Hid (OwnB wr w.heap.size t (Wv.headB b++(b.effs.take k).flatMap Wv.effB))∧Hid (Grew w1 wr (.slice none 0 0) t)) (fun _ x _=>b.effs.length - (intOf x).toNat)
 case atStart=>exact⟨0,Nat.zero_le _,rfl,by simpa using HO2,HG2⟩
 case round=>
  obtain⟨k,hk,rfl,hok,hgk⟩:=hrel
  clear HG2 HO2
  have HBr:Hid (Below w.heap.size w wr):=HB1.out.trans (hgk.out.below (l:= []) (by omega) (OwnB.nil _ _))
  have hszr:w.heap.size<=wr.heap.size:=HBr.out.size
  have HLn:Hid ((Wv.headB b++(b.effs.take k).flatMap Wv.effB).length<=10000):=by
   show _<=_
   have h1:=Wv.effs_len (b.effs.take k) (fun e he=>HEL.out e (List.mem_of_mem_take he))
   have h2:=Wv.headB_len b
   simp only [List.length_append,List.length_take] at h1 ⊢
   omega
  by_cases hlt:k<b.effs.length
  ·have hlt':k<ms.length:=by rw [HL.out];exact hlt
   obtain⟨c0,c1,c2,c3,c4,c5,c6⟩:=hce.out k hlt'
   replace c0:=zaa HBr.out c0
   replace c1:=zaa HBr.out c1
   replace c2:=zaa HBr.out c2
   replace c3:=zaa HBr.out c3
   replace c4:=zaa HBr.out c4
   replace c5:=zaa HBr.out c5
   replace c6:=zaa HBr.out c6
   have hpr:=zag c0
   have HM:Hid (ms[k]∈ms∧(b.effs.take (k+1)).flatMap Wv.effB=(b.effs.take k).flatMap Wv.effB++Wv.effB ms[k].e):=by
    refine⟨List.getElem_mem _, ?_⟩
    rw [Wv.take_flat _ _ _ hlt]
    simp [h'.out.effs]
   generalize ms[k]=m at c0 c1 c2 c3 c4 c5 c6 HM
   generalize hL:Wv.headB b++(b.effs.take k).flatMap Wv.effB=L at hok HLn
   have HLL:Hid (Wv.headB b++(b.effs.take k).flatMap Wv.effB=L):=hL
   clear hL
   have HX:Hid (Below w.heap.size w (wr.alloc (.cells #[I m.e.op,I m.e.ob,I m.e.va,I m.e.ref.o,I m.e.ref.s,I m.e.ref.i, .slice m.da m.e.dots.length m.dc] 149))):=HBr.out.alloc hszr _
   go_wp2_with fail
   refine(zy5 w _ u5 L m eb ef g'.out HX.out (hok.out.alloc _) (by have:=HLn.out;omega) (HOK.out m HM.out.1).1 (h'.out.dots m HM.out.1) (HOK.out m HM.out.1).2).mono ?_
   rintro e w7 ⟨v7,rfl,hO7,hG7⟩
   have HO7:Hid (OwnB w7 w.heap.size v7 (L++Wv.effB m.e)):=hO7
   have HG7:Hid (Grew wr w7 u5 v7):=(Grew.new _ u5).trans hG7
   clear hO7 hG7
   go_wp2
   go_roundw
   case rel=>exact⟨k+1,by omega,by go_num,by rw [HM.out.2,←List.append_assoc,HLL.out];exact HO7,hgk.out.trans HG7.out⟩
   case measure=>simp [intOf];omega
  ·obtain rfl:k=b.effs.length:=by omega
   have HC:Hid (OwnB wr w.heap.size u5 (Wv.contentB b)):=by
    have:=hok.out
    rw [List.take_length] at this
    exact this
   have HCn:Hid ((Wv.contentB b).length<=10000∧1<=(Wv.contentB b).length):=by
    have h1:=HLn.out
    rw [List.take_length] at h1
    refine⟨h1, ?_⟩
    have:=Wv.headB_pos b
    simp only [Wv.contentB,List.length_append]
    omega
   obtain⟨gg,cap,hu⟩:=Joins.ownsRow_form HC.out (by have:=HCn.out.2;omega)
   subst hu
   clear hok HLn
   have hcn:=HCn.out
   go_wp2_with fail
   refine(zgc (.slice none 0 0) [] _ w.heap.size wr hszr (OwnB.nil _ _) (by simp)).mono ?_
   rintro e w9 ⟨v9,rfl,hO9,hG9⟩
   have HX9:Hid (Below wr.heap.size wr w9):=hG9.below0
   have e9:(2+((Wv.contentB b).length:Int)+4)=((Wv.contentB b).length:Int)+6:=by omega
   rw [e9] at hO9
   have HO9:Hid (OwnB w9 w.heap.size v9 (Wv.be2 (((Wv.contentB b).length:Int)+6))):=hO9
   have HC9:Hid (OwnB w9 w.heap.size (.slice (some ⟨gg,0,none⟩) (Wv.contentB b).length cap) (Wv.contentB b)):=HC.out.kept HX9.out
   have HB9:Hid (Below w.heap.size w w9):=HBr.out.trans (HX9.out.mono hszr)
   obtain⟨g9,cap9,h9⟩:=Joins.ownsRow_form HO9.out (by simp [Wv.be2])
   have h9':v9= .slice (some ⟨g9,0,none⟩) 2 cap9:=h9
   subst h9'
   have hq1:=zit HO9.out
   have hq2:=zit HC9.out
   have h2:(Wv.be2 (((Wv.contentB b).length:Int)+6)).length=2:=rfl
   have hle:¬9223372036854775807<(Wv.be2 (((Wv.contentB b).length:Int)+6)).length+(Wv.contentB b).length:=by omega
   have hss:((⟨(Wv.be2 (((Wv.contentB b).length:Int)+6)).toArray⟩++⟨(Wv.contentB b).toArray⟩:ByteArray)).size<=1048576:=by
    rw [zap]
    show(Wv.be2 (((Wv.contentB b).length:Int)+6)++Wv.contentB b).toArray.size<=_
    simp only [List.size_toArray,List.length_append]
    omega
   have HSS:Hid _:=hss
   have HFr:Hid ((⟨(((⟨(Wv.be2 (((Wv.contentB b).length:Int)+6)).toArray⟩++⟨(Wv.contentB b).toArray⟩:ByteArray)).data.toList++Wv.be4 (Wv.sum ((⟨(Wv.be2 (((Wv.contentB b).length:Int)+6)).toArray⟩++⟨(Wv.contentB b).toArray⟩:ByteArray)).data.toList:Nat)).toArray⟩:ByteArray)=⟨(Wv.frameB b).toArray⟩):=by
    show _=_
    rw [zap]
    rfl
   clear hO9 hG9 e9 h9 h2 hss
   go_wp2_with (first | (go_at_call 160;refine(zvq _ _ HSS.out).mono ?_;rw [HFr.out];rintro e w10 ⟨rfl,hb10⟩))
   go_ret2
   exact⟨rfl,HB9.out.trans (hb10.mono (by have:=HB9.out.size;omega))⟩
abbrev eff0:Array Value:= #[.int .i64 0, .int .i64 0, .int .i64 0, .int .i64 0, .int .i64 0, .int .i64 0, .slice none 0 0]
structure Ew(w w0 wi:World)(g E:Nat)(c:List UInt8)(q:Wv.St)(es:Array Value):Prop where
 rd:Rd wi g c q
 grown:w.grownBy wi (some g)
 below:Below w0.heap.size w0 wi
 kR:Blk wi w.heap.size eff0 149
 kE:Blk wi E es 149
 lt:w.heap.size<E
 lg:g<w.heap.size
 gg:w0.heap.size<=g
abbrev put7 (w:World) (R:Nat) (a0 a1 a2 a3 a4 a5 a6:Value):World:=((((((w.setCell ⟨R,0,none⟩ a0).setCell ⟨R,1,none⟩ a1).setCell ⟨R,2,none⟩ a2).setCell ⟨R,3,none⟩ a3).setCell ⟨R,4,none⟩ a4).setCell ⟨R,5,none⟩ a5).setCell ⟨R,6,none⟩ a6
theorem zwb{w:World}{R:Nat}(h:Blk w R eff0 149)(a0 a1 a2 a3 a4 a5 a6:Value):Blk (put7 w R a0 a1 a2 a3 a4 a5 a6) R #[a0,a1,a2,a3,a4,a5,a6] 149:=
 ((((((h.set 0 a0).set 1 a1).set 2 a2).set 3 a3).set 4 a4).set 5 a5).set 6 a6
theorem zbr{w:World}{base base':Nat}{e:TypeId}{size n:Nat}{v:Value}{xs:List Value}(h:w.ownsRow base e size v n xs)(hb:base'<=base):w.ownsRow base' e size v n xs:=by
 refine⟨h.1, ?_⟩
 rcases h.2 with h2 | ⟨g,cap,cur,rfl,hbg,r⟩
 ·exact .inl h2
 ·exact .inr ⟨g,cap,cur,rfl,Nat.le_trans hb hbg,r⟩
theorem zxf:(Tryz.prog.info? 146).map (fun i=>(i.zero,i.size,i.bytes))=some (some (.agg #[.int .i64 0, .int .i64 0, .int .i64 0]),3,24):=by kernel_rfl
theorem zr2(d:Wv.Dt):∀u∈ [I d.o,I d.s,I d.i],u.oneCell'=true:=by
 intro u hu
 simp only [List.mem_cons,List.mem_nil_iff,or_false] at hu
 rcases hu with rfl | rfl | rfl<;>rfl
theorem zk4{α:Type}(f:α->List Value)(l:List α)(x:α):flat f (l++ [x])=flat f l++f x:=by
 induction l with
 | nil=>simp [flat]
 | cons y l ih=>simp only [List.cons_append,flat,ih,List.append_assoc]
end Go.Proofs.YtfmcngncaffloaaGreatDoor
