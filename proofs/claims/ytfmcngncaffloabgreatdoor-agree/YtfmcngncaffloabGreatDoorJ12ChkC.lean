import Derived.Test.YtfmcngncaffloabGreatDoorJ07CovC
import Derived.Test.YtfmcngncaffloabGreatDoorJ08ObjG
import Derived.Test.YtfmcngncaffloabGreatDoorJ04KrC
set_option maxHeartbeats 1600000
namespace Go.Proofs.YtfmcngncaffloabGreatDoor
open Go.RowKit Go.Proofs.Tryz Wv
set_option maxRecDepth 100000
theorem rises0{k:Nat}{x:Bool}(h:((k:Int)==0)=true):Hid (true=((k==0) || x)):=by
 have e:(k==0)=true:=by simpa using h
 show true=((k==0) || x)
 rw [e];rfl
theorem zk9(b:Bt)(ca:Option Addr)(cc:Nat)(ev:Value)(i:Int)(ds:List Dt)(p q dc:Nat)(w:World)(eb ef:Addr)(hI:zaj)(g:Gl w eb ef)(hpw:Pw w)(hr:Right b)(h:At w ca (b.clock.map I))
  (hd:Hid (∀k (hk:k<ds.length),w.cell? ⟨p,q+k*3,none⟩=some (I ds[k].o)∧w.cell? ⟨p,q+k*3+1,none⟩=some (I ds[k].s)∧w.cell? ⟨p,q+k*3+2,none⟩=some (I ds[k].i))) (hp:p<w.heap.size) (hl:ds.length<=150):
  Calls prog 194 #[batV b ca cc ev,I i, .slice (some ⟨p,q,none⟩) ds.length dc] w fun e w'=>zca (dotsOk b i ds) eb e∧Below w.heap.size w w':=by
 have hpw':Hid (Pw w):=hpw;have g':Hid (Gl w eb ef):=g;have hr':Hid (Right b):=hr;have h':Hid (At w ca (b.clock.map I)):=h;clear g hpw hr h;go_enter func194,ntmps194;go_wp2_with fail
 go_loopw [12] (fun x wr=>∃k:Nat,k<=ds.length∧x=I k∧Hid (dotsTo b i ds k=true)∧Hid (Below (w.heap.size+1) (w.alloc (.cells #[I b.o,I b.s,I b.t, .slice ca b.clock.length cc,ev] 134)) wr)) (fun x _=>ds.length - (intOf x).toNat)
 case atStart=>exact⟨0,az _,rfl,rfl,Below.refl _ _⟩
 case round=>
  obtain⟨k,hk,rfl,hto,hb⟩:=hrel;by_cases hlt:k<ds.length
  ·have hsz:w.heap.size<wr.heap.size:=by have:=hb.out.size;simp at this;omega
   have hbw:Hid (Below w.heap.size w wr):=((Below.refl _ _).alloc (ac _) _).trans (hb.out.mono (by omega));have hpr:p<wr.heap.size:=by omega
   obtain⟨c0,c1,c2⟩:=hd.out k hlt;replace c0:=zaa hbw.out c0;replace c1:=zaa hbw.out c1;replace c2:=zaa hbw.out c2
   have b0:∀j,wr.cell? ⟨w.heap.size,j,none⟩= #[I b.o,I b.s,I b.t, .slice ca b.clock.length cc,ev][j]?:=fun j=>by
    rw [hb.out.cell (p:=⟨w.heap.size,j,none⟩) (by simp)];exact World.cell?_alloc_mark w _ _ _ j
   have b1:=b0 1;have b2:=b0 2;have b3:=b0 3;have b4:=b0 4;replace b0:=b0 0;simp at b0 b1 b2 b3 b4;have HD:Hid (dOk b i ds k=(((k==0) || lessD (ds.getD (k - 1) ⟨0,0,0⟩) ds[k]) && cov b ds[k] i)):=by show dOk b i ds k=_;simp [dOk,hlt]
   generalize ds[k]=d at c0 c1 c2 HD;by_cases hk0:k=0
   ·replace hk0:((k:Int)==0)=true:=by simp [hk0]
    go_wp2_with fail
    go_quiet (fail)
    have HR:=rises0 (x:=lessD (ds.getD (k - 1) ⟨0,0,0⟩) d) hk0;have hb1:Hid (Below wr.heap.size wr ((wr.alloc (.cells #[I d.o,I d.s,I d.i] 125)).drewN nq)):=za7 ((Below.refl _ _).alloc (ac _) _) _;have x:∀j,((wr.alloc (.cells #[I d.o,I d.s,I d.i] 125)).drewN nq).cell? ⟨wr.heap.size,j,none⟩= #[I d.o,I d.s,I d.i][j]?:=fun j=>World.cell?_alloc_mark wr _ _ _ j
    have x0:=x 0;have x1:=x 1;have x2:=x 2;simp only [List.getElem?_toArray,List.getElem?_cons_zero,List.getElem?_cons_succ] at x0 x1 x2;clear x;have hsz1:wr.heap.size<((wr.alloc (.cells #[I d.o,I d.s,I d.i] 125)).drewN nq).heap.size:=zad x0;generalize ((wr.alloc (.cells #[I d.o,I d.s,I d.i] 125)).drewN nq)=w1 at *
    have y0:=zaa hb1.out b0;have y1:=zaa hb1.out b1;have y2:=zaa hb1.out b2;have y3:=zaa hb1.out b3;have y4:=zaa hb1.out b4;clear b0 b1 b2 b3 b4 c0 c1 c2;have HB:Hid (Below w.heap.size w w1):=hbw.out.trans (hb1.out.mono (by omega));cases hcv:cov b d i
    ·have HF:Hid (dotsOk b i ds=false):=dotsTo_no b i ds _ k hlt (by rw [HD.out,hcv];simp)
     go_wp2_with (first | (go_at_call 207;refine(zd5 b ca cc ev d i _ hr'.out ?_).mono ?_;exact h'.out.kept HB.out;rintro e w2 ⟨rfl,hb2⟩;rw [hcv];have hb2':Hid (Below w.heap.size w w2):=HB.out.trans (hb2.mono (by omega));have hsz2:=hb2.size;clear hb2))
     have hE:=(g'.out.kept hb2'.out).errBatch;have hz:=zad hE
     go_region_held3 (fun w'=>w'.cell? ⟨0,0,none⟩=some (Sent eb)) (first | go_keep | (refine zaa hb9 ?_;go_keep))
      (first | (go_at_call 173;refine(hI k _ (by omega) ?_).mono ?_;exact hpw'.out.kept (Below.drew hb2'.out);rintro e w' ⟨⟨st,hst,rfl⟩,hb9⟩;have hcat:¬9223372036854775807<4+st.size:=by omega))
     go_wp2;go_ret;exact⟨zbl HF.out,(Below.drew hb2'.out).trans (hb9.mono (by simp;omega))⟩
    ·have HT:Hid (dotsTo b i ds (k+1)=true):=by show(dotsTo b i ds k && dOk b i ds k)=true;rw [hto.out,HD.out,hcv,←HR.out];rfl
     go_wp2_with (first | (go_at_call 207;refine(zd5 b ca cc ev d i _ hr'.out ?_).mono ?_;exact h'.out.kept HB.out;rintro e w2 ⟨rfl,hb2⟩;rw [hcv];have hb2':Hid (Below w1.heap.size w1 w2):=hb2;clear hb2))
     exact⟨⟨k+1,by omega,by go_num,HT,(hb.out.trans (hb1.out.mono (by omega))).trans (hb2'.out.mono (by omega))⟩,by simp [intOf];omega⟩
   ·obtain⟨e0,e1,e2⟩:=hd.out (k - 1) (by omega)
    have hk1:((k:Int)==0)=false:=by simp;omega
    replace e0:=zaa hbw.out e0;replace e1:=zaa hbw.out e1;replace e2:=zaa hbw.out e2;have HG:Hid (ds.getD (k - 1) ⟨0,0,0⟩=ds[k - 1]):=by show ds.getD (k - 1) ⟨0,0,0⟩=ds[k - 1];simp [show k - 1<ds.length by omega]
    generalize ds[k - 1]=f at e0 e1 e2 HG;have hm1:(k:Int) - 1<(ds.length:Int):=by omega
    have hm0:(0:Int)<=(k:Int) - 1:=by omega
    have hm2:(1:Int)<=(k:Int):=by omega
    have hm3:1<=k:=by omega
    have hm4:0<k:=by omega
    have hm5:(k:Int)<=(ds.length:Int):=by omega
    have hw1:IntKind.i64.wrap ((k:Int) - 1)=(k:Int) - 1:=by rw [IntKind.wrap_i64];omega
    clear hk0;go_wp2_with fail
    go_region_held3 (fun w'=>w'.cell? ⟨p,q+(k - 1)*3,none⟩=some (I f.o)∧w'.cell? ⟨p,q+(k - 1)*3+1,none⟩=some (I f.s)∧w'.cell? ⟨p,q+(k - 1)*3+2,none⟩=some (I f.i)∧w'.cell? ⟨wr.heap.size,0,none⟩=some (I d.o)∧w'.cell? ⟨wr.heap.size,1,none⟩=some (I d.s)∧w'.cell? ⟨wr.heap.size,2,none⟩=some (I d.i)) (first | go_keep | (refine⟨zaa hb0 ?_,zaa hb0 ?_,zaa hb0 ?_,zaa hb0 ?_,zaa hb0 ?_,zaa hb0 ?_⟩<;>go_keep))
     (first | (go_at_call 208;refine(zjc f d _).mono ?_;rintro e w1 ⟨⟨r,rfl,hr1⟩,hb0⟩))
    have x:∀j,w1.cell? ⟨wr.heap.size,j,none⟩= #[I d.o,I d.s,I d.i][j]?:=fun j=>(hb0.cell (p:=⟨wr.heap.size,j,none⟩) (by simp)).trans (World.cell?_alloc_mark wr _ _ _ j)
    have x0:=x 0;have x1:=x 1;have x2:=x 2;simp only [List.getElem?_toArray,List.getElem?_cons_zero,List.getElem?_cons_succ] at x0 x1 x2;clear x;have hb1:Hid (Below wr.heap.size wr w1):=((Below.refl _ _).alloc (ac _) _).drew.trans (hb0.mono (by simp));have hsz1:wr.heap.size<w1.heap.size:=zad x0;have y0:=zaa hb1.out b0;have y1:=zaa hb1.out b1;have y2:=zaa hb1.out b2;have y3:=zaa hb1.out b3;have y4:=zaa hb1.out b4;have hkz:(k==0)=false:=by simpa using hk1
    have HK:Hid ((k==0)=false):=hkz;clear b0 b1 b2 b3 b4 c0 c1 c2 e0 e1 e2 hb0 hm0 hm1 hm2 hm3 hm4 hm5 hw1 hr1 hkz;cases hls:lessD f d
    ·have HF:Hid (dotsOk b i ds=false):=dotsTo_no b i ds _ k hlt (by rw [HD.out,HG.out,hls,HK.out];rfl)
     have HB:Hid (Below w.heap.size w w1):=hbw.out.trans (hb1.out.mono (by omega));have hE:=(g'.out.kept HB.out).errBatch;have hz:=zad hE;go_wp2_with fail
     go_region_held3 (fun w'=>w'.cell? ⟨0,0,none⟩=some (Sent eb)) (first | go_keep | (refine zaa hb9 ?_;go_keep))
      (first | (go_at_call 173;refine(hI k _ (by omega) ?_).mono ?_;exact hpw'.out.kept (Below.drew HB.out);rintro e w' ⟨⟨st,hst,rfl⟩,hb9⟩;have hcat:¬9223372036854775807<4+st.size:=by omega))
     go_wp2;go_ret;exact⟨zbl HF.out,(Below.drew HB.out).trans (hb9.mono (by simp;omega))⟩
    ·have HR:Hid (true=((k==0) || lessD (ds.getD (k - 1) ⟨0,0,0⟩) d)):=by show true=_;rw [HG.out,hls,HK.out];rfl
     have HB:Hid (Below w.heap.size w w1):=hbw.out.trans (hb1.out.mono (by omega));cases hcv:cov b d i
     ·have HF:Hid (dotsOk b i ds=false):=dotsTo_no b i ds _ k hlt (by rw [HD.out,hcv];simp)
      go_wp2_with (first | (go_at_call 207;refine(zd5 b ca cc ev d i _ hr'.out ?_).mono ?_;exact h'.out.kept HB.out;rintro e w2 ⟨rfl,hb2⟩;rw [hcv];have hb2':Hid (Below w.heap.size w w2):=HB.out.trans (hb2.mono (by omega));have hsz2:=hb2.size;clear hb2))
      have hE:=(g'.out.kept hb2'.out).errBatch;have hz:=zad hE
      go_region_held3 (fun w'=>w'.cell? ⟨0,0,none⟩=some (Sent eb)) (first | go_keep | (refine zaa hb9 ?_;go_keep))
       (first | (go_at_call 173;refine(hI k _ (by omega) ?_).mono ?_;exact hpw'.out.kept (Below.drew hb2'.out);rintro e w' ⟨⟨st,hst,rfl⟩,hb9⟩;have hcat:¬9223372036854775807<4+st.size:=by omega))
      go_wp2;go_ret;exact⟨zbl HF.out,(Below.drew hb2'.out).trans (hb9.mono (by simp;omega))⟩
     ·have HT:Hid (dotsTo b i ds (k+1)=true):=by show(dotsTo b i ds k && dOk b i ds k)=true;rw [hto.out,HD.out,hcv,←HR.out];rfl
      go_wp2_with (first | (go_at_call 207;refine(zd5 b ca cc ev d i _ hr'.out ?_).mono ?_;exact h'.out.kept HB.out;rintro e w2 ⟨rfl,hb2⟩;rw [hcv];have hb2':Hid (Below w1.heap.size w1 w2):=hb2;clear hb2))
      exact⟨⟨k+1,by omega,by go_num,HT,(hb.out.trans (hb1.out.mono (by omega))).trans (hb2'.out.mono (by omega))⟩,by simp [intOf];omega⟩
  ·obtain rfl:k=ds.length:=by omega
   have HB:Hid (Below w.heap.size w wr):=((Below.refl _ _).alloc (ac _) _).trans (hb.out.mono (by omega));go_wp2;go_ret;exact⟨zd4 hto.out,HB.out⟩
theorem zjf(b:Bt)(p q:Nat)(cc:Nat)(ev:Value)(w:World)(eb ef:Addr)(hI:zaj)(g:Gl w eb ef)(hpw:Pw w)(h:Hid (∀j u,(b.clock.map I)[j]?=some u->w.cell? ⟨p,q+j,none⟩=some u))(hp:p<w.heap.size)(hl:b.clock.length<=4)(hs:1<=b.s)(hs':b.s<=30):
  Calls prog 192 #[batV b (some ⟨p,q,none⟩) cc ev] w fun e w'=>zca (clkOk b) eb e∧Below w.heap.size w w':=by
 have hE:=g.errBatch;have hz:=zad hE;have hpw':Hid (Pw w):=hpw;clear g hpw;go_enter func192,ntmps192;go_wp2_with fail
 go_loop [8] (fun i=>∃k:Nat,k<=b.clock.length∧i=I k∧Hid (clkTo b k=true)) (fun i=>b.clock.length - (intOf i).toNat)
 case atStart=>exact⟨0,az _,rfl,rfl⟩
 case round=>
  obtain⟨k,hk,rfl,hto⟩:=hrel;by_cases hlt:k<b.clock.length
  ·have hc:w.cell? ⟨p,q+k,none⟩=some (I (b.clock.getD k 0)):=h.out k _ (by simp [hlt])
   have HC:Hid (cOk b k=(decide (0<=b.clock.getD k 0) && decide (b.clock.getD k 0<=30) && (!((k:Int)==b.o) || (b.clock.getD k 0==b.s - 1)))):=rfl;generalize b.clock.getD k 0=z at hc HC;cases hin:(decide (0<=z) && decide (z<=30))
   ·have HF:Hid (clkOk b=false):=clkTo_no b _ k hlt (by rw [HC.out,hin];rfl)
    go_wp2_with (first | (go_at_call 97;refine(zai _ _ _ _).mono ?_;rintro e w' ⟨rfl,h⟩;subst h))
    go_region_held3 (fun w'=>w'.cell? ⟨0,0,none⟩=some (Sent eb)) (first | go_keep | (refine zaa hb ?_;go_keep))
     (first | (go_at_call 173;refine(hI k _ (by omega) ?_).mono ?_;exact hpw'.out.kept ((Below.refl _ _).alloc (ac _) _).drew;rintro e w' ⟨⟨st,hst,rfl⟩,hb⟩;have hcat:¬9223372036854775807<9+st.size:=by omega))
    go_wp2;go_ret;exact⟨zbl HF.out,((Below.refl _ _).alloc (ac _) _).drew.trans (hb.mono (by simp))⟩
   ·cases hko:((k:Int)==b.o)
    ·have HT:Hid (clkTo b (k+1)=true):=by show(clkTo b k && cOk b k)=true;rw [hto.out,HC.out,hin,hko];rfl
     go_wp2_with (first | (go_at_call 97;refine(zai _ _ _ _).mono ?_;rintro e w' ⟨rfl,h⟩;subst h))
     exact⟨⟨k+1,by omega,by go_num,HT⟩,by simp [intOf];omega⟩
    ·cases hzs:(z==b.s - 1)
     ·have hzs':(z !=b.s - 1)=true:=by simpa using hzs
      have HF:Hid (clkOk b=false):=clkTo_no b _ k hlt (by rw [HC.out,hin,hko,hzs];rfl);go_wp2_with (first | (go_at_call 97;refine(zai _ _ _ _).mono ?_;rintro e w' ⟨rfl,h⟩;subst h))
      go_region_held3 (fun w'=>w'.cell? ⟨0,0,none⟩=some (Sent eb)) (first | go_keep | (refine zaa hb ?_;go_keep))
       (first | (go_at_call 173;refine(hI k _ (by omega) ?_).mono ?_;exact hpw'.out.kept ((Below.refl _ _).alloc (ac _) _).drew;rintro e w' ⟨⟨st,hst,rfl⟩,hb⟩;have hcat:¬9223372036854775807<9+st.size:=by omega))
      go_wp2;go_ret;exact⟨zbl HF.out,((Below.refl _ _).alloc (ac _) _).drew.trans (hb.mono (by simp))⟩
     ·have hzs':(z !=b.s - 1)=false:=by simpa using hzs
      have HT:Hid (clkTo b (k+1)=true):=by show(clkTo b k && cOk b k)=true;rw [hto.out,HC.out,hin,hko,hzs];rfl
      go_wp2_with (first | (go_at_call 97;refine(zai _ _ _ _).mono ?_;rintro e w' ⟨rfl,h⟩;subst h))
      exact⟨⟨k+1,by omega,by go_num,HT⟩,by simp [intOf];omega⟩
  ·obtain rfl:k=b.clock.length:=by omega
   go_wp2;go_ret;exact⟨zd4 hto.out,(Below.refl _ _).alloc (ac _) _⟩
theorem zlb(b:Bt)(ca:Option Addr)(cc:Nat)(ev:Value)(w:World)(eb ef:Addr)(hI:zaj)(g:Gl w eb ef)(hp:Pw w)(h:At w ca (b.clock.map I))(hl:b.clock.length<=4)(h2:2<=b.clock.length)(hs:1<=b.s)(hs':b.s<=30):
  Calls prog 192 #[batV b ca cc ev] w fun e w'=>zca (clkOk b) eb e∧Below w.heap.size w w':=by
 obtain⟨p,q,rfl,hlt,hc⟩:=h.first (by simp;omega);exact zjf b p q cc ev w eb ef hI g hp hc hlt hl hs hs'
theorem zla(h0 h1 h2 h3 h4:Value)(i:Int)(da:Option Addr)(dc:Nat)(w:World):
  Calls prog 194 #[.agg #[h0,h1,h2,h3,h4],I i, .slice da 0 dc] w fun e w'=>e= .returned .nilIface∧Below w.heap.size w w':=by
 go_enter func194,ntmps194;go_wp2_with fail
 go_rounds 1
 go_ret;exact⟨rfl,(Below.refl _ _).alloc (ac _) _⟩
theorem zlz(b:Bt)(ca:Option Addr)(cc:Nat)(ev:Value)(i:Int)(ds:List Dt)(da:Option Addr)(dc:Nat)(w:World)(eb ef:Addr)(hI:zaj)(g:Gl w eb ef)(hpw:Pw w)(hr:Right b)(h:At w ca (b.clock.map I))
  (hd:At w da (flat zac ds)) (hl:ds.length<=150):
  Calls prog 194 #[batV b ca cc ev,I i, .slice da ds.length dc] w fun e w'=>zca (dotsOk b i ds) eb e∧Below w.heap.size w w':=by
 rcases Nat.eq_zero_or_pos ds.length with hz | hz
 ·obtain rfl:=aw hz
  refine(zla _ _ _ _ _ i da dc w).mono ?_;rintro e w' ⟨rfl,hb⟩;exact⟨zd4 rfl,hb⟩
 ·obtain⟨p,q,rfl,hp,hc⟩:=zhs hd hz
  exact zk9 b ca cc ev i ds p q dc w eb ef hI g hpw hr h hc hp hl
theorem zhr{ok:Bool}{eb:Addr}{v:Value}(h:ok=false)(hv:zgf eb v):zca ok eb (.returned v):=by
 rw [h];exact⟨_,rfl,hv⟩
def hNum(b:Bt):Prop:=(2<=b.clock.length∧b.clock.length<=4)∧(0<=b.o∧b.o<=(b.clock.length:Int) - 1)∧(1<=b.s∧b.s<=30)∧(1<=b.t∧b.t<=200)∧(1<=b.effs.length∧b.effs.length<=5)
theorem headNo(b:Bt)(h:¬hNum b):headOk b=false:=by
 rw [←Bool.not_eq_true];intro hh;simp only [headOk,ak,aq] at hh;obtain⟨⟨⟨⟨⟨h1,h2⟩,h3⟩,h4⟩,h5⟩,_⟩:=hh;exact h ⟨h1,h2,h3,h4,h5⟩
theorem headYes(b:Bt)(h:hNum b):headOk b=clkOk b:=by
 obtain⟨h1,h2,h3,h4,h5⟩:=h;simp [headOk,h1,h2,h3,h4,h5]
theorem zod(b:Bt)(ca ea:Option Addr)(cc ec:Nat)(w:World)(eb ef:Addr)(g:Gl w eb ef)(hn:b.clock.length<=9223372036854775807)(hn':b.effs.length<=9223372036854775807)(hh:¬hNum b):
  Calls prog 171 #[bV b ca ea cc ec] w fun e w'=>zca (headOk b) eb e∧Below w.heap.size w w':=by
 have hE:=g.errBatch;have hz:=zad hE;have HN:Hid (¬hNum b):=hh;clear g hh;go_enter func171,ntmps171;go_wp2_with (first | (go_at_call 97;refine(zai _ _ _ _).mono ?_;rintro e w' ⟨rfl,h⟩;subst h))
 all_goals first | (go_ret;exact⟨zbl (headNo b HN.out),(Below.refl _ _).alloc (ac _) _⟩) | (exfalso;apply HN.out;unfold hNum;simp_all;omega)
theorem zlx(b:Bt)(ca ea:Option Addr)(cc ec:Nat)(w:World)(eb ef:Addr)(hI:zaj)(g:Gl w eb ef)(hp:Pw w)(h:At w ca (b.clock.map I))(hh:hNum b):
  Calls prog 171 #[bV b ca ea cc ec] w fun e w'=>zca (headOk b) eb e∧Below w.heap.size w w':=by
 rw [headYes b hh];obtain⟨⟨a1,a2⟩,⟨a3,a4⟩,⟨a5,a6⟩,⟨a7,a8⟩,⟨a9,a10⟩⟩:=hh;have k1:(2:Int)<=(b.clock.length:Int):=by omega
 have k2:(b.clock.length:Int)<=4:=by omega
 have k9:(1:Int)<=(b.effs.length:Int):=by omega
 have k10:(b.effs.length:Int)<=5:=by omega
 have hpw':Hid (Pw w):=hp;have g':Hid (Gl w eb ef):=g;have h':Hid (At w ca (b.clock.map I)):=h;have HB:Hid (Below w.heap.size w (w.alloc (.cells #[I b.o,I b.s,I b.t, .slice ca b.clock.length cc, .slice ea b.effs.length ec] 134))):=(Below.refl _ _).alloc (ac _) _;clear g hp h;go_enter func171,ntmps171;go_wp2_with (first | (go_at_call 97;refine(zai _ _ _ _).mono ?_;rintro e w' ⟨rfl,h⟩;subst h))
 refine(zlb b ca cc (.slice ea b.effs.length ec) _ eb ef hI (g'.out.kept HB.out) (hpw'.out.kept HB.out) (h'.out.kept HB.out) a2 a1 a5 a6).mono ?_;rintro e w2 ⟨he,hb⟩;have hb2:Hid (Below w.heap.size w w2):=HB.out.trans (hb.mono (by simp));unfold zca at he;cases hc:clkOk b
 ·rw [hc] at he
  obtain⟨v,rfl,hv⟩:=he;have HV:Hid (zgf eb v):=hv;go_wp2;go_ret;exact⟨zhr hc HV.out,hb2.out⟩
 ·rw [hc] at he
  obtain rfl:=he;go_wp2;go_ret;exact⟨zd4 hc,hb2.out⟩
theorem zly(b:Bt)(ca ea:Option Addr)(cc ec:Nat)(w:World)(eb ef:Addr)(hI:zaj)(g:Gl w eb ef)(hp:Pw w)(h:At w ca (b.clock.map I))(hn:b.clock.length<=9223372036854775807)(hn':b.effs.length<=9223372036854775807):
  Calls prog 171 #[bV b ca ea cc ec] w fun e w'=>zca (headOk b) eb e∧Below w.heap.size w w':=by
 by_cases hh:hNum b
 ·exact zlx b ca ea cc ec w eb ef hI g hp h hh
 ·exact zod b ca ea cc ec w eb ef g hn hn' hh
