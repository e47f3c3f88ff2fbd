import Derived.Test.YtfmcngncaffloabGreatDoorJ33CsB
set_option maxHeartbeats 1600000
namespace Go.Proofs.YtfmcngncaffloabGreatDoor
open Go.RowKit Go.Proofs.Tryz
set_option maxRecDepth 100000
def addM(ms:List Ms)(m:Ms):List Ms:=if ms.length<40 then ms++ [m] else ms
theorem zwd(own:Clr)(c pp ch:Nat)(pv:Value)(ms:List Ms)(m:Ms)(w:World)(h:PoIn w own c pp ch pv ms)(hl:¬ms.length<40):
  Calls prog 92 #[.pointer (some ⟨pp,0,none⟩),msV m] w fun e w'=>e= .returned (.tuple #[])∧PoOk w own c pp ch ms w':=by
 obtain⟨wA,hwA⟩:∃wA,wA=w.alloc (.cells (msC m) 160):=⟨_,rfl⟩
 have HBA:Hid (Below w.heap.size w wA):=by rw [hwA];exact(Below.refl _ _).alloc (ac _) _
 have HP:Hid (PoIn wA own c pp ch pv ms):=h.keep (fun b hb _=>HBA.out.block b hb) (Ext.refl _ _);have HPW:Hid (PoIn w own c pp ch pv ms):=h;have c0:wA.cell? ⟨pp,0,none⟩=some (.chan (some ch)):=HP.out.blk.cell 0;clear h;refine ze8 func92 rfl ?_;simp only [ntmps92,List.size_toArray,aJ,List.length_nil,Nat.reduceAdd,Nat.reduceSub,Array.replicate_succ,Array.replicate_zero,List.push_toArray,List.append_toArray,List.nil_append,aR];refine zcr (zdn ?_);go_wp2_with fail
 change wpN _ _ _ _ (w.alloc (.cells (msC m) 160));rw [←hwA];clear hwA;refine zcr (zdn ?_);go_wp2_with fail
 obtain⟨buf,sn,rn,hch,hbuf⟩:=HP.out.chn;refine zcr (zgp ?_);change wpR _ _ _ [0,1,2] _ _;refine zjp (i:=0) (cases:= #[Go.Conc.scase ch (.agg #[]) (.agg #[])]) (blocking:=false) (shape:= .select) (w1:=wA) rfl rfl (by simp [go_sem,execOp,Go.Conc.scase,Act.eval]) (fun fr cs es hs=>Go.Conc.step_lone_select_send_full hs hch (by omega)) ?_;simp only [Act.put,List.getElem_toArray,List.getElem_cons_zero,List.setIfInBounds_toArray,List.set_cons_succ,List.set_cons_zero];refine zcp (i:=1) rfl rfl (v:= .int .i64 (-1)) (w':=wA) (by simp [go_sem,execOp,Act.eval]) ?_;simp only [Act.put,List.getElem_toArray,List.getElem_cons_zero,List.getElem_cons_succ,List.setIfInBounds_toArray,List.set_cons_succ,List.set_cons_zero];refine zcp (i:=2) rfl rfl (v:= .bool false) (w':=wA) (by simp [go_sem,execOp,Act.eval]) ?_;simp only [Act.put,List.getElem_toArray,List.getElem_cons_zero,List.getElem_cons_succ,List.setIfInBounds_toArray,List.set_cons_succ,List.set_cons_zero];refine zna (zdn ?_);have HE:Hid (PoOk w own c pp ch ms wA):=⟨newTo own w.heap.size 0,pv,zab _ _ _,HPW.out.below HBA.out,Tch.below HBA.out⟩
 clear HP HPW hch hbuf c0;go_wp2;go_end0;exact⟨rfl,HE.out⟩
theorem zpm(own:Clr)(c pp ch:Nat)(pv:Value)(ms:List Ms)(m:Ms)(w:World)(h:PoIn w own c pp ch pv ms):
  Calls prog 92 #[.pointer (some ⟨pp,0,none⟩),msV m] w fun e w'=>e= .returned (.tuple #[])∧PoOk w own c pp ch (addM ms m) w':=by
 unfold addM;by_cases hl:ms.length<40
 ·rw [aA hl];exact zwc own c pp ch pv ms m w h hl
 ·rw [ap hl];exact zwd own c pp ch pv ms m w h hl
theorem zh5(own:Clr)(c pp ch:Nat)(pv:Value)(ms:List Ms)(k f t:Int)(bs:List UInt8)(w:World)(h:PoIn w own c pp ch pv ms):
  Calls prog 59 #[.pointer (some ⟨pp,0,none⟩),I k,I f,I t, .string ⟨bs.toArray⟩] w fun e w'=>e= .returned (.tuple #[])∧PoOk w own c pp ch (addM ms ⟨k,f,t,bs,false⟩) w':=by
 have HP:Hid (PoIn w own c pp ch pv ms):=h;clear h;go_enter func59,ntmps59;go_wp2_with fail
 refine(zpm own c pp ch pv ms ⟨k,f,t,bs,false⟩ w HP.out).mono ?_;rintro e w1 ⟨rfl,h1⟩;have HE:Hid (PoOk w own c pp ch (addM ms ⟨k,f,t,bs,false⟩) w1):=h1;clear h1;go_wp2;go_end0;exact⟨rfl,HE.out⟩
def sprA(ms:List Ms)(f:Nat)(fr:List UInt8):Nat->List Ms
 | 0=>ms
 | k+1=>if k=f then sprA ms f fr k else addM (sprA ms f fr k) ⟨1,f,k,fr,false⟩
theorem zom(own:Clr)(s rg cc pp ch:Nat)(pv:Value)(prs:List Nat)(S:Sto)(f:Nat)(fr:List UInt8)(w w0:World)(eb ef:Addr)(hen:Env w0 w own eb ef)(h:StIn w own s rg cc pp ch pv prs S):
  Calls prog 42 #[.pointer (some ⟨s,0,none⟩),I f, .string ⟨fr.toArray⟩] w fun e w'=>e= .returned (.tuple #[])∧StOk w0 w own s {S with msgs:=sprA S.msgs f fr S.reps.length} eb ef w':=by
 have HS:Hid (StOk w0 w own s {S with msgs:=sprA S.msgs f fr 0} eb ef w):=⟨own,rg,cc,pp,ch,pv,prs,Ext.refl _ _,h,hen,Tch.refl _ _⟩
 have c0:w.cell? ⟨s,0,none⟩=some (.slice (some ⟨rg,0,none⟩) S.reps.length cc):=h.blk.cell 0;have HM:Hid (S.reps.length<=4):=h.most;clear h hen;go_enter func42,ntmps42;go_wp2_with fail
 go_loopw [12] (fun x wX=>∃k:Nat,k<=S.reps.length∧x=I k∧Hid (StOk w0 w own s {S with msgs:=sprA S.msgs f fr k} eb ef wX)) (fun x _=>S.reps.length - (intOf x).toNat)
 case atStart=>exact⟨0,az _,rfl,HS⟩
 case round=>
  obtain⟨k,hk,rfl,HK⟩:=hrel;clear HS c0;have hk4:k<=4:=by have:=HM.out;omega
  by_cases hlt:k<S.reps.length
  ·obtain⟨own',rg',cc',pp',ch',pv',prs',hE,hS,hen',hT⟩:=HK.out
   have HS':Hid (StIn wr own' s rg' cc' pp' ch' pv' prs' {S with msgs:=sprA S.msgs f fr k}):=hS;have HEN':Hid (Env w0 wr own' eb ef):=hen';have HE':Hid (Ext own own' w.heap.size):=hE;have HT':Hid (Tch (fun k=>1<=own k∧own k<=100) w wr):=hT;have c1:wr.cell? ⟨s,1,none⟩=some (.pointer (some ⟨pp',0,none⟩)):=hS.blk.cell 1;have hki:(k:Int)<S.reps.length:=by omega
   clear hE hS hen' hT;by_cases hkf:k=f
   ·have HN:Hid (StOk w0 w own s {S with msgs:=sprA S.msgs f fr (k+1)} eb ef wr):=by
     have e:sprA S.msgs f fr (k+1)=sprA S.msgs f fr k:=by rw [sprA,aA hkf]
     show StOk _ _ _ _ _ _ _ _;rw [e];exact HK.out
    have hb:((k:Int) !=(f:Int))=false:=by rw [hkf];simp
    have hb2:((k:Int)==(f:Int))=true:=by rw [hkf];simp
    clear hkf HK;go_wp2_with fail
    go_roundw
    case rel=>exact⟨k+1,hlt,by go_num,HN⟩
    case measure=>simp [intOf];omega
   ·have hb:((k:Int) !=(f:Int))=true:=by simp;omega
    have hb2:((k:Int)==(f:Int))=false:=by simp;omega
    have hkfi:¬(k:Int)=(f:Int):=by omega
    have HSE:Hid (sprA S.msgs f fr (k+1)=addM (sprA S.msgs f fr k) ⟨1,f,k,fr,false⟩):=by show _=_;rw [sprA,ap hkf]
    clear HK;go_wp2_with fail
    refine(zh5 own' 100 pp' ch' pv' (sprA S.msgs f fr k) 1 f k fr wr HS'.out.post).mono ?_;rintro e w2 ⟨rfl,h2⟩
    have HN:Hid (StOk w0 w own s {S with msgs:=sprA S.msgs f fr (k+1)} eb ef w2):=by
     show StOk _ _ _ _ _ _ _ _;rw [HSE.out];exact StOk.from HE'.out HT'.out (StOk.po HS'.out HEN'.out h2)
    clear h2;go_wp2_with fail
    go_roundw
    case rel=>exact⟨k+1,hlt,by go_num,HN⟩
    case measure=>simp [intOf];omega
  ·have hki:¬(k:Int)<S.reps.length:=by omega
   have HN:Hid (StOk w0 w own s {S with msgs:=sprA S.msgs f fr S.reps.length} eb ef wr):=by
    have:k=S.reps.length:=by omega
    rw [this] at HK;exact HK
   clear HK;go_wp2;go_end0;exact⟨rfl,HN.out⟩
theorem zv8(own:Clr)(c pp ch:Nat)(pv:Value)(ms:List Ms)(i:Int)(w:World)(h:PoIn w own c pp ch pv ms)(hi:¬(0<=i∧i<ms.length)):
  Calls prog 79 #[.pointer (some ⟨pp,0,none⟩),I i] w fun e w'=>e= .returned (I 14)∧w'=w:=by
 have HP:Hid (PoIn w own c pp ch pv ms):=h;have hd:decide (0<=i∧i<(ms.length:Int))=false:=decide_eq_false hi;clear h hi;go_enter func79,ntmps79;go_wp2_with fail
 refine(zdz own c pp ch _ ms i w HP.out).mono ?_;rintro e w1 ⟨rfl,hw1⟩;subst hw1;rw [hd];go_wp2;go_ret;exact⟨rfl,rfl⟩
theorem zr7(own:Clr)(c pp ch:Nat)(pv:Value)(ms:List Ms)(i:Nat)(m:Ms)(w:World)(h:PoIn w own c pp ch pv ms)(hi:ms[i]?=some m):
  Calls prog 79 #[.pointer (some ⟨pp,0,none⟩),I i] w fun e w'=>e= .returned (I 0)∧PoOk w own c pp ch (addM ms m) w':=by
 obtain⟨hk,rfl⟩:=af.1 hi;obtain⟨g,cp,rfl⟩:=zc6 h.row (by omega);have HP:Hid (PoIn w own c pp ch (.slice (some ⟨g,0,none⟩) ms.length cp) ms):=h;have c1:w.cell? ⟨pp,1,none⟩=some (.slice (some ⟨g,0,none⟩) ms.length cp):=h.blk.cell 1;obtain⟨e0,e1,e2,e3,e4⟩:=zf4 h.row i hk;have hd:decide (0<=(i:Int)∧(i:Int)<(ms.length:Int))=true:=aT ⟨by omega,by omega⟩;have hki:(i:Int)<ms.length:=by omega
 clear h hi;generalize ms[i]=m at *
 go_enter func79,ntmps79;go_wp2_with fail
 refine(zdz own c pp ch _ ms i w HP.out).mono ?_;rintro e w1 ⟨rfl,hw1⟩;subst hw1;rw [hd];go_wp2_with fail
 refine(zpm own c pp ch _ ms m w1 HP.out).mono ?_;rintro e w2 ⟨rfl,h2⟩;have HE:Hid (PoOk w1 own c pp ch (addM ms m) w2):=h2;clear h2;go_wp2;go_ret;exact⟨rfl,HE.out⟩
theorem zv9(own:Clr)(c pp ch:Nat)(pv:Value)(ms:List Ms)(i j k:Int)(w:World)(h:PoIn w own c pp ch pv ms)(hi:¬(0<=i∧i<ms.length)):
  Calls prog 80 #[.pointer (some ⟨pp,0,none⟩),I i,I j,I k] w fun e w'=>e= .returned (I 14)∧w'=w:=by
 have HP:Hid (PoIn w own c pp ch pv ms):=h;have hd:decide (0<=i∧i<(ms.length:Int))=false:=decide_eq_false hi;clear h hi;go_enter func80,ntmps80;go_wp2_with fail
 refine(zdz own c pp ch _ ms i w HP.out).mono ?_;rintro e w1 ⟨rfl,hw1⟩;subst hw1;rw [hd];go_wp2;go_ret;exact⟨rfl,rfl⟩
def zgt(m:Ms)(k:Int):Int:=if m.sp=true then 14 else if k<1∨k>255 then 10 else 11
theorem zr9(own:Clr)(c pp ch:Nat)(pv:Value)(ms:List Ms)(i:Nat)(j k:Int)(m:Ms)(w:World)(h:PoIn w own c pp ch pv ms)(hi:ms[i]?=some m)(hb:m.sp=true∨(k<1∨k>255)∨(j<0∨j≥m.bs.length)):
  Calls prog 80 #[.pointer (some ⟨pp,0,none⟩),I i,I j,I k] w fun e w'=>e= .returned (I (zgt m k))∧w'=w:=by
 obtain⟨hk,rfl⟩:=af.1 hi;obtain⟨g,cp,rfl⟩:=zc6 h.row (by omega);have HP:Hid (PoIn w own c pp ch (.slice (some ⟨g,0,none⟩) ms.length cp) ms):=h;have c1:w.cell? ⟨pp,1,none⟩=some (.slice (some ⟨g,0,none⟩) ms.length cp):=h.blk.cell 1;obtain⟨e0,e1,e2,e3,e4⟩:=zf4 h.row i hk;have hd:decide (0<=(i:Int)∧(i:Int)<(ms.length:Int))=true:=aT ⟨by omega,by omega⟩;have hki:(i:Int)<ms.length:=by omega
 clear h hi;generalize ms[i]=m at *
 obtain⟨z,HZ⟩:∃z,Hid (zgt m k=z):=⟨_,rfl⟩
 rw [HZ.out];go_enter func80,ntmps80;go_wp2_with fail
 refine(zdz own c pp ch _ ms i w HP.out).mono ?_;rintro e w1 ⟨rfl,hw1⟩;subst hw1;rw [hd];unfold zgt at HZ;by_cases hs:m.sp=true
 ·have hz:=HZ.out
  rw [aA hs] at hz;have HD:Hid (14=z):=hz;rw [hs] at e4;clear hz HZ hb;go_wp2;go_ret;exact⟨by rw [←HD.out];rfl,rfl⟩
 ·have hs':m.sp=false:=by simpa using hs
  rw [hs'] at e4;by_cases hk1:k<1
  ·have hz:=HZ.out
   rw [ap hs,aA (Or.inl hk1)] at hz;have HD:Hid (10=z):=hz;clear hz HZ hb;go_wp2;go_ret;exact⟨by rw [←HD.out];rfl,rfl⟩
  ·by_cases hk2:k>255
   ·have hz:=HZ.out
    rw [ap hs,aA (Or.inr hk2)] at hz;have HD:Hid (10=z):=hz;clear hz HZ hb;go_wp2;go_ret;exact⟨by rw [←HD.out];rfl,rfl⟩
   ·have hz:=HZ.out
    rw [ap hs,ap (by omega)] at hz;have HD:Hid (11=z):=hz;clear hz HZ;by_cases hj0:j<0
    ·clear hb
     go_wp2;go_ret;exact⟨by rw [←HD.out];rfl,rfl⟩
    ·have hj1:(m.bs.length:Int)<=j:=by
      rcases hb with q | q | q
      ·exact absurd q hs
      ·omega
      ·omega
     clear hb;go_wp2;go_ret;exact⟨by rw [←HD.out];rfl,rfl⟩
def UpBad(w:World)(sv:Value)(r e:Int):Prop:=e ≠ 0∧Calls prog 37 #[sv,I r] w fun x w'=>x= .returned (.tuple #[.pointer none,I e])∧w'=w
def RpBad(w:World)(sv:Value)(r e:Int):Prop:=e ≠ 0∧Calls prog 35 #[sv,I r] w fun x w'=>x= .returned (.tuple #[.pointer none,I e])∧w'=w
theorem zem(own:Clr)(s rg cc pp ch:Nat)(pv:Value)(prs:List Nat)(S:Sto)(r:Int)(w:World)(h:StIn w own s rg cc pp ch pv prs S)(hr:¬(0<=r∧r<S.reps.length)):RpBad w (.pointer (some ⟨s,0,none⟩)) r 3:=by
 refine⟨by omega, ?_⟩;have HC:Hid (Calls prog 58 #[.pointer (some ⟨s,0,none⟩),I r] w fun e w'=>e= .returned (.bool (decide (0<=r∧r<S.reps.length)))∧w'=w):=zhb own s rg cc pp ch pv prs S r w h;have hd:decide (0<=r∧r<(S.reps.length:Int))=false:=decide_eq_false hr;rw [hd] at HC;clear h hd hr;go_enter func35,ntmps35;go_wp2_with fail
 refine HC.out.mono ?_;rintro e w1 ⟨rfl,hw1⟩;subst hw1;go_wp2;go_ret2;exact⟨rfl,rfl⟩
theorem RpBad.up{w:World}{sv:Value}{r e:Int}(h:RpBad w sv r e):UpBad w sv r e:=by
 refine⟨h.1, ?_⟩;have he:=h.1;have HC:=h.2;clear h;go_enter func37,ntmps37;go_wp2_with fail
 refine HC.mono ?_;rintro e w1 ⟨rfl,hw1⟩;subst hw1;clear HC;go_wp2;go_ret2;exact⟨rfl,rfl⟩
section
variable {w : World} {sv : Value} {r e : Int}
theorem zrj(h:UpBad w sv r e):Calls prog 16 #[sv,I r] w fun x w'=>x= .returned (I e)∧w'=w:=by
 have he:=h.1;have HC:=h.2;clear h;go_enter func16,ntmps16;go_wp2_with fail
 refine HC.mono ?_;rintro e w1 ⟨rfl,hw1⟩;subst hw1;clear HC;go_wp2;go_ret;exact⟨rfl,rfl⟩
theorem zrl(h:UpBad w sv r e):Calls prog 27 #[sv,I r] w fun x w'=>x= .returned (I e)∧w'=w:=by
 have he:=h.1;have HC:=h.2;clear h;go_enter func27,ntmps27;go_wp2_with fail
 refine HC.mono ?_;rintro e w1 ⟨rfl,hw1⟩;subst hw1;clear HC;go_wp2;go_ret;exact⟨rfl,rfl⟩
theorem wdo_bad(op k x y:Int)(h:UpBad w sv r e):Calls prog 17 #[sv,I r,I op,I k,I x,I y] w fun x w'=>x= .returned (I e)∧w'=w:=by
 have he:=h.1;have HC:=h.2;clear h;go_enter func17,ntmps17;go_wp2_with fail
 refine HC.mono ?_;rintro e w1 ⟨rfl,hw1⟩;subst hw1;clear HC;go_wp2;go_ret;exact⟨rfl,rfl⟩
theorem zl1(k:Int)(h:UpBad w sv r e):Calls prog 14 #[sv,I r,I k] w fun x w'=>x= .returned (.tuple #[.slice none 0 0,I e])∧w'=w:=by
 have he:=h.1;have HC:=h.2;clear h;go_enter func14,ntmps14;go_wp2_with fail
 refine HC.mono ?_;rintro e w1 ⟨rfl,hw1⟩;subst hw1;clear HC;go_wp2;go_ret2;exact⟨rfl,rfl⟩
theorem zit(h:UpBad w sv r e):Calls prog 18 #[sv,I r] w fun x w'=>x= .returned (.tuple #[I 0,I e])∧w'=w:=by
 have he:=h.1;have HC:=h.2;clear h;go_enter func18,ntmps18;go_wp2_with fail
 refine HC.mono ?_;rintro e w1 ⟨rfl,hw1⟩;subst hw1;clear HC;go_wp2;go_ret2;exact⟨rfl,rfl⟩
end
section
variable {w : World} {own : Clr} {s rg cc pp ch : Nat} {pv : Value} {prs : List Nat} {S : Sto} {r : Nat} {R : Rp}
theorem zg7(h:StIn w own s rg cc pp ch pv prs S)(hr:r<prs.length)(hR:S.reps[r]?=some R)(hst:R.st ≠ 2)(op k x y z:Int)(P:World->Prop)(HC:Calls prog 40 #[.pointer (some ⟨prs[r],0,none⟩),I op,I k,I x,I y] w fun e w'=>e= .returned (I z)∧P w'):
  Calls prog 17 #[.pointer (some ⟨s,0,none⟩),I r,I op,I k,I x,I y] w fun e w'=>e= .returned (I z)∧P w':=by
 have HU:Hid (Calls prog 37 #[.pointer (some ⟨s,0,none⟩),I r] w fun e w'=>e= .returned (.tuple #[.pointer (some ⟨prs[r],0,none⟩),I 0])∧w'=w):=zbn own s rg cc pp ch pv prs S r hr R hR hst w h;have HC:Hid (Calls prog 40 #[.pointer (some ⟨prs[r],0,none⟩),I op,I k,I x,I y] w fun e w'=>e= .returned (I z)∧P w'):=HC;clear h hR hst;generalize prs[r]=p at *
 go_enter func17,ntmps17;go_wp2_with fail
 refine HU.out.mono ?_;rintro e w1 ⟨rfl,hw1⟩;subst hw1;go_wp2_with fail
 refine HC.out.mono ?_;rintro e w2 ⟨rfl,h2⟩;have HE:Hid (P w2):=h2;clear h2;go_wp2;go_ret;exact⟨rfl,HE.out⟩
theorem zyb(h:StIn w own s rg cc pp ch pv prs S)(hR:S.reps[r]?=some R)(hup:Rup R)(k:Int)(hk:¬(0<=k∧k<8)):
  Calls prog 14 #[.pointer (some ⟨s,0,none⟩),I r,I k] w fun e w'=>e= .returned (.tuple #[.slice none 0 0,I 8])∧Below w.heap.size w w':=by
 obtain⟨hr,cg,cc',hp,mv,hv,ev,hs,es,hrp⟩:=h.prl hR;have HU:Hid (Calls prog 37 #[.pointer (some ⟨s,0,none⟩),I r] w fun e w'=>e= .returned (.tuple #[.pointer (some ⟨prs[r],0,none⟩),I 0])∧w'=w):=zbn own s rg cc pp ch pv prs S r hr R hR hup.up w h;have HC:=read_no own (1+11*r) prs[r] R cg cc' hp mv hv ev hs es k w hrp hup.ok.obs8 hk;clear h hrp hR hup;generalize prs[r]=p at *
 go_enter func14,ntmps14;go_wp2_with fail
 refine HU.out.mono ?_;rintro e w1 ⟨rfl,hw1⟩;subst hw1;go_wp2_with fail
 refine HC.mono ?_;rintro e w2 ⟨rfl,h2⟩;have HE:Hid (Below w1.heap.size w1 w2):=h2;clear h2;go_wp2;go_ret2;exact⟨rfl,HE.out⟩
theorem zne(h:StIn w own s rg cc pp ch pv prs S)(hR:S.reps[r]?=some R)(hup:Rup R)(h1:R.st ≠ 1):
  Calls prog 18 #[.pointer (some ⟨s,0,none⟩),I r] w fun e w'=>e= .returned (.tuple #[I 0,I 7])∧Below w.heap.size w w':=by
 obtain⟨hr,cg,cc',hp,mv,hv,ev,hs,es,hrp⟩:=h.prl hR;have HU:Hid (Calls prog 37 #[.pointer (some ⟨s,0,none⟩),I r] w fun e w'=>e= .returned (.tuple #[.pointer (some ⟨prs[r],0,none⟩),I 0])∧w'=w):=zbn own s rg cc pp ch pv prs S r hr R hR hup.up w h;have HC:=zq4 own (1+11*r) prs[r] R cg cc' hp mv hv ev hs es w hrp h1;clear h hrp hR hup h1;generalize prs[r]=p at *
 go_enter func18,ntmps18;go_wp2_with fail
 refine HU.out.mono ?_;rintro e w1 ⟨rfl,hw1⟩;subst hw1;go_wp2_with fail
 refine HC.mono ?_;rintro e w2 ⟨rfl,h2⟩;have HE:Hid (Below w1.heap.size w1 w2):=(by first | exact h2 | (rw [h2];exact Below.refl _ _))
 clear h2;go_wp2;go_ret2;exact⟨rfl,HE.out⟩
end
theorem StOk.more{w0 w w1 w2:World}{own:Clr}{s:Nat}{S:Sto}{eb ef:Addr}(h:StOk w0 w own s S eb ef w1)(hb:Below w1.heap.size w1 w2):StOk w0 w own s S eb ef w2:=by
 obtain⟨own',rg,cc,pp,ch,pv,prs,hE,hS,hen,hT⟩:=h;exact StOk.from hE hT (StOk.below hS hen hb)
theorem zdp(own:Clr)(s rg cc pp ch:Nat)(pv:Value)(prs:List Nat)(S:Sto)(r:Nat)(R:Rp)(hR:S.reps[r]?=some R)(hst:R.st=2)(w:World)(h:StIn w own s rg cc pp ch pv prs S):UpBad w (.pointer (some ⟨s,0,none⟩)) r 4:=by
 refine⟨by omega, ?_⟩;obtain⟨hr,cg,cc',hp,mv,hv,ev,hs,es,hrp⟩:=h.prl hR;have HR:Hid (RpIn w own (1+11*r) prs[r] R cg cc' hp mv hv ev hs es):=hrp;have hb:(R.st==2)=true:=by simp [hst]
 have HC:Hid (Calls prog 35 #[.pointer (some ⟨s,0,none⟩),I r] w fun e w'=>e= .returned (.tuple #[.pointer (some ⟨prs[r],0,none⟩),I 0])∧w'=w):=zdg own s rg cc pp ch pv prs S r hr w h;clear h hrp hR hst;generalize prs[r]=p at *
 go_enter func37,ntmps37;go_wp2_with fail
 refine HC.out.mono ?_;rintro e w1 ⟨rfl,hw1⟩;subst hw1;go_wp2_with fail
 refine(ziw own (1+11*r) p _ cg cc' hp mv hv ev hs es w1 HR.out).mono ?_;rintro e w2 ⟨rfl,hw2⟩;subst hw2;rw [hb];go_wp2;go_ret2;exact⟨rfl,rfl⟩
section
variable {w : World} {sv : Value} {r e : Int}
theorem zoq(to_:Int)(h:UpBad w sv r e):Calls prog 30 #[sv,I r,I to_] w fun x w'=>x= .returned (I e)∧w'=w:=by
 have he:=h.1;have HC:=h.2;clear h;go_enter func30,ntmps30;go_wp2_with fail
 refine HC.mono ?_;rintro e w1 ⟨rfl,hw1⟩;subst hw1;clear HC;go_wp2;go_ret;exact⟨rfl,rfl⟩
theorem zu4(h:UpBad w sv r e):Calls prog 31 #[sv,I r] w fun x w'=>x= .returned (I e)∧w'=w:=by
 have he:=h.1;have HC:=h.2;clear h;go_enter func31,ntmps31;go_wp2_with fail
 refine HC.mono ?_;rintro e w1 ⟨rfl,hw1⟩;subst hw1;clear HC;go_wp2;go_ret;exact⟨rfl,rfl⟩
theorem zrh(k:Int)(h:UpBad w sv r e):Calls prog 20 #[sv,I r,I k] w fun x w'=>x= .returned (I e)∧w'=w:=by
 have he:=h.1;have HC:=h.2;clear h;go_enter func20,ntmps20;go_wp2_with fail
 refine HC.mono ?_;rintro e w1 ⟨rfl,hw1⟩;subst hw1;clear HC;go_wp2;go_ret;exact⟨rfl,rfl⟩
theorem zu8(k:Int)(h:UpBad w sv r e):Calls prog 19 #[sv,I r,I k] w fun x w'=>x= .returned (I e)∧w'=w:=by
 have he:=h.1;have HC:=h.2;clear h;go_enter func19,ntmps19;go_wp2_with fail
 refine HC.mono ?_;rintro e w1 ⟨rfl,hw1⟩;subst hw1;clear HC;go_wp2;go_ret;exact⟨rfl,rfl⟩
theorem zm8(h:RpBad w sv r e):Calls prog 32 #[sv,I r] w fun x w'=>x= .returned (I e)∧w'=w:=by
 have he:=h.1;have HC:=h.2;clear h;go_enter func32,ntmps32;go_wp2_with fail
 refine HC.mono ?_;rintro e w1 ⟨rfl,hw1⟩;subst hw1;clear HC;go_wp2;go_ret;exact⟨rfl,rfl⟩
end
theorem zoo(own:Clr)(s rg cc pp ch:Nat)(pv:Value)(prs:List Nat)(S:Sto)(i:Int)(w w0:World)(eb ef:Addr)(hen:Env w0 w own eb ef)(h:StIn w own s rg cc pp ch pv prs S)(hi:¬(0<=i∧i<S.msgs.length)):
  Calls prog 28 #[.pointer (some ⟨s,0,none⟩),I i] w fun e w'=>e= .returned (I 14)∧StOk w0 w own s S eb ef w':=by
 have HC:Hid (Calls prog 56 #[.pointer (some ⟨pp,0,none⟩),I i] w fun e w'=>e= .returned (.tuple #[.agg #[.int .i64 0, .int .i64 0, .int .i64 0, .string ⟨#[]⟩],I 14])∧Below w.heap.size w w'):=zpi own 100 pp ch pv S.msgs i w h.post hi;have c1:w.cell? ⟨s,1,none⟩=some (.pointer (some ⟨pp,0,none⟩)):=h.blk.cell 1;have HK:Hid (∀w',Below w.heap.size w w'->StOk w0 w own s S eb ef w'):=fun w' hb=>StOk.below h hen hb
 clear h hen hi;go_enter func28,ntmps28;go_wp2_with fail
 refine HC.out.mono ?_;rintro e w1 ⟨rfl,h1⟩;have HE:Hid (Below w.heap.size w w1):=h1;clear h1 HC;go_wp2;go_ret;exact⟨rfl,HK.out _ (by first | exact HE.out | exact HE.out.alloc HE.out.size _)⟩
theorem zyd(own:Clr)(s rg cc pp ch:Nat)(pv:Value)(prs:List Nat)(S:Sto)(i:Int)(w w0:World)(eb ef:Addr)(hen:Env w0 w own eb ef)(h:StIn w own s rg cc pp ch pv prs S)(hi:¬(0<=i∧i<S.msgs.length)):
  Calls prog 33 #[.pointer (some ⟨s,0,none⟩),I i] w fun e w'=>e= .returned (I 14)∧StOk w0 w own s S eb ef w':=by
 have HC:Hid (Calls prog 56 #[.pointer (some ⟨pp,0,none⟩),I i] w fun e w'=>e= .returned (.tuple #[.agg #[.int .i64 0, .int .i64 0, .int .i64 0, .string ⟨#[]⟩],I 14])∧Below w.heap.size w w'):=zpi own 100 pp ch pv S.msgs i w h.post hi;have c1:w.cell? ⟨s,1,none⟩=some (.pointer (some ⟨pp,0,none⟩)):=h.blk.cell 1;have HK:Hid (∀w',Below w.heap.size w w'->StOk w0 w own s S eb ef w'):=fun w' hb=>StOk.below h hen hb
 clear h hen hi;go_enter func33,ntmps33;go_wp2_with fail
 refine HC.out.mono ?_;rintro e w1 ⟨rfl,h1⟩;have HE:Hid (Below w.heap.size w w1):=h1;clear h1 HC;go_wp2;go_ret;exact⟨rfl,HK.out _ (by first | exact HE.out | exact HE.out.alloc HE.out.size _)⟩
theorem zu2(own:Clr)(s rg cc pp ch:Nat)(pv:Value)(prs:List Nat)(S:Sto)(i:Int)(w:World)(h:StIn w own s rg cc pp ch pv prs S)(hi:¬(0<=i∧i<S.msgs.length)):
  Calls prog 45 #[.pointer (some ⟨s,0,none⟩),I i] w fun e w'=>e= .returned (I 14)∧w'=w:=by
 have HC:Hid (Calls prog 79 #[.pointer (some ⟨pp,0,none⟩),I i] w fun e w'=>e= .returned (I 14)∧w'=w):=zv8 own 100 pp ch pv S.msgs i w h.post hi;have c1:w.cell? ⟨s,1,none⟩=some (.pointer (some ⟨pp,0,none⟩)):=h.blk.cell 1;clear h hi;go_enter func45,ntmps45;go_wp2_with fail
 refine HC.out.mono ?_;rintro e w1 ⟨rfl,hw1⟩;subst hw1;clear HC;go_wp2;go_ret;exact⟨rfl,rfl⟩
theorem zu5(own:Clr)(s rg cc pp ch:Nat)(pv:Value)(prs:List Nat)(S:Sto)(i j k:Int)(w:World)(h:StIn w own s rg cc pp ch pv prs S)(hi:¬(0<=i∧i<S.msgs.length)):
  Calls prog 46 #[.pointer (some ⟨s,0,none⟩),I i,I j,I k] w fun e w'=>e= .returned (I 14)∧w'=w:=by
 have HC:Hid (Calls prog 80 #[.pointer (some ⟨pp,0,none⟩),I i,I j,I k] w fun e w'=>e= .returned (I 14)∧w'=w):=zv9 own 100 pp ch pv S.msgs i j k w h.post hi;have c1:w.cell? ⟨s,1,none⟩=some (.pointer (some ⟨pp,0,none⟩)):=h.blk.cell 1;clear h hi;go_enter func46,ntmps46;go_wp2_with fail
 refine HC.out.mono ?_;rintro e w1 ⟨rfl,hw1⟩;subst hw1;clear HC;go_wp2;go_ret;exact⟨rfl,rfl⟩
theorem zrf(own:Clr)(s rg cc pp ch:Nat)(pv:Value)(prs:List Nat)(S:Sto)(i:Nat)(j k:Int)(m:Ms)(w:World)(h:StIn w own s rg cc pp ch pv prs S)(hi:S.msgs[i]?=some m)(hb:m.sp=true∨(k<1∨k>255)∨(j<0∨j≥m.bs.length)):
  Calls prog 46 #[.pointer (some ⟨s,0,none⟩),I i,I j,I k] w fun e w'=>e= .returned (I (zgt m k))∧w'=w:=by
 have HC:Hid (Calls prog 80 #[.pointer (some ⟨pp,0,none⟩),I i,I j,I k] w fun e w'=>e= .returned (I (zgt m k))∧w'=w):=zr9 own 100 pp ch pv S.msgs i j k m w h.post hi hb;have c1:w.cell? ⟨s,1,none⟩=some (.pointer (some ⟨pp,0,none⟩)):=h.blk.cell 1;clear h hi hb;generalize zgt m k=z at *
 go_enter func46,ntmps46;go_wp2_with fail
 refine HC.out.mono ?_;rintro e w1 ⟨rfl,hw1⟩;subst hw1;clear HC;go_wp2;go_ret;exact⟨rfl,rfl⟩
theorem zrd(own:Clr)(s rg cc pp ch:Nat)(pv:Value)(prs:List Nat)(S:Sto)(i:Nat)(m:Ms)(w w0:World)(eb ef:Addr)(hen:Env w0 w own eb ef)(h:StIn w own s rg cc pp ch pv prs S)(hi:S.msgs[i]?=some m):
  Calls prog 45 #[.pointer (some ⟨s,0,none⟩),I i] w fun e w'=>e= .returned (I 0)∧StOk w0 w own s {S with msgs:=addM S.msgs m} eb ef w':=by
 have HC:Hid (Calls prog 79 #[.pointer (some ⟨pp,0,none⟩),I i] w fun e w'=>e= .returned (I 0)∧StOk w0 w own s {S with msgs:=addM S.msgs m} eb ef w'):=(zr7 own 100 pp ch pv S.msgs i m w h.post hi).mono (fun e w' hh=>⟨hh.1,StOk.po h hen hh.2⟩);have c1:w.cell? ⟨s,1,none⟩=some (.pointer (some ⟨pp,0,none⟩)):=h.blk.cell 1;clear h hen hi;go_enter func45,ntmps45;go_wp2_with fail
 refine HC.out.mono ?_;rintro e w1 ⟨rfl,h1⟩;have HE:Hid (StOk w0 w own s {S with msgs:=addM S.msgs m} eb ef w1):=h1;clear h1 HC;go_wp2;go_ret;exact⟨rfl,HE.out⟩
theorem zu9(own:Clr)(s rg cc pp ch:Nat)(pv:Value)(prs:List Nat)(S:Sto)(i:Nat)(m:Ms)(w w0:World)(eb ef:Addr)(hen:Env w0 w own eb ef)(h:StIn w own s rg cc pp ch pv prs S)(hi:S.msgs[i]?=some m):
  Calls prog 33 #[.pointer (some ⟨s,0,none⟩),I i] w fun e w'=>e= .returned (I 0)∧StOk w0 w own s {S with msgs:=S.msgs.eraseIdx i} eb ef w':=by
 have HC:Hid (Calls prog 56 #[.pointer (some ⟨pp,0,none⟩),I i] w fun e w'=>e= .returned (.tuple #[.agg #[I m.k,I m.f,I m.t, .string ⟨m.bs.toArray⟩],I 0])∧StOk w0 w own s {S with msgs:=S.msgs.eraseIdx i} eb ef w'):=(zmc own 100 pp ch pv S.msgs i m w h.post hi).mono (fun e w' hh=>⟨hh.1,StOk.po h hen hh.2⟩);have c1:w.cell? ⟨s,1,none⟩=some (.pointer (some ⟨pp,0,none⟩)):=h.blk.cell 1;clear h hen hi;go_enter func33,ntmps33;go_wp2_with fail
 refine HC.out.mono ?_;rintro e w1 ⟨rfl,h1⟩;have HE:Hid (StOk w0 w own s {S with msgs:=S.msgs.eraseIdx i} eb ef w1):=h1;clear h1 HC;go_wp2;go_ret;exact⟨rfl,HE.out.more ((Below.refl _ _).alloc (ac _) _)⟩
def cutN(R:Rp)(k:Int):Nat:=(R.synced+min (max k 0) (R.log.length - R.synced)).toNat
def cutR(R:Rp)(k:Int):Rp:={R with log:=R.log.take (cutN R k),synced:=cutN R k}
theorem zzy(own:Clr)(c p:Nat)(R:Rp)(cg cc hp:Nat)(mv hv ev:Value)(hs:List Bm)(es:List Em)(k:Int)(w:World)(hc0:0<c)(h:RpIn w own c p R cg cc hp mv hv ev hs es)(hs0:0<=R.synced)(hs1:R.synced<=R.log.length)(hl:R.log.length<=100000000):
  Calls prog 76 #[.pointer (some ⟨p,5,none⟩),I k] w fun e w'=>e= .returned (.tuple #[])∧zb2 w own c p (cutR R k) cg cc hp mv hv ev hs es w':=by
 have HR:Hid (RpIn w own c p R cg cc hp mv hv ev hs es):=h;have c5:w.cell? ⟨p,5,none⟩=some (.string ⟨R.log.toArray⟩):=h.blk.cell 5;have c6:w.cell? ⟨p,6,none⟩=some (I R.synced):=h.blk.cell 6;have z5:w.frozen? ⟨p,5,none⟩=false:=h.blk.frozen 5;have z6:w.frozen? ⟨p,6,none⟩=false:=h.blk.frozen 6;have hsz:=zaz R.log;clear h;go_enter func76,ntmps76;have hw1:IntKind.i64.wrap ((R.log.length:Int) - R.synced)=(R.log.length:Int) - R.synced:=wrapI _ (by omega) (by omega);have hw2:IntKind.i64.wrap (R.synced+min (max k 0) ((R.log.length:Int) - R.synced))=R.synced+min (max k 0) ((R.log.length:Int) - R.synced):=wrapI _ (by omega) (by omega);have hm0:0<=R.synced+min (max k 0) ((R.log.length:Int) - R.synced):=by omega
 have hm1:R.synced+min (max k 0) ((R.log.length:Int) - R.synced)<=(R.log.length:Int):=by omega
 have HE1:Hid ((⟨R.log.toArray⟩:ByteArray).extract 0 (R.synced+min (max k 0) ((R.log.length:Int) - R.synced)).toNat=⟨(R.log.take (cutN R k)).toArray⟩):=zha _ _
 have HE2:Hid (max (R.synced+min (max k 0) ((R.log.length:Int) - R.synced)) 0=(cutN R k:Nat)):=by
  show _=_;unfold cutN;omega
 go_wp2;go_region
 go_wp2;go_region
 go_wp2;rw [HE1.out,HE2.out];go_end0;exact⟨rfl,HR.out.self hc0 (zas (zas (Tch.refl _ _) _ _) _ _).drew.drew ((HR.out.blk.set 5 _).set 6 _) rfl rfl rfl rfl,(zas (zas (Tch.refl _ _) _ _) _ _).drew.drew⟩
theorem hnew_ep(w:World):
  Calls prog 77 #[.func (.func 78) #[] #[]] w fun e w'=>e= .returned (.pointer (some ⟨w.heap.size,0,none⟩))∧w'=w.alloc (.cells #[.slice none 0 0, .func (.func 78) #[] #[]] 188):=by
 go_enter func77,ntmps77;go_wp2;go_ret;exact⟨rfl,rfl⟩
def zch(R:Rp)(k:Int):Rp:={cutR R k with st:=2,time:=0,obs:= [],held:= [],effs:= []}
theorem blk9{w:World}{p:Nat}{a0 a1 a2 a3 a4 a5 a6 a7 a8:Value}{t:TypeId}(h:Blk w p #[a0,a1,a2,a3,a4,a5,a6,a7,a8] t)(b0 b1 b2 b3 b4 b5 b6 b7 b8:Value):Blk ((((((((((w).setCell ⟨p,0,none⟩ b0).setCell ⟨p,1,none⟩ b1).setCell ⟨p,2,none⟩ b2).setCell ⟨p,3,none⟩ b3).setCell ⟨p,4,none⟩ b4).setCell ⟨p,5,none⟩ b5).setCell ⟨p,6,none⟩ b6).setCell ⟨p,7,none⟩ b7).setCell ⟨p,8,none⟩ b8) p #[b0,b1,b2,b3,b4,b5,b6,b7,b8] t:=by
 have h0:Blk ((w).setCell ⟨p,0,none⟩ b0) p #[b0,a1,a2,a3,a4,a5,a6,a7,a8] t:=h.set 0 _;have h1:Blk (((w).setCell ⟨p,0,none⟩ b0).setCell ⟨p,1,none⟩ b1) p #[b0,b1,a2,a3,a4,a5,a6,a7,a8] t:=h0.set 1 _;have h2:Blk ((((w).setCell ⟨p,0,none⟩ b0).setCell ⟨p,1,none⟩ b1).setCell ⟨p,2,none⟩ b2) p #[b0,b1,b2,a3,a4,a5,a6,a7,a8] t:=h1.set 2 _;have h3:Blk (((((w).setCell ⟨p,0,none⟩ b0).setCell ⟨p,1,none⟩ b1).setCell ⟨p,2,none⟩ b2).setCell ⟨p,3,none⟩ b3) p #[b0,b1,b2,b3,a4,a5,a6,a7,a8] t:=h2.set 3 _;have h4:Blk ((((((w).setCell ⟨p,0,none⟩ b0).setCell ⟨p,1,none⟩ b1).setCell ⟨p,2,none⟩ b2).setCell ⟨p,3,none⟩ b3).setCell ⟨p,4,none⟩ b4) p #[b0,b1,b2,b3,b4,a5,a6,a7,a8] t:=h3.set 4 _;have h5:Blk (((((((w).setCell ⟨p,0,none⟩ b0).setCell ⟨p,1,none⟩ b1).setCell ⟨p,2,none⟩ b2).setCell ⟨p,3,none⟩ b3).setCell ⟨p,4,none⟩ b4).setCell ⟨p,5,none⟩ b5) p #[b0,b1,b2,b3,b4,b5,a6,a7,a8] t:=h4.set 5 _;have h6:Blk ((((((((w).setCell ⟨p,0,none⟩ b0).setCell ⟨p,1,none⟩ b1).setCell ⟨p,2,none⟩ b2).setCell ⟨p,3,none⟩ b3).setCell ⟨p,4,none⟩ b4).setCell ⟨p,5,none⟩ b5).setCell ⟨p,6,none⟩ b6) p #[b0,b1,b2,b3,b4,b5,b6,a7,a8] t:=h5.set 6 _;have h7:Blk (((((((((w).setCell ⟨p,0,none⟩ b0).setCell ⟨p,1,none⟩ b1).setCell ⟨p,2,none⟩ b2).setCell ⟨p,3,none⟩ b3).setCell ⟨p,4,none⟩ b4).setCell ⟨p,5,none⟩ b5).setCell ⟨p,6,none⟩ b6).setCell ⟨p,7,none⟩ b7) p #[b0,b1,b2,b3,b4,b5,b6,b7,a8] t:=h6.set 7 _;have h8:Blk ((((((((((w).setCell ⟨p,0,none⟩ b0).setCell ⟨p,1,none⟩ b1).setCell ⟨p,2,none⟩ b2).setCell ⟨p,3,none⟩ b3).setCell ⟨p,4,none⟩ b4).setCell ⟨p,5,none⟩ b5).setCell ⟨p,6,none⟩ b6).setCell ⟨p,7,none⟩ b7).setCell ⟨p,8,none⟩ b8) p #[b0,b1,b2,b3,b4,b5,b6,b7,b8] t:=h7.set 8 _;exact h8
theorem tch9(w:World)(p:Nat)(b0 b1 b2 b3 b4 b5 b6 b7 b8:Value):Tch (fun k=>k=p) w ((((((((((w).setCell ⟨p,0,none⟩ b0).setCell ⟨p,1,none⟩ b1).setCell ⟨p,2,none⟩ b2).setCell ⟨p,3,none⟩ b3).setCell ⟨p,4,none⟩ b4).setCell ⟨p,5,none⟩ b5).setCell ⟨p,6,none⟩ b6).setCell ⟨p,7,none⟩ b7).setCell ⟨p,8,none⟩ b8):=zas (zas (zas (zas (zas (zas (zas (zas (zas (Tch.refl _ _) _ _) _ _) _ _) _ _) _ _) _ _) _ _) _ _) _ _
theorem blk_ne{w:World}{p q:Nat}{a b:Array Value}{s t:TypeId}(h:Blk w p a s)(k:Blk w q b t)(hst:s ≠ t):p ≠ q:=by
 rintro rfl;have e:=h.symm.trans k;cases e
 exact hst rfl
theorem zxr{w w1 w3 W:World}{own:Clr}{c p:Nat}{R R':Rp}{cg cc hp:Nat}{mv hv ev:Value}{hs:List Bm}{es:List Em}(h:zb2 w own c p R cg cc hp mv hv ev hs es w1)(ho:own p=c)(hB:Below w1.heap.size w1 w3)(hN:Blk w3 w1.heap.size #[.slice none 0 0, .func (.func 78) #[] #[]] 188)
  (hT:Tch (fun k=>k=p) w3 W) (hb:Blk W p #[I R'.n,I R'.st, .slice (some ⟨cg,0,none⟩) R'.clock.length cc,I R'.time, .map none, .string ⟨R'.log.toArray⟩,I R'.synced, .pointer (some ⟨w1.heap.size,0,none⟩), .slice none 0 0] 110)
  (e1:R'.clock=R.clock) (e2:R'.obs= []) (e3:R'.held= []) (e4:R'.effs= []):ROk w own c p R' W:=by
 have h3:RpIn w3 (newTo own w1.heap.size (c+9)) c p R cg cc hp mv hv ev hs es:=h.1.keep (fun b hl _=>hB.block b hl) (fun _ _ _ b hl _=>hB.block b hl) (zab _ _ _);have hcg:cg ≠ p:=blk_ne h3.clk h3.blk (by decide);have hpn:w1.heap.size ≠ p:=by have:=h.1.blk.lt;omega
 have hpl:p<w.heap.size∨¬p<w.heap.size:=by omega
 refine⟨newTo own w1.heap.size (c+9),fun k hk=>zae _ _ _ _ (Nat.lt_of_lt_of_le hk h.2.size),⟨cg,cc,w1.heap.size, .map none, .slice none 0 0, .slice none 0 0, [], [], ?_⟩, ?_⟩
 ·refine⟨hb,by rw [e1];exact hT.blk h3.clk hcg,h3.own1,h3.own2,Or.inl ⟨e2,rfl⟩,⟨⟨hT.blk hN hpn,World.ownsRow_nil _ _ _ _⟩,zaf _ _ _ _ (ac _),fun g e=>(by cases e),fun m hm=>(by cases hm)⟩,e3,⟨World.ownsRow_nil _ _ _ _,fun g e=>(by cases e),fun m hm=>(by cases hm)⟩,e4⟩
 ·refine(h.2.trans (H:=fun k=>k=p) (Tch.below (F:=fun _=>False) hB) (fun _ _ h=>h) (fun _ _ h=>h.elim)).trans hT (fun k _ e=> ?_) (fun k _ e=> ?_)
  ·subst e;rw [ho];exact⟨ac _,by omega⟩
  ·subst e;rw [ho];exact⟨ac _,by omega⟩
