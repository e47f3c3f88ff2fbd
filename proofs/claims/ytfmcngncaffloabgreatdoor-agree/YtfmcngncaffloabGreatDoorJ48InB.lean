import Derived.Test.YtfmcngncaffloabGreatDoorJ46RsB
import Derived.Test.YtfmcngncaffloabGreatDoorJ47AnE
import Derived.Test.YtfmcngncaffloabGreatDoorJ44PsA
set_option maxHeartbeats 1600000
namespace Go.Proofs.YtfmcngncaffloabGreatDoor
open Go.RowKit Go.Proofs.Tryz Wv
set_option maxRecDepth 100000
section
variable {w w0 : World} {own : Clr} {s rg cc pp ch : Nat} {pv : Value} {prs : List Nat} {S : Sto} {r : Nat} {R : Rp} {eb ef : Addr}
theorem zu3(h:StIn w own s rg cc pp ch pv prs S)(hr:r<prs.length)(hR:S.reps[r]?=some R)(hst:R.st ≠ 2)(P:World->Prop)(HC:Calls prog 61 #[.pointer (some ⟨prs[r],0,none⟩)] w fun e w'=>e= .returned (.tuple #[])∧P w'):
  Calls prog 31 #[.pointer (some ⟨s,0,none⟩),I r] w fun e w'=>e= .returned (I 0)∧P w':=by
 have HU:Hid (Calls prog 37 #[.pointer (some ⟨s,0,none⟩),I r] w fun e w'=>e= .returned (.tuple #[.pointer (some ⟨prs[r],0,none⟩),I 0])∧w'=w):=zbn own s rg cc pp ch pv prs S r hr R hR hst w h;clear h hR hst;generalize prs[r]=p at *
 go_enter func31,ntmps31;go_wp2_with fail
 refine HU.out.mono ?_;rintro e w1 ⟨rfl,hw1⟩;subst hw1;go_wp2_with fail
 refine HC.mono ?_;rintro e w2 ⟨rfl,h2⟩;have HE:Hid (P w2):=h2;clear h2 HC;go_wp2;go_ret;exact⟨rfl,HE.out⟩
theorem zrg(h:StIn w own s rg cc pp ch pv prs S)(hr:r<prs.length)(hR:S.reps[r]?=some R)(hst:R.st ≠ 2)(k:Int)(P:World->Prop)(HC:Calls prog 44 #[.pointer (some ⟨prs[r],0,none⟩),I k] w fun e w'=>e= .returned (.tuple #[])∧P w'):
  Calls prog 20 #[.pointer (some ⟨s,0,none⟩),I r,I k] w fun e w'=>e= .returned (I 0)∧P w':=by
 have HU:Hid (Calls prog 37 #[.pointer (some ⟨s,0,none⟩),I r] w fun e w'=>e= .returned (.tuple #[.pointer (some ⟨prs[r],0,none⟩),I 0])∧w'=w):=zbn own s rg cc pp ch pv prs S r hr R hR hst w h;clear h hR hst;generalize prs[r]=p at *
 go_enter func20,ntmps20;go_wp2_with fail
 refine HU.out.mono ?_;rintro e w1 ⟨rfl,hw1⟩;subst hw1;go_wp2_with fail
 refine HC.mono ?_;rintro e w2 ⟨rfl,h2⟩;have HE:Hid (P w2):=h2;clear h2 HC;go_wp2;go_ret;exact⟨rfl,HE.out⟩
theorem zl2(h:StIn w own s rg cc pp ch pv prs S)(hr:r<prs.length)(hR:S.reps[r]?=some R)(hst:R.st ≠ 2)(k:Int)(z:Int)(P:World->Prop)(HC:Calls prog 43 #[.pointer (some ⟨prs[r],0,none⟩),I k] w fun e w'=>e= .returned (I z)∧P w'):
  Calls prog 19 #[.pointer (some ⟨s,0,none⟩),I r,I k] w fun e w'=>e= .returned (I z)∧P w':=by
 have HU:Hid (Calls prog 37 #[.pointer (some ⟨s,0,none⟩),I r] w fun e w'=>e= .returned (.tuple #[.pointer (some ⟨prs[r],0,none⟩),I 0])∧w'=w):=zbn own s rg cc pp ch pv prs S r hr R hR hst w h;clear h hR hst;generalize prs[r]=p at *
 go_enter func19,ntmps19;go_wp2_with fail
 refine HU.out.mono ?_;rintro e w1 ⟨rfl,hw1⟩;subst hw1;go_wp2_with fail
 refine HC.mono ?_;rintro e w2 ⟨rfl,h2⟩;have HE:Hid (P w2):=h2;clear h2 HC;go_wp2;go_ret;exact⟨rfl,HE.out⟩
theorem zg5(h:StIn w own s rg cc pp ch pv prs S)(hr:r<prs.length)(z:Int)(P:World->Prop)(HC:Calls prog 62 #[.pointer (some ⟨prs[r],0,none⟩)] w fun e w'=>e= .returned (I z)∧P w'):
  Calls prog 32 #[.pointer (some ⟨s,0,none⟩),I r] w fun e w'=>e= .returned (I z)∧P w':=by
 have HU:Hid (Calls prog 35 #[.pointer (some ⟨s,0,none⟩),I r] w fun e w'=>e= .returned (.tuple #[.pointer (some ⟨prs[r],0,none⟩),I 0])∧w'=w):=zdg own s rg cc pp ch pv prs S r hr w h;clear h;generalize prs[r]=p at *
 go_enter func32,ntmps32;go_wp2_with fail
 refine HU.out.mono ?_;rintro e w1 ⟨rfl,hw1⟩;subst hw1;go_wp2_with fail
 refine HC.mono ?_;rintro e w2 ⟨rfl,h2⟩;have HE:Hid (P w2):=h2;clear h2 HC;go_wp2;go_ret;exact⟨rfl,HE.out⟩
theorem wask_to(h:StIn w own s rg cc pp ch pv prs S)(hR:S.reps[r]?=some R)(hst:R.st ≠ 2)(t:Int)(ht:¬(0<=t∧t<S.reps.length)∨t=r):
  Calls prog 30 #[.pointer (some ⟨s,0,none⟩),I r,I t] w fun e w'=>e= .returned (I 3)∧w'=w:=by
 obtain⟨hr,_⟩:=h.prl hR;have HU:Hid (Calls prog 37 #[.pointer (some ⟨s,0,none⟩),I r] w fun e w'=>e= .returned (.tuple #[.pointer (some ⟨prs[r],0,none⟩),I 0])∧w'=w):=zbn own s rg cc pp ch pv prs S r hr R hR hst w h;have HH:Hid (Calls prog 58 #[.pointer (some ⟨s,0,none⟩),I t] w fun e w'=>e= .returned (.bool (decide (0<=t∧t<S.reps.length)))∧w'=w):=zhb own s rg cc pp ch pv prs S t w h;clear h hR hst;generalize prs[r]=p at *
 go_enter func30,ntmps30;go_wp2_with fail
 refine HU.out.mono ?_;rintro e w1 ⟨rfl,hw1⟩;subst hw1;go_wp2_with fail
 refine HH.out.mono ?_;rintro e w2 ⟨rfl,hw2⟩;subst hw2;by_cases hb:0<=t∧t<(S.reps.length:Int)
 ·have hd:decide (0<=t∧t<(S.reps.length:Int))=true:=aT hb
  have htr:t=r:=by rcases ht with h | h;exact absurd hb h;exact h
  subst htr;rw [hd];clear HU HH;go_wp2;go_ret;exact⟨rfl,rfl⟩
 ·have hd:decide (0<=t∧t<(S.reps.length:Int))=false:=decide_eq_false hb
  rw [hd];clear HU HH;go_wp2;go_ret;exact⟨rfl,rfl⟩
theorem zye(hen:Env w0 w own eb ef)(h:StIn w own s rg cc pp ch pv prs S)(hR:S.reps[r]?=some R)(hst:R.st ≠ 2)(hcl:R.clock.length<=4)(t:Nat)(ht:t<S.reps.length)(htr:t ≠ r):
  Calls prog 30 #[.pointer (some ⟨s,0,none⟩),I r,I t] w fun e w'=>e= .returned (I 0)∧StOk w0 w own s {S with msgs:=addM S.msgs ⟨2,r,t,digB R.clock,false⟩} eb ef w':=by
 obtain⟨hr,hrp⟩:=h.prl hR;have hrp:RpAt w own (1+11*r) prs[r] R:=hrp;have HU:Hid (Calls prog 37 #[.pointer (some ⟨s,0,none⟩),I r] w fun e w'=>e= .returned (.tuple #[.pointer (some ⟨prs[r],0,none⟩),I 0])∧w'=w):=zbn own s rg cc pp ch pv prs S r hr R hR hst w h;have hd:decide (0<=(t:Int)∧(t:Int)<(S.reps.length:Int))=true:=aT ⟨by omega,by omega⟩;have HH:Hid (Calls prog 58 #[.pointer (some ⟨s,0,none⟩),I t] w fun e w'=>e= .returned (.bool true)∧w'=w):=by have:=zhb own s rg cc pp ch pv prs S t w h;rw [hd] at this;exact this
 have HD0:Hid (∀wx,Below w.heap.size w wx->Calls prog 60 #[.pointer (some ⟨prs[r],0,none⟩)] wx fun e w'=>e= .returned (.string ⟨(digB R.clock).toArray⟩)∧Below wx.heap.size wx w'):=fun wx hb=>zpd (newTo own w.heap.size 0) _ _ R wx (RpAt.keep hrp (fun b hl _=>hb.block b hl) (fun _ _ _ b hl _=>hb.block b hl) (zab _ _ _)) hcl
 have HS:Hid (∀w1,Below w.heap.size w w1->Calls prog 59 #[.pointer (some ⟨pp,0,none⟩),I 2,I r,I t, .string ⟨(digB R.clock).toArray⟩] w1 fun e w'=>e= .returned (.tuple #[])∧StOk w0 w own s {S with msgs:=addM S.msgs ⟨2,r,t,digB R.clock,false⟩} eb ef w'):=fun w1 hb=>by
  have h1:=h.below hb;have hen1:Env w0 w1 (newTo own w.heap.size 0) eb ef:=hen.tch (F:=fun _=>False) (Tch.below hb) (fun _ _ h=>h) (zab _ _ _);exact(zh5 _ 100 pp ch pv S.msgs 2 r t (digB R.clock) w1 h1.post).mono (fun e w' hh=>⟨hh.1,StOk.from (zab _ _ _) (Tch.below hb) (StOk.po h1 hen1 hh.2)⟩)
 have hne:¬(t:Int)=(r:Int):=by omega
 have c1:w.cell? ⟨s,1,none⟩=some (.pointer (some ⟨pp,0,none⟩)):=h.blk.cell 1;clear h hR hst hen hrp hd;generalize prs[r]=p at *
 generalize digB R.clock=dg at *
 go_enter func30,ntmps30;go_wp2_with fail
 refine HU.out.mono ?_;rintro e w1 ⟨rfl,hw1⟩;subst hw1;go_wp2_with fail
 refine HH.out.mono ?_;rintro e w2 ⟨rfl,hw2⟩;subst hw2;clear HU HH;have HDD:Hid (Calls prog 60 #[.pointer (some ⟨p,0,none⟩)] w2.drew fun e w'=>e= .returned (.string ⟨dg.toArray⟩)∧Below w2.heap.size w2 w'):=(HD0.out w2.drew (Below.refl _ _).drew).mono (fun e w' hh=>⟨hh.1,(Below.refl _ _).drew.trans hh.2⟩);go_wp2_with fail
 go_region_law (first
  | (go_simp;go_at_call 60;refine HDD.out.mono ?_;rintro e w3 ⟨rfl,hb3⟩;have HB3:Hid (Below w2.heap.size w2 w3):=hb3;have c3:w3.cell? ⟨s,1,none⟩=some (.pointer (some ⟨pp,0,none⟩)):=zaa hb3 c1;clear hb3)
  | (go_simp;go_at_call 59;refine(HS.out w3 HB3.out).mono ?_;rintro e w4 ⟨rfl,h4⟩;have HE:Hid (StOk w0 w2 own s {S with msgs:=addM S.msgs ⟨2,r,t,dg,false⟩} eb ef w4):=h4;clear h4))
 all_goals
  (go_wp2
   go_ret
   exact⟨rfl,HE.out⟩)
end
def sndA(ms:List Ms)(t f:Int)(fs:List (List UInt8)):Nat->List Ms
 | 0=>ms
 | k+1=>addM (sndA ms t f fs k) ⟨1,t,f,fs.getD k [],false⟩
theorem zjn(own:Clr)(s rg cc pp ch:Nat)(pv:Value)(prs:List Nat)(S:Sto)(f:Int)(t:Nat)(l:List UInt8)(R:Rp)(fs:List (List UInt8))(w w0:World)(eb ef:Addr)(hen:Env w0 w own eb ef)(h:StIn w own s rg cc pp ch pv prs S)(hR:S.reps[t]?=some R)(hst:R.st ≠ 2)(hfs:fs.length<=3)
  (hAn:∀(own:Clr) (p:Nat) (w:World),Env w0 w own eb ef->RpAt w own (1+11*t) p R->Calls prog 91 #[.pointer (some ⟨p,0,none⟩), .string ⟨l.toArray⟩] w fun e w'=>AnsOk w fs e w'):
  Calls prog 57 #[.pointer (some ⟨s,0,none⟩), .agg #[I 2,I f,I t, .string ⟨l.toArray⟩]] w fun e w'=>e= .returned (.tuple #[])∧StOk w0 w own s {S with msgs:=sndA S.msgs t f fs fs.length} eb ef w':=by
 obtain⟨wA,hwA⟩:∃wA,wA=w.alloc (.cells #[I 2,I f,I t, .string ⟨l.toArray⟩] 72):=⟨_,rfl⟩
 have hBA:Below w.heap.size w wA:=by rw [hwA];exact(Below.refl _ _).alloc (ac _) _
 have HX:Hid (Blk wA w.heap.size #[I 2,I f,I t, .string ⟨l.toArray⟩] 72):=by rw [hwA];exact heap_alloc_new w _
 have hSA:StIn wA (newTo own w.heap.size 0) s rg cc pp ch pv prs S:=h.below hBA;have henA:Env w0 wA (newTo own w.heap.size 0) eb ef:=hen.tch (F:=fun _=>False) (Tch.below hBA) (fun _ _ h=>h) (zab _ _ _);obtain⟨hr,hrp⟩:=hSA.prl hR;have HU:Hid (Calls prog 37 #[.pointer (some ⟨s,0,none⟩),I t] wA fun e w'=>e= .returned (.tuple #[.pointer (some ⟨prs[t],0,none⟩),I 0])∧w'=wA):=zbn _ s rg cc pp ch pv prs S t hr R hR hst wA hSA;have HC:Hid (Calls prog 91 #[.pointer (some ⟨prs[t],0,none⟩), .string ⟨l.toArray⟩] wA fun e w'=>AnsOk wA fs e w'):=hAn _ prs[t] wA henA hrp;have HSA:Hid (StIn wA (newTo own w.heap.size 0) s rg cc pp ch pv prs S):=hSA;have HEA:Hid (Env w0 wA (newTo own w.heap.size 0) eb ef):=henA;have HBA:Hid (Below w.heap.size w wA):=hBA;clear h hen hSA henA hrp hR hst hAn hBA;generalize prs[t]=p at HU HC;have x0:wA.cell? ⟨w.heap.size,0,none⟩=some (I 2):=HX.out.cell 0;have x1:wA.cell? ⟨w.heap.size,1,none⟩=some (I f):=HX.out.cell 1;have x2:wA.cell? ⟨w.heap.size,2,none⟩=some (I t):=HX.out.cell 2;have x3:wA.cell? ⟨w.heap.size,3,none⟩=some (.string ⟨l.toArray⟩):=HX.out.cell 3;go_enter func57,ntmps57;go_wp2_with fail
 rw [←hwA];clear hwA;refine HU.out.mono ?_;rintro e w1 ⟨rfl,hw1⟩;subst hw1;go_wp2_with fail
 refine HC.out.mono ?_;rintro e wB ⟨⟨v,rfl,hrow⟩,hbB⟩;obtain⟨va,vc,rfl⟩:=zd0 hrow;have HROW:Hid (wB.ownsRow w1.heap.size 9 1 (.slice va fs.length vc) fs.length (fs.map strV)):=hrow;have HXB:Hid (Blk wB w.heap.size #[I 2,I f,I t, .string ⟨l.toArray⟩] 72):=HX.out.kept hbB HX.out.lt;have hws:w.heap.size<w1.heap.size:=HX.out.lt;obtain⟨ownB,hownB⟩:∃ownB,ownB=newTo (newTo own w.heap.size 0) w1.heap.size 0:=⟨_,rfl⟩
 have HSB:Hid (StIn wB ownB s rg cc pp ch pv prs S):=by rw [hownB];exact HSA.out.below hbB
 have HEB:Hid (Env w0 wB ownB eb ef):=by rw [hownB];exact HEA.out.tch (F:=fun _=>False) (Tch.below hbB) (fun _ _ h=>h) (zab _ _ _)
 have HGB:Hid (∀g,w.heap.size<=g->ownB g=0):=fun g hg=>by
  rw [hownB];unfold newTo;split
  ·rw [ap (by omega)]
  ·rfl
 have HFIN:Hid (∀S2 w9,StOk w0 wB ownB s S2 eb ef w9->StOk w0 w own s S2 eb ef w9):=fun S2 w9 h9=>by
  rw [hownB] at h9;exact StOk.from (zab _ _ _) (Tch.below HBA.out) (StOk.from (zab _ _ _) (Tch.below hbB) h9)
 have HK0:Hid (StOk w0 wB ownB s {S with msgs:=sndA S.msgs t f fs 0} eb ef wB):=⟨ownB,rg,cc,pp,ch,pv,prs,Ext.refl _ _,HSB.out,HEB.out,Tch.refl _ _⟩
 clear hrow hbB hownB x0 x1 x2 x3 HC HU HX HSA HEA HSB HEB;go_wp2_with fail
 go_loopw [32] (fun x wX=>∃k:Nat,k<=fs.length∧x=I k∧Hid (StOk w0 wB ownB s {S with msgs:=sndA S.msgs t f fs k} eb ef wX)) (fun x _=>fs.length - (intOf x).toNat)
 case atStart=>exact⟨0,az _,rfl,HK0⟩
 case round=>
  obtain⟨k,hk,rfl,HK⟩:=hrel;clear HK0;by_cases hlt:k<fs.length
  ·obtain⟨own',rg',cc',pp',ch',pv',prs',hE,hS,hen',hT⟩:=HK.out
   have HS':Hid (StIn wr own' s rg' cc' pp' ch' pv' prs' {S with msgs:=sndA S.msgs t f fs k}):=hS;have HEN':Hid (Env w0 wr own' eb ef):=hen';have HE':Hid (Ext ownB own' wB.heap.size):=hE;have HT':Hid (Tch (fun k=>1<=ownB k∧ownB k<=100) wB wr):=hT;have c1:wr.cell? ⟨s,1,none⟩=some (.pointer (some ⟨pp',0,none⟩)):=hS.blk.cell 1;obtain⟨g,gc,hgv⟩:=zc6 HROW.out (by omega);cases hgv
   have hgl:=HROW.out.lt g rfl;have hsame:∀b,w.heap.size<=b->b<wB.heap.size->wr.heap[b]?=wB.heap[b]?:=fun b h1 h2=>hT.block b h2 (fun e=>by have:=HGB.out b h1;omega)
   have e0:wr.cell? ⟨g,k,none⟩=some (.string ⟨(fs.getD k []).toArray⟩):=by
    have:=HROW.out.cells (g:=g) rfl k (strV (fs.getD k [])) (by simp [hlt]);rw [Addr.add_lit,aV] at this;exact zbb this (hsame g (by omega) hgl.2)
   have HXr:Hid (Blk wr w.heap.size #[I 2,I f,I t, .string ⟨l.toArray⟩] 72):=(hsame w.heap.size (ac _) HXB.out.lt).trans HXB.out;have x1:wr.cell? ⟨w.heap.size,1,none⟩=some (I f):=HXr.out.cell 1;have x2:wr.cell? ⟨w.heap.size,2,none⟩=some (I t):=HXr.out.cell 2;have hki:(k:Int)<fs.length:=by omega
   have HSE:Hid (sndA S.msgs t f fs (k+1)=addM (sndA S.msgs t f fs k) ⟨1,t,f,fs.getD k [],false⟩):=by show _=_;rw [sndA]
   have HSN:Hid (Calls prog 59 #[.pointer (some ⟨pp',0,none⟩),I 1,I t,I f, .string ⟨(fs.getD k []).toArray⟩] wr.drew fun e w'=>e= .returned (.tuple #[])∧StOk w0 wB ownB s {S with msgs:=sndA S.msgs t f fs (k+1)} eb ef w'):=by
    rw [HSE.out];have hbd:Below wr.heap.size wr wr.drew:=(Below.refl _ _).drew;have h1:=HS'.out.below hbd;have hen1:Env w0 wr.drew (newTo own' wr.heap.size 0) eb ef:=HEN'.out.tch (F:=fun _=>False) (Tch.below hbd) (fun _ _ h=>h) (zab _ _ _);exact(zh5 _ 100 pp' ch' pv' (sndA S.msgs t f fs k) 1 t f (fs.getD k []) wr.drew h1.post).mono (fun e w' hh=>⟨hh.1,StOk.from HE'.out HT'.out (StOk.from (zab _ _ _) (Tch.below hbd) (StOk.po h1 hen1 hh.2))⟩)
   clear hE hS hen' hT HK hsame HXr;generalize fs.getD k []=fr at *
   go_wp2_with fail
   go_region_law ((go_simp;go_at_call 59;refine HSN.out.mono ?_;rintro e w2 ⟨rfl,h2⟩;have HN:Hid (StOk w0 wB ownB s {S with msgs:=sndA S.msgs t f fs (k+1)} eb ef w2):=h2;clear h2))
   all_goals
    (go_wp2_with fail
     go_roundw
     case rel=>exact⟨k+1,hlt,by go_num,HN⟩
     case measure=>simp [intOf];omega)
  ·have hki:¬(k:Int)<fs.length:=by omega
   have HN:Hid (StOk w0 w own s {S with msgs:=sndA S.msgs t f fs fs.length} eb ef wr):=by
    have:k=fs.length:=by omega
    rw [this] at HK;exact HFIN.out _ _ HK.out
   clear HK;go_wp2;go_end0;exact⟨rfl,HN.out⟩
theorem zm7(own:Clr)(s rg cc pp ch:Nat)(pv:Value)(prs:List Nat)(S:Sto)(k f:Int)(t:Nat)(l:List UInt8)(R:Rp)(w w0:World)(eb ef:Addr)(hen:Env w0 w own eb ef)(h:StIn w own s rg cc pp ch pv prs S)(hR:S.reps[t]?=some R)(hst:R.st=2):
  Calls prog 57 #[.pointer (some ⟨s,0,none⟩), .agg #[I k,I f,I t, .string ⟨l.toArray⟩]] w fun e w'=>e= .returned (.tuple #[])∧StOk w0 w own s S eb ef w':=by
 obtain⟨wA,hwA⟩:∃wA,wA=w.alloc (.cells #[I k,I f,I t, .string ⟨l.toArray⟩] 72):=⟨_,rfl⟩
 have hBA:Below w.heap.size w wA:=by rw [hwA];exact(Below.refl _ _).alloc (ac _) _
 have HX:Hid (Blk wA w.heap.size #[I k,I f,I t, .string ⟨l.toArray⟩] 72):=by rw [hwA];exact heap_alloc_new w _
 have HU:Hid (UpBad wA (.pointer (some ⟨s,0,none⟩)) t 4):=zdp _ s rg cc pp ch pv prs S t R hR hst wA (h.below hBA);have HE:Hid (StOk w0 w own s S eb ef wA):=StOk.below h hen hBA;have x2:wA.cell? ⟨w.heap.size,2,none⟩=some (I t):=HX.out.cell 2;clear h hen hR hst hBA;go_enter func57,ntmps57;go_wp2_with fail
 rw [←hwA];clear hwA;refine HU.out.2.mono ?_;rintro e w1 ⟨rfl,hw1⟩;subst hw1;clear HU;go_wp2;refine bodyPost_ret (results_none rfl _ _ _) rfl ?_;exact⟨rfl,HE.out⟩
theorem znb(own:Clr)(s rg cc pp ch:Nat)(pv:Value)(prs:List Nat)(S S':Sto)(i:Nat)(m:Ms)(w w0:World)(eb ef:Addr)(hen:Env w0 w own eb ef)(h:StIn w own s rg cc pp ch pv prs S)(hi:S.msgs[i]?=some m)
  (hT:∀(own:Clr) (rg cc pp ch:Nat) (pv:Value) (prs:List Nat) (w:World),Env w0 w own eb ef->StIn w own s rg cc pp ch pv prs {S with msgs:=S.msgs.eraseIdx i}->Calls prog 57 #[.pointer (some ⟨s,0,none⟩), .agg #[I m.k,I m.f,I m.t, .string ⟨m.bs.toArray⟩]] w fun e w'=>e= .returned (.tuple #[])∧StOk w0 w own s S' eb ef w'):
  Calls prog 28 #[.pointer (some ⟨s,0,none⟩),I i] w fun e w'=>e= .returned (I 0)∧StOk w0 w own s S' eb ef w':=by
 have HC:Hid (Calls prog 56 #[.pointer (some ⟨pp,0,none⟩),I i] w fun e w'=>e= .returned (.tuple #[.agg #[I m.k,I m.f,I m.t, .string ⟨m.bs.toArray⟩],I 0])∧StOk w0 w own s {S with msgs:=S.msgs.eraseIdx i} eb ef w'):=(zmc own 100 pp ch pv S.msgs i _ w h.post hi).mono (fun e w' hh=>⟨hh.1,StOk.po h hen hh.2⟩);have c1:w.cell? ⟨s,1,none⟩=some (.pointer (some ⟨pp,0,none⟩)):=h.blk.cell 1;have HTK:=hT;clear h hen hi hT;go_enter func28,ntmps28;go_wp2_with fail
 refine HC.out.mono ?_;rintro e w1 ⟨rfl,h1⟩;obtain⟨own2,rg2,cc2,pp2,ch2,pv2,prs2,hE2,hS2,hen2,hT2⟩:=h1;have HS2:Hid (StIn w1 own2 s rg2 cc2 pp2 ch2 pv2 prs2 {S with msgs:=S.msgs.eraseIdx i}):=hS2;have HEN2:Hid (Env w0 w1 own2 eb ef):=hen2;have HE2:Hid (Ext own own2 w.heap.size):=hE2;have HT2:Hid (Tch (fun k=>1<=own k∧own k<=100) w w1):=hT2;clear hE2 hS2 hen2 hT2 HC;have HB3:Hid (Below w1.heap.size w1 (w1.alloc (.cells #[I m.k,I m.f,I m.t, .string ⟨m.bs.toArray⟩] 72))):=(Below.refl _ _).alloc (ac _) _;go_wp2_with fail
 refine(HTK (newTo own2 w1.heap.size 0) rg2 cc2 pp2 ch2 pv2 prs2 (w1.alloc (.cells #[I m.k,I m.f,I m.t, .string ⟨m.bs.toArray⟩] 72)) (HEN2.out.tch (F:=fun _=>False) (Tch.below HB3.out) (fun _ _ h=>h) (zab _ _ _)) (HS2.out.below HB3.out)).mono ?_;rintro e w3 ⟨rfl,h3⟩;have HE:Hid (StOk w0 w own s S' eb ef w3):=StOk.from HE2.out HT2.out (StOk.from (zab _ _ _) (Tch.below HB3.out) h3);clear h3;go_wp2;go_ret;exact⟨rfl,HE.out⟩
theorem zx4(R:Rp)(l:List UInt8):(answR R l).length<=3:=by
 have key:∀(kn:List Int) (m:Nat) (l:List UInt8) (acc:List (List UInt8)),acc.length<=3->(acc.length=3->False)->(ansL kn m l acc).length<=3:=by
  intro kn m;induction m with
  | zero=>intro l acc h _;exact h
  | succ m ih=>
   intro l acc h h3;rw [ansL];split
   ·exact h
   ·rename_i b _
    obtain⟨acc',ha⟩:∃acc',acc'=(if b.s>kn.getD b.o.toNat 0 then acc++ [fstB l] else acc):=⟨_,rfl⟩
    have hle:acc'.length<=3:=by
     rw [ha];split
     ·rw [ah];have:acc.length ≠ 3:=fun e=>h3 e;simp;omega
     ·exact h
    rw [←ha];by_cases hn:acc'.length=3
    ·rw [aA hn];exact hle
    ·rw [ap hn];exact ih _ _ hle hn
 unfold answR;split
 ·exact key _ _ _ _ (by simp) (by simp)
 ·simp
structure MsOk(n:Nat)(m:Ms):Prop where
 t0:0<=m.t
 t1:m.t<n
 kind:m.k=1∨m.k=2
 len:m.bs.length<=70000
 fit:m.k=1->∀b,dec m.bs=some b->b.clock.length=n
structure Rlg(n:Nat)(R:Rp):Prop where
 ok:Rok R
 cl:R.clock.length=n
 n4:n<=4
 n1:1<=n
 lg:LogN n R.log
def zc0(S:Sto)(i:Nat)(m:Ms)(R:Rp):Sto:=
 if R.st=2 then {S with msgs:=S.msgs.eraseIdx i}
 else if m.k=1 then⟨S.reps.set m.t.toNat (za4 R m.bs),S.msgs.eraseIdx i⟩
 else {S with msgs:=sndA (S.msgs.eraseIdx i) m.t m.f (answR R m.bs) (answR R m.bs).length}
theorem zfv{R:Rp}{l:List UInt8}(h:dec l=none):za4 R l=R:=by unfold za4;rw [h]
theorem zs3{R:Rp}{l:List UInt8}{b:Bt}(h:dec l=some b)(hs:b.s<=R.clock.getD b.o.toNat 0):za4 R l=R:=by
 unfold za4;rw [h];simp only
 rw [aA (Or.inr hs)]
theorem zrs{w0:World}{eb ef:Addr}{n:Nat}{R:Rp}{l:List UInt8}(hI:zaj)(hg:Gd w0)(hR:Rok R)(hcl:R.clock.length=n)(hl:l.length<=70000)(hf:∀b,dec l=some b->b.clock.length=n):zoi w0 eb ef R l (za4 R l):=by
 cases hd:dec l with
 | none=>rw [zfv hd];exact zou hI hg (by omega) hd
 | some b=>
  have hfb:b.clock.length=R.clock.length:=by rw [hf b hd,hcl]
  by_cases hs:b.s<=R.clock.getD b.o.toNat 0
  ·rw [zs3 hd hs]
   intro own c p w hc hen h;exact zli own c p R l b w w0 eb ef hI (hg.kept hen.bel) hen h hR hd hfb hs
  ·exact zrr hI hg hR hd hfb hs
theorem znc(own:Clr)(s rg cc pp ch:Nat)(pv:Value)(prs:List Nat)(S:Sto)(n i:Nat)(m:Ms)(R:Rp)(w w0:World)(eb ef:Addr)(hI:zaj)(hg:Gd w0)(hgg:Gg w0)(hen:Env w0 w own eb ef)(h:StIn w own s rg cc pp ch pv prs S)(hi:S.msgs[i]?=some m)(hm:MsOk n m)(hR:S.reps[m.t.toNat]?=some R)(hro:R.st ≠ 2->Rlg n R):
  Calls prog 28 #[.pointer (some ⟨s,0,none⟩),I i] w fun e w'=>e= .returned (I 0)∧StOk w0 w own s (zc0 S i m R) eb ef w':=by
 refine znb own s rg cc pp ch pv prs S _ i m w w0 eb ef hen h hi ?_;intro own rg cc pp ch pv prs w hen h;have ht:I m.t=I (m.t.toNat:Int):=by congr 1;have:=hm.t0;omega
 rw [ht];unfold zc0;by_cases hst:R.st=2
 ·rw [aA hst]
  exact zm7 own s rg cc pp ch pv prs _ m.k m.f m.t.toNat m.bs R w w0 eb ef hen h hR hst
 ·rw [ap hst]
  have hl:=hro hst;rcases hm.kind with hk | hk
  ·rw [aA hk]
   have:=zlh own s rg cc pp ch pv prs _ m.f m.t.toNat m.bs R (za4 R m.bs) w w0 eb ef hen h hR hst (zrs hI hg hl.ok hl.cl hm.len (hm.fit hk));rw [hk];exact this
  ·rw [ap (by omega)]
   have:=zjn own s rg cc pp ch pv prs _ m.f m.t.toNat m.bs R (answR R m.bs) w w0 eb ef hen h hR hst (zx4 R m.bs) (fun own p w hen hrp=>by
    unfold answR;split
    ·rename_i hd
     have hlog:R.log.length<=10000000:=by have h1:=hl.ok.logl;have h2:=hl.ok.sum;omega
     have h4:=hl.n4;have h5:=hl.n1;have h6:=hl.cl
     exact zpe own _ p R m.bs w w0 eb ef hI hg hen hrp (by omega) (by omega) hd hlog (by rw [h6];exact hl.lg)
    ·rename_i hd
     have h4:=hl.n4;have h6:=hl.cl
     exact zr2 own _ p R m.bs w (hgg.kept hen.bel) hrp (by omega) (by simpa using hd))
   rw [hk];have e:(m.t.toNat:Int)=m.t:=by have:=hm.t0;omega
   rw [e] at this;rw [e];exact this
def CkD(cl:List Int)(d:Dt):Prop:=0<=d.o∧d.o<cl.length∧1<=d.s∧d.s<=cl.getD d.o.toNat 0∧0<=d.i∧d.i<5
def PkD(b:Bt)(j:Nat)(d:Dt):Prop:=cov b d j=true
theorem CkD.pk{b:Bt}{d:Dt}(h:CkD b.clock d)(j:Nat):PkD b j d:=by
 obtain⟨h1,h2,h3,h4,h5,h6⟩:=h;unfold PkD cov inD;simp only [ak,Bool.or_eq_true,aq,beq_iff_eq];exact⟨⟨⟨⟨⟨h1,h2⟩,h3⟩,h5⟩,h6⟩,Or.inl h4⟩
theorem PkD.mono{b:Bt}{d:Dt}{i j:Nat}(h:PkD b i d)(hij:i<=j):PkD b j d:=by
 unfold PkD cov at h ⊢;simp only [ak,Bool.or_eq_true,aq,beq_iff_eq] at h ⊢;exact⟨h.1,h.2.imp id (fun q=>⟨q.1,by omega⟩)⟩
theorem PkD.ne{b:Bt}{d:Dt}{i:Nat}(h:PkD b i d):noneD d=false:=by
 unfold PkD cov inD at h;simp only [ak,aq] at h;unfold noneD;simp only [Bool.and_eq_false_iff,beq_eq_false_iff_ne];omega
theorem pk_self{b:Bt}(h0:0<=b.o)(h1:b.o<b.clock.length)(hs:1<=b.s){i j:Nat}(hij:i<j)(h5:i<5):PkD b j (zbi b i).d:=by
 unfold PkD cov inD zbi;simp only [ak,Bool.or_eq_true,aq,beq_iff_eq];exact⟨⟨⟨⟨⟨h0,h1⟩,hs⟩,by omega⟩,by omega⟩,Or.inr ⟨⟨trivial,trivial⟩,by omega⟩⟩
theorem dots_okC{b:Bt}{i:Nat}{ds:List Dt}(hr:Rise ds)(ho:∀d∈ds,PkD b i d):dotsOk b i ds=true:=by
 have:∀n,n<=ds.length->dotsTo b i ds n=true:=by
  intro n;induction n with
  | zero=>intro _;rfl
  | succ k ih=>
   intro hk;rw [dotsTo,ih (by omega),Bool.true_and];unfold dOk;have hk':k<ds.length:=by omega
   have e:ds.getD k ⟨0,0,0⟩=ds[k]:=by simp [hk']
   have hc:cov b ds[k] i=true:=ho _ (aU hk');rw [e,hc,Bool.and_true];rcases k with _ | k
   ·rfl
   ·have e2:ds.getD (k+1 - 1) ⟨0,0,0⟩=ds[k]:=by simp [show k<ds.length by omega]
    rw [e2,List.pairwise_iff_getElem.1 hr k (k+1) (by omega) hk' (by omega)];simp
 exact this _ (ac _)
theorem eff_okC{b:Bt}{i:Nat}{op:Int}{a:Sya}(h:AnsC (PkD b i) op a)(h1:1<=op)(h6:op<=6)(k:Nat)(hk8:k<8)(hkd:(k:Int) % 4=rKind op)(hd1:¬(a.ds.length:Int)<rLeastD op)(hd2:¬(a.ds.length:Int)>rMostD op):effOk b i (syE op k a)=true:=by
 unfold effOk isOp syE;simp only [ak,aq,beq_iff_eq];refine⟨⟨⟨⟨⟨⟨h1,h6⟩,⟨by omega,by omega⟩,hkd⟩,h.val⟩, ?_⟩,by omega,by omega⟩,dots_okC h.rise h.dots⟩;unfold refOk;rcases h.ref with⟨e,hu⟩ | ⟨hold,hu⟩
 ·rw [e,aA (show noneD ⟨0,0,0⟩=true from rfl)]
  simp [hu]
 ·rw [hold.ne]
  have hc:cov b a.ref i=true:=hold;rw [hc];simp [hu]
def ClkLe(c c':List Int):Prop:=c.length=c'.length∧∀j,c.getD j 0<=c'.getD j 0
theorem CkD.mono{c c':List Int}{d:Dt}(h:CkD c d)(hc:ClkLe c c'):CkD c' d:=⟨h.1,by rw [←hc.1];exact h.2.1,h.2.2.1,Int.le_trans h.2.2.2.1 (hc.2 _),h.2.2.2.2⟩
theorem zqy{b b':Bt}(ho:b'.o=b.o)(hs:b'.s=b.s)(hc:ClkLe b.clock b'.clock){d:Dt}{i:Int}(h:cov b d i=true):cov b' d i=true:=by
 have h1:=hc.1;have h2:=hc.2 d.o.toNat
 unfold cov inD at h ⊢;simp only [ak,Bool.or_eq_true,aq,beq_iff_eq] at h ⊢;rw [ho,hs,←h1];exact⟨h.1,h.2.imp (fun q=>Int.le_trans q h2) id⟩
theorem zti{b b':Bt}(ho:b'.o=b.o)(hs:b'.s=b.s)(hc:ClkLe b.clock b'.clock){i:Int}{e:Ef}(h:effOk b i e=true):effOk b' i e=true:=by
 unfold effOk at h ⊢;simp only [ak] at h ⊢;refine⟨⟨⟨h.1.1.1, ?_⟩,h.1.2⟩, ?_⟩
 ·have hr:=h.1.1.2
  unfold refOk at hr ⊢;split
  ·rename_i hn;rw [aA hn] at hr;exact hr
  ·rename_i hn
   rw [ap hn] at hr;simp only [ak] at hr ⊢;exact⟨hr.1,zqy ho hs hc hr.2⟩
 ·have hd:=h.2
  unfold dotsOk at hd ⊢
  have:∀n,dotsTo b i e.dots n=true->dotsTo b' i e.dots n=true:=by
   intro n;induction n with
   | zero=>intro _;rfl
   | succ k ih=>
    intro hq;rw [dotsTo,ak] at hq ⊢;refine⟨ih hq.1, ?_⟩;have q2:=hq.2;unfold dOk at q2 ⊢;rw [ak] at q2 ⊢;exact⟨q2.1,zqy ho hs hc q2.2⟩
  exact this _ hd
theorem zt8:∀{a b:List Int},a.length=b.length->(∀j,a.getD j 0<=b.getD j 0)->sumN a<=sumN b
 | [], [],_,_=>ac _
 | [],_::_,h,_=>by cases h
 | _::_, [],h,_=>by cases h
 | x::a,y::b,h,hj=>by
  have h0:x<=y:=hj 0;have ih:=zt8 (a:=a) (b:=b) (by simpa using h) (fun j=>by have:=hj (j+1);simpa using this);unfold sumN;omega
structure Gb(n:Nat)(b:Bt):Prop where
 isB:Wv.isB b=true
 cl:b.clock.length=n
 t:b.t<=sumN b.clock+1
