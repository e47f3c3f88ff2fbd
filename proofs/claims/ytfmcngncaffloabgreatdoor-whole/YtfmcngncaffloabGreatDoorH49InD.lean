import Derived.Test.YtfmcngncaffloabGreatDoorH47RsB
import Derived.Test.YtfmcngncaffloabGreatDoorH48AnE
import Derived.Test.YtfmcngncaffloabGreatDoorH45PsA
set_option maxHeartbeats 1600000
namespace Go.Proofs.YtfmcngncaffloabGreatDoor
open Go.RowKit
set_option maxRecDepth 100000
section
variable {w w0 : World} {own : Clr} {s rg cc pp ch : Nat} {pv : Value} {prs : List Nat} {S : Sto} {r : Nat} {R : Rp} {eb ef : Addr}
theorem zs9(h:StIn w own s rg cc pp ch pv prs S)(hr:r<prs.length)(hR:S.reps[r]?=some R)(hst:R.st ≠ 2)(P:World->Prop)(HC:Calls Tryz.prog 61 #[.pointer (some ⟨prs[r],0,none⟩)] w fun e w'=>e= .returned (.tuple #[])∧P w'):
  Calls Tryz.prog 31 #[.pointer (some ⟨s,0,none⟩),I r] w fun e w'=>e= .returned (I 0)∧P w':=by
 have HU:Hid (Calls Tryz.prog 37 #[.pointer (some ⟨s,0,none⟩),I r] w fun e w'=>e= .returned (.tuple #[.pointer (some ⟨prs[r],0,none⟩),I 0])∧w'=w):=zbg own s rg cc pp ch pv prs S r hr R hR hst w h
 clear h hR hst
 generalize prs[r]=p at *
 go_enter Tryz.func31,Tryz.ntmps31
 go_wp2_with fail
 refine HU.out.mono ?_
 rintro e w1 ⟨rfl,hw1⟩
 subst hw1
 go_wp2_with fail
 refine HC.mono ?_
 rintro e w2 ⟨rfl,h2⟩
 have HE:Hid (P w2):=h2
 clear h2 HC
 go_wp2
 go_ret
 exact⟨rfl,HE.out⟩
theorem zpu(h:StIn w own s rg cc pp ch pv prs S)(hr:r<prs.length)(hR:S.reps[r]?=some R)(hst:R.st ≠ 2)(k:Int)(P:World->Prop)(HC:Calls Tryz.prog 44 #[.pointer (some ⟨prs[r],0,none⟩),I k] w fun e w'=>e= .returned (.tuple #[])∧P w'):
  Calls Tryz.prog 20 #[.pointer (some ⟨s,0,none⟩),I r,I k] w fun e w'=>e= .returned (I 0)∧P w':=by
 have HU:Hid (Calls Tryz.prog 37 #[.pointer (some ⟨s,0,none⟩),I r] w fun e w'=>e= .returned (.tuple #[.pointer (some ⟨prs[r],0,none⟩),I 0])∧w'=w):=zbg own s rg cc pp ch pv prs S r hr R hR hst w h
 clear h hR hst
 generalize prs[r]=p at *
 go_enter Tryz.func20,Tryz.ntmps20
 go_wp2_with fail
 refine HU.out.mono ?_
 rintro e w1 ⟨rfl,hw1⟩
 subst hw1
 go_wp2_with fail
 refine HC.mono ?_
 rintro e w2 ⟨rfl,h2⟩
 have HE:Hid (P w2):=h2
 clear h2 HC
 go_wp2
 go_ret
 exact⟨rfl,HE.out⟩
theorem zkw(h:StIn w own s rg cc pp ch pv prs S)(hr:r<prs.length)(hR:S.reps[r]?=some R)(hst:R.st ≠ 2)(k:Int)(z:Int)(P:World->Prop)(HC:Calls Tryz.prog 43 #[.pointer (some ⟨prs[r],0,none⟩),I k] w fun e w'=>e= .returned (I z)∧P w'):
  Calls Tryz.prog 19 #[.pointer (some ⟨s,0,none⟩),I r,I k] w fun e w'=>e= .returned (I z)∧P w':=by
 have HU:Hid (Calls Tryz.prog 37 #[.pointer (some ⟨s,0,none⟩),I r] w fun e w'=>e= .returned (.tuple #[.pointer (some ⟨prs[r],0,none⟩),I 0])∧w'=w):=zbg own s rg cc pp ch pv prs S r hr R hR hst w h
 clear h hR hst
 generalize prs[r]=p at *
 go_enter Tryz.func19,Tryz.ntmps19
 go_wp2_with fail
 refine HU.out.mono ?_
 rintro e w1 ⟨rfl,hw1⟩
 subst hw1
 go_wp2_with fail
 refine HC.mono ?_
 rintro e w2 ⟨rfl,h2⟩
 have HE:Hid (P w2):=h2
 clear h2 HC
 go_wp2
 go_ret
 exact⟨rfl,HE.out⟩
theorem zf7(h:StIn w own s rg cc pp ch pv prs S)(hr:r<prs.length)(z:Int)(P:World->Prop)(HC:Calls Tryz.prog 62 #[.pointer (some ⟨prs[r],0,none⟩)] w fun e w'=>e= .returned (I z)∧P w'):
  Calls Tryz.prog 32 #[.pointer (some ⟨s,0,none⟩),I r] w fun e w'=>e= .returned (I z)∧P w':=by
 have HU:Hid (Calls Tryz.prog 35 #[.pointer (some ⟨s,0,none⟩),I r] w fun e w'=>e= .returned (.tuple #[.pointer (some ⟨prs[r],0,none⟩),I 0])∧w'=w):=zcv own s rg cc pp ch pv prs S r hr w h
 clear h
 generalize prs[r]=p at *
 go_enter Tryz.func32,Tryz.ntmps32
 go_wp2_with fail
 refine HU.out.mono ?_
 rintro e w1 ⟨rfl,hw1⟩
 subst hw1
 go_wp2_with fail
 refine HC.mono ?_
 rintro e w2 ⟨rfl,h2⟩
 have HE:Hid (P w2):=h2
 clear h2 HC
 go_wp2
 go_ret
 exact⟨rfl,HE.out⟩
theorem zy9(h:StIn w own s rg cc pp ch pv prs S)(hR:S.reps[r]?=some R)(hst:R.st ≠ 2)(t:Int)(ht:¬(0<=t∧t<S.reps.length)∨t=r):
  Calls Tryz.prog 30 #[.pointer (some ⟨s,0,none⟩),I r,I t] w fun e w'=>e= .returned (I 3)∧w'=w:=by
 obtain⟨hr,_⟩:=h.prl hR
 have HU:Hid (Calls Tryz.prog 37 #[.pointer (some ⟨s,0,none⟩),I r] w fun e w'=>e= .returned (.tuple #[.pointer (some ⟨prs[r],0,none⟩),I 0])∧w'=w):=zbg own s rg cc pp ch pv prs S r hr R hR hst w h
 have HH:Hid (Calls Tryz.prog 58 #[.pointer (some ⟨s,0,none⟩),I t] w fun e w'=>e= .returned (.bool (decide (0<=t∧t<S.reps.length)))∧w'=w):=zge own s rg cc pp ch pv prs S t w h
 clear h hR hst
 generalize prs[r]=p at *
 go_enter Tryz.func30,Tryz.ntmps30
 go_wp2_with fail
 refine HU.out.mono ?_
 rintro e w1 ⟨rfl,hw1⟩
 subst hw1
 go_wp2_with fail
 refine HH.out.mono ?_
 rintro e w2 ⟨rfl,hw2⟩
 subst hw2
 by_cases hb:0<=t∧t<(S.reps.length:Int)
 ·have hd:decide (0<=t∧t<(S.reps.length:Int))=true:=decide_eq_true hb
  have htr:t=r:=by rcases ht with h | h;exact absurd hb h;exact h
  subst htr
  rw [hd]
  clear HU HH
  go_wp2
  go_ret
  exact⟨rfl,rfl⟩
 ·have hd:decide (0<=t∧t<(S.reps.length:Int))=false:=decide_eq_false hb
  rw [hd]
  clear HU HH
  go_wp2
  go_ret
  exact⟨rfl,rfl⟩
theorem zv8(hen:Env w0 w own eb ef)(h:StIn w own s rg cc pp ch pv prs S)(hR:S.reps[r]?=some R)(hst:R.st ≠ 2)(hcl:R.clock.length<=4)(t:Nat)(ht:t<S.reps.length)(htr:t ≠ r):
  Calls Tryz.prog 30 #[.pointer (some ⟨s,0,none⟩),I r,I t] w fun e w'=>e= .returned (I 0)∧StOk w0 w own s {S with msgs:=addM S.msgs ⟨2,r,t,digB R.clock,false⟩} eb ef w':=by
 obtain⟨hr,hrp⟩:=h.prl hR
 have hrp:RpAt w own (1+11*r) prs[r] R:=hrp
 have HU:Hid (Calls Tryz.prog 37 #[.pointer (some ⟨s,0,none⟩),I r] w fun e w'=>e= .returned (.tuple #[.pointer (some ⟨prs[r],0,none⟩),I 0])∧w'=w):=zbg own s rg cc pp ch pv prs S r hr R hR hst w h
 have hd:decide (0<=(t:Int)∧(t:Int)<(S.reps.length:Int))=true:=decide_eq_true ⟨by omega,by omega⟩
 have HH:Hid (Calls Tryz.prog 58 #[.pointer (some ⟨s,0,none⟩),I t] w fun e w'=>e= .returned (.bool true)∧w'=w):=by have:=zge own s rg cc pp ch pv prs S t w h;rw [hd] at this;exact this
 have HD0:Hid (∀wx,Below w.heap.size w wx->Calls Tryz.prog 60 #[.pointer (some ⟨prs[r],0,none⟩)] wx fun e w'=>e= .returned (.string ⟨(digB R.clock).toArray⟩)∧Below wx.heap.size wx w'):=fun wx hb=>zns (newTo own w.heap.size 0) _ _ R wx (RpAt.keep hrp (fun b hl _=>hb.block b hl) (fun _ _ _ b hl _=>hb.block b hl) (zab _ _ _)) hcl
 have HS:Hid (∀w1,Below w.heap.size w w1->Calls Tryz.prog 59 #[.pointer (some ⟨pp,0,none⟩),I 2,I r,I t, .string ⟨(digB R.clock).toArray⟩] w1 fun e w'=>e= .returned (.tuple #[])∧StOk w0 w own s {S with msgs:=addM S.msgs ⟨2,r,t,digB R.clock,false⟩} eb ef w'):=fun w1 hb=>by
  have h1:=h.below hb
  have hen1:Env w0 w1 (newTo own w.heap.size 0) eb ef:=hen.tch (F:=fun _=>False) (Tch.below hb) (fun _ _ h=>h) (zab _ _ _)
  exact(zg7 _ 100 pp ch pv S.msgs 2 r t (digB R.clock) w1 h1.post).mono (fun e w' hh=>⟨hh.1,StOk.from (zab _ _ _) (Tch.below hb) (StOk.po h1 hen1 hh.2)⟩)
 have hne:¬(t:Int)=(r:Int):=by omega
 have c1:w.cell? ⟨s,1,none⟩=some (.pointer (some ⟨pp,0,none⟩)):=h.blk.cell 1
 clear h hR hst hen hrp hd
 generalize prs[r]=p at *
 generalize digB R.clock=dg at *
 go_enter Tryz.func30,Tryz.ntmps30
 go_wp2_with fail
 refine HU.out.mono ?_
 rintro e w1 ⟨rfl,hw1⟩
 subst hw1
 go_wp2_with fail
 refine HH.out.mono ?_
 rintro e w2 ⟨rfl,hw2⟩
 subst hw2
 clear HU HH
 have HDD:Hid (Calls Tryz.prog 60 #[.pointer (some ⟨p,0,none⟩)] w2.drew fun e w'=>e= .returned (.string ⟨dg.toArray⟩)∧Below w2.heap.size w2 w'):=(HD0.out w2.drew (Below.refl _ _).drew).mono (fun e w' hh=>⟨hh.1,(Below.refl _ _).drew.trans hh.2⟩)
 go_wp2_with fail
 go_region_law (first
  | (go_simp;go_at_call 60;refine HDD.out.mono ?_;rintro e w3 ⟨rfl,hb3⟩;have HB3:Hid (Below w2.heap.size w2 w3):=hb3;have c3:w3.cell? ⟨s,1,none⟩=some (.pointer (some ⟨pp,0,none⟩)):=zaa hb3 c1;clear hb3)
  | (go_simp;go_at_call 59;refine(HS.out w3 HB3.out).mono ?_;rintro e w4 ⟨rfl,h4⟩;have HE:Hid (StOk w0 w2 own s {S with msgs:=addM S.msgs ⟨2,r,t,dg,false⟩} eb ef w4):=h4;clear h4))
 all_goals
  (go_wp2
   go_ret
   exact⟨rfl,HE.out⟩)
end
def sndA(ms:List Ms)(t f:Int)(fs:List (List UInt8)):Nat->List Ms
 | 0=>ms
 | k+1=>addM (sndA ms t f fs k) ⟨1,t,f,fs.getD k [],false⟩
theorem zik(own:Clr)(s rg cc pp ch:Nat)(pv:Value)(prs:List Nat)(S:Sto)(f:Int)(t:Nat)(l:List UInt8)(R:Rp)(fs:List (List UInt8))(w w0:World)(eb ef:Addr)(hen:Env w0 w own eb ef)(h:StIn w own s rg cc pp ch pv prs S)(hR:S.reps[t]?=some R)(hst:R.st ≠ 2)(hfs:fs.length<=3)
  (hAn:∀(own:Clr) (p:Nat) (w:World),Env w0 w own eb ef->RpAt w own (1+11*t) p R->Calls Tryz.prog 91 #[.pointer (some ⟨p,0,none⟩), .string ⟨l.toArray⟩] w fun e w'=>AnsOk w fs e w'):
  Calls Tryz.prog 57 #[.pointer (some ⟨s,0,none⟩), .agg #[I 2,I f,I t, .string ⟨l.toArray⟩]] w fun e w'=>e= .returned (.tuple #[])∧StOk w0 w own s {S with msgs:=sndA S.msgs t f fs fs.length} eb ef w':=by
 obtain⟨wA,hwA⟩:∃wA,wA=w.alloc (.cells #[I 2,I f,I t, .string ⟨l.toArray⟩] 72):=⟨_,rfl⟩
 have hBA:Below w.heap.size w wA:=by rw [hwA];exact(Below.refl _ _).alloc (Nat.le_refl _) _
 have HX:Hid (Blk wA w.heap.size #[I 2,I f,I t, .string ⟨l.toArray⟩] 72):=by rw [hwA];exact heap_alloc_new w _
 have hSA:StIn wA (newTo own w.heap.size 0) s rg cc pp ch pv prs S:=h.below hBA
 have henA:Env w0 wA (newTo own w.heap.size 0) eb ef:=hen.tch (F:=fun _=>False) (Tch.below hBA) (fun _ _ h=>h) (zab _ _ _)
 obtain⟨hr,hrp⟩:=hSA.prl hR
 have HU:Hid (Calls Tryz.prog 37 #[.pointer (some ⟨s,0,none⟩),I t] wA fun e w'=>e= .returned (.tuple #[.pointer (some ⟨prs[t],0,none⟩),I 0])∧w'=wA):=zbg _ s rg cc pp ch pv prs S t hr R hR hst wA hSA
 have HC:Hid (Calls Tryz.prog 91 #[.pointer (some ⟨prs[t],0,none⟩), .string ⟨l.toArray⟩] wA fun e w'=>AnsOk wA fs e w'):=hAn _ prs[t] wA henA hrp
 have HSA:Hid (StIn wA (newTo own w.heap.size 0) s rg cc pp ch pv prs S):=hSA
 have HEA:Hid (Env w0 wA (newTo own w.heap.size 0) eb ef):=henA
 have HBA:Hid (Below w.heap.size w wA):=hBA
 clear h hen hSA henA hrp hR hst hAn hBA
 generalize prs[t]=p at HU HC
 have x0:wA.cell? ⟨w.heap.size,0,none⟩=some (I 2):=HX.out.cell 0
 have x1:wA.cell? ⟨w.heap.size,1,none⟩=some (I f):=HX.out.cell 1
 have x2:wA.cell? ⟨w.heap.size,2,none⟩=some (I t):=HX.out.cell 2
 have x3:wA.cell? ⟨w.heap.size,3,none⟩=some (.string ⟨l.toArray⟩):=HX.out.cell 3
 go_enter Tryz.func57,Tryz.ntmps57
 go_wp2_with fail
 rw [←hwA]
 clear hwA
 refine HU.out.mono ?_
 rintro e w1 ⟨rfl,hw1⟩
 subst hw1
 go_wp2_with fail
 refine HC.out.mono ?_
 rintro e wB ⟨⟨v,rfl,hrow⟩,hbB⟩
 obtain⟨va,vc,rfl⟩:=zd6 hrow
 have HROW:Hid (wB.ownsRow w1.heap.size 9 1 (.slice va fs.length vc) fs.length (fs.map strV)):=hrow
 have HXB:Hid (Blk wB w.heap.size #[I 2,I f,I t, .string ⟨l.toArray⟩] 72):=HX.out.kept hbB HX.out.lt
 have hws:w.heap.size<w1.heap.size:=HX.out.lt
 obtain⟨ownB,hownB⟩:∃ownB,ownB=newTo (newTo own w.heap.size 0) w1.heap.size 0:=⟨_,rfl⟩
 have HSB:Hid (StIn wB ownB s rg cc pp ch pv prs S):=by rw [hownB];exact HSA.out.below hbB
 have HEB:Hid (Env w0 wB ownB eb ef):=by rw [hownB];exact HEA.out.tch (F:=fun _=>False) (Tch.below hbB) (fun _ _ h=>h) (zab _ _ _)
 have HGB:Hid (∀g,w.heap.size<=g->ownB g=0):=fun g hg=>by
  rw [hownB]
  unfold newTo
  split
  ·rw [if_neg (by omega)]
  ·rfl
 have HFIN:Hid (∀S2 w9,StOk w0 wB ownB s S2 eb ef w9->StOk w0 w own s S2 eb ef w9):=fun S2 w9 h9=>by
  rw [hownB] at h9
  exact StOk.from (zab _ _ _) (Tch.below HBA.out) (StOk.from (zab _ _ _) (Tch.below hbB) h9)
 have HK0:Hid (StOk w0 wB ownB s {S with msgs:=sndA S.msgs t f fs 0} eb ef wB):=⟨ownB,rg,cc,pp,ch,pv,prs,Ext.refl _ _,HSB.out,HEB.out,Tch.refl _ _⟩
 clear hrow hbB hownB x0 x1 x2 x3 HC HU HX HSA HEA HSB HEB
 go_wp2_with fail
 go_loopw [32] (fun x wX=>∃k:Nat,k<=fs.length∧x=I k∧Hid (StOk w0 wB ownB s {S with msgs:=sndA S.msgs t f fs k} eb ef wX)) (fun x _=>fs.length - (intOf x).toNat)
 case atStart=>exact⟨0,Nat.zero_le _,rfl,HK0⟩
 case round=>
  obtain⟨k,hk,rfl,HK⟩:=hrel
  clear HK0
  by_cases hlt:k<fs.length
  ·obtain⟨own',rg',cc',pp',ch',pv',prs',hE,hS,hen',hT⟩:=HK.out
   have HS':Hid (StIn wr own' s rg' cc' pp' ch' pv' prs' {S with msgs:=sndA S.msgs t f fs k}):=hS
   have HEN':Hid (Env w0 wr own' eb ef):=hen'
   have HE':Hid (Ext ownB own' wB.heap.size):=hE
   have HT':Hid (Tch (fun k=>1<=ownB k∧ownB k<=100) wB wr):=hT
   have c1:wr.cell? ⟨s,1,none⟩=some (.pointer (some ⟨pp',0,none⟩)):=hS.blk.cell 1
   obtain⟨g,gc,hgv⟩:=zc5 HROW.out (by omega)
   cases hgv
   have hgl:=HROW.out.lt g rfl
   have hsame:∀b,w.heap.size<=b->b<wB.heap.size->wr.heap[b]?=wB.heap[b]?:=fun b h1 h2=>hT.block b h2 (fun e=>by have:=HGB.out b h1;omega)
   have e0:wr.cell? ⟨g,k,none⟩=some (.string ⟨(fs.getD k []).toArray⟩):=by
    have:=HROW.out.cells (g:=g) rfl k (strV (fs.getD k [])) (by simp [hlt])
    rw [Addr.add_lit,Nat.zero_add] at this
    exact za8 this (hsame g (by omega) hgl.2)
   have HXr:Hid (Blk wr w.heap.size #[I 2,I f,I t, .string ⟨l.toArray⟩] 72):=(hsame w.heap.size (Nat.le_refl _) HXB.out.lt).trans HXB.out
   have x1:wr.cell? ⟨w.heap.size,1,none⟩=some (I f):=HXr.out.cell 1
   have x2:wr.cell? ⟨w.heap.size,2,none⟩=some (I t):=HXr.out.cell 2
   have hki:(k:Int)<fs.length:=by omega
   have HSE:Hid (sndA S.msgs t f fs (k+1)=addM (sndA S.msgs t f fs k) ⟨1,t,f,fs.getD k [],false⟩):=by show _=_;rw [sndA]
   have HSN:Hid (Calls Tryz.prog 59 #[.pointer (some ⟨pp',0,none⟩),I 1,I t,I f, .string ⟨(fs.getD k []).toArray⟩] wr.drew fun e w'=>e= .returned (.tuple #[])∧StOk w0 wB ownB s {S with msgs:=sndA S.msgs t f fs (k+1)} eb ef w'):=by
    rw [HSE.out]
    have hbd:Below wr.heap.size wr wr.drew:=(Below.refl _ _).drew
    have h1:=HS'.out.below hbd
    have hen1:Env w0 wr.drew (newTo own' wr.heap.size 0) eb ef:=HEN'.out.tch (F:=fun _=>False) (Tch.below hbd) (fun _ _ h=>h) (zab _ _ _)
    exact(zg7 _ 100 pp' ch' pv' (sndA S.msgs t f fs k) 1 t f (fs.getD k []) wr.drew h1.post).mono (fun e w' hh=>⟨hh.1,StOk.from HE'.out HT'.out (StOk.from (zab _ _ _) (Tch.below hbd) (StOk.po h1 hen1 hh.2))⟩)
   clear hE hS hen' hT HK hsame HXr
   generalize fs.getD k []=fr at *
   go_wp2_with fail
   go_region_law ((go_simp;go_at_call 59;refine HSN.out.mono ?_;rintro e w2 ⟨rfl,h2⟩;have HN:Hid (StOk w0 wB ownB s {S with msgs:=sndA S.msgs t f fs (k+1)} eb ef w2):=h2;clear h2))
   all_goals
    (go_wp2_with fail
     go_roundw
     case rel=>exact⟨k+1,hlt,by go_num,HN⟩
     case measure=>simp [intOf];omega)
  ·have hki:¬(k:Int)<fs.length:=by omega
   have HN:Hid (StOk w0 w own s {S with msgs:=sndA S.msgs t f fs fs.length} eb ef wr):=by
    have:k=fs.length:=by omega
    rw [this] at HK
    exact HFIN.out _ _ HK.out
   clear HK
   go_wp2
   go_end0
   exact⟨rfl,HN.out⟩
theorem zlz(own:Clr)(s rg cc pp ch:Nat)(pv:Value)(prs:List Nat)(S:Sto)(k f:Int)(t:Nat)(l:List UInt8)(R:Rp)(w w0:World)(eb ef:Addr)(hen:Env w0 w own eb ef)(h:StIn w own s rg cc pp ch pv prs S)(hR:S.reps[t]?=some R)(hst:R.st=2):
  Calls Tryz.prog 57 #[.pointer (some ⟨s,0,none⟩), .agg #[I k,I f,I t, .string ⟨l.toArray⟩]] w fun e w'=>e= .returned (.tuple #[])∧StOk w0 w own s S eb ef w':=by
 obtain⟨wA,hwA⟩:∃wA,wA=w.alloc (.cells #[I k,I f,I t, .string ⟨l.toArray⟩] 72):=⟨_,rfl⟩
 have hBA:Below w.heap.size w wA:=by rw [hwA];exact(Below.refl _ _).alloc (Nat.le_refl _) _
 have HX:Hid (Blk wA w.heap.size #[I k,I f,I t, .string ⟨l.toArray⟩] 72):=by rw [hwA];exact heap_alloc_new w _
 have HU:Hid (UpBad wA (.pointer (some ⟨s,0,none⟩)) t 4):=zc1 _ s rg cc pp ch pv prs S t R hR hst wA (h.below hBA)
 have HE:Hid (StOk w0 w own s S eb ef wA):=StOk.below h hen hBA
 have x2:wA.cell? ⟨w.heap.size,2,none⟩=some (I t):=HX.out.cell 2
 clear h hen hR hst hBA
 go_enter Tryz.func57,Tryz.ntmps57
 go_wp2_with fail
 rw [←hwA]
 clear hwA
 refine HU.out.2.mono ?_
 rintro e w1 ⟨rfl,hw1⟩
 subst hw1
 clear HU
 go_wp2
 refine bodyPost_ret (results_none rfl _ _ _) rfl ?_
 exact⟨rfl,HE.out⟩
theorem zl3(own:Clr)(s rg cc pp ch:Nat)(pv:Value)(prs:List Nat)(S S':Sto)(i:Nat)(m:Ms)(w w0:World)(eb ef:Addr)(hen:Env w0 w own eb ef)(h:StIn w own s rg cc pp ch pv prs S)(hi:S.msgs[i]?=some m)
  (hT:∀(own:Clr) (rg cc pp ch:Nat) (pv:Value) (prs:List Nat) (w:World),Env w0 w own eb ef->StIn w own s rg cc pp ch pv prs {S with msgs:=S.msgs.eraseIdx i}->Calls Tryz.prog 57 #[.pointer (some ⟨s,0,none⟩), .agg #[I m.k,I m.f,I m.t, .string ⟨m.bs.toArray⟩]] w fun e w'=>e= .returned (.tuple #[])∧StOk w0 w own s S' eb ef w'):
  Calls Tryz.prog 28 #[.pointer (some ⟨s,0,none⟩),I i] w fun e w'=>e= .returned (I 0)∧StOk w0 w own s S' eb ef w':=by
 have HC:Hid (Calls Tryz.prog 56 #[.pointer (some ⟨pp,0,none⟩),I i] w fun e w'=>e= .returned (.tuple #[.agg #[I m.k,I m.f,I m.t, .string ⟨m.bs.toArray⟩],I 0])∧StOk w0 w own s {S with msgs:=S.msgs.eraseIdx i} eb ef w'):=(zk6 own 100 pp ch pv S.msgs i _ w h.post hi).mono (fun e w' hh=>⟨hh.1,StOk.po h hen hh.2⟩)
 have c1:w.cell? ⟨s,1,none⟩=some (.pointer (some ⟨pp,0,none⟩)):=h.blk.cell 1
 have HTK:=hT
 clear h hen hi hT
 go_enter Tryz.func28,Tryz.ntmps28
 go_wp2_with fail
 refine HC.out.mono ?_
 rintro e w1 ⟨rfl,h1⟩
 obtain⟨own2,rg2,cc2,pp2,ch2,pv2,prs2,hE2,hS2,hen2,hT2⟩:=h1
 have HS2:Hid (StIn w1 own2 s rg2 cc2 pp2 ch2 pv2 prs2 {S with msgs:=S.msgs.eraseIdx i}):=hS2
 have HEN2:Hid (Env w0 w1 own2 eb ef):=hen2
 have HE2:Hid (Ext own own2 w.heap.size):=hE2
 have HT2:Hid (Tch (fun k=>1<=own k∧own k<=100) w w1):=hT2
 clear hE2 hS2 hen2 hT2 HC
 have HB3:Hid (Below w1.heap.size w1 (w1.alloc (.cells #[I m.k,I m.f,I m.t, .string ⟨m.bs.toArray⟩] 72))):=(Below.refl _ _).alloc (Nat.le_refl _) _
 go_wp2_with fail
 refine(HTK (newTo own2 w1.heap.size 0) rg2 cc2 pp2 ch2 pv2 prs2 (w1.alloc (.cells #[I m.k,I m.f,I m.t, .string ⟨m.bs.toArray⟩] 72)) (HEN2.out.tch (F:=fun _=>False) (Tch.below HB3.out) (fun _ _ h=>h) (zab _ _ _)) (HS2.out.below HB3.out)).mono ?_
 rintro e w3 ⟨rfl,h3⟩
 have HE:Hid (StOk w0 w own s S' eb ef w3):=StOk.from HE2.out HT2.out (StOk.from (zab _ _ _) (Tch.below HB3.out) h3)
 clear h3
 go_wp2
 go_ret
 exact⟨rfl,HE.out⟩
theorem zvz(R:Rp)(l:List UInt8):(answR R l).length<=3:=by
 have key:∀(kn:List Int) (m:Nat) (l:List UInt8) (acc:List (List UInt8)),acc.length<=3->(acc.length=3->False)->(ansL kn m l acc).length<=3:=by
  intro kn m
  induction m with
  | zero=>intro l acc h _;exact h
  | succ m ih=>
   intro l acc h h3
   rw [ansL]
   split
   ·exact h
   ·rename_i b _
    obtain⟨acc',ha⟩:∃acc',acc'=(if b.s>kn.getD b.o.toNat 0 then acc++ [fstB l] else acc):=⟨_,rfl⟩
    have hle:acc'.length<=3:=by
     rw [ha]
     split
     ·rw [List.length_append];have:acc.length ≠ 3:=fun e=>h3 e;simp;omega
     ·exact h
    rw [←ha]
    by_cases hn:acc'.length=3
    ·rw [if_pos hn];exact hle
    ·rw [if_neg hn];exact ih _ _ hle hn
 unfold answR
 split
 ·exact key _ _ _ _ (by simp) (by simp)
 ·simp
structure MsOk(n:Nat)(m:Ms):Prop where
 t0:0<=m.t
 t1:m.t<n
 kind:m.k=1∨m.k=2
 len:m.bs.length<=70000
 fit:m.k=1->∀b,Wv.dec m.bs=some b->b.clock.length=n
structure Rlg(n:Nat)(R:Rp):Prop where
 ok:Rok R
 cl:R.clock.length=n
 n4:n<=4
 n1:1<=n
 lg:LogN n R.log
def zf5(S:Sto)(i:Nat)(m:Ms)(R:Rp):Sto:=
 if R.st=2 then {S with msgs:=S.msgs.eraseIdx i}
 else if m.k=1 then⟨S.reps.set m.t.toNat (zbk R m.bs),S.msgs.eraseIdx i⟩
 else {S with msgs:=sndA (S.msgs.eraseIdx i) m.t m.f (answR R m.bs) (answR R m.bs).length}
theorem zhx{R:Rp}{l:List UInt8}(h:Wv.dec l=none):zbk R l=R:=by unfold zbk;rw [h]
theorem zrf{R:Rp}{l:List UInt8}{b:Wv.Bt}(h:Wv.dec l=some b)(hs:b.s<=R.clock.getD b.o.toNat 0):zbk R l=R:=by
 unfold zbk;rw [h];simp only
 rw [if_pos (Or.inr hs)]
theorem zp4{w0:World}{eb ef:Addr}{n:Nat}{R:Rp}{l:List UInt8}(hI:zaj)(hg:Gd w0)(hR:Rok R)(hcl:R.clock.length=n)(hl:l.length<=70000)(hf:∀b,Wv.dec l=some b->b.clock.length=n):zm1 w0 eb ef R l (zbk R l):=by
 cases hd:Wv.dec l with
 | none=>rw [zhx hd];exact znb hI hg (by omega) hd
 | some b=>
  have hfb:b.clock.length=R.clock.length:=by rw [hf b hd,hcl]
  by_cases hs:b.s<=R.clock.getD b.o.toNat 0
  ·rw [zrf hd hs]
   intro own c p w hc hen h
   exact zkc own c p R l b w w0 eb ef hI (hg.kept hen.bel) hen h hR hd hfb hs
  ·exact zp3 hI hg hR hd hfb hs
theorem zl4(own:Clr)(s rg cc pp ch:Nat)(pv:Value)(prs:List Nat)(S:Sto)(n i:Nat)(m:Ms)(R:Rp)(w w0:World)(eb ef:Addr)(hI:zaj)(hg:Gd w0)(hgg:Gg w0)(hen:Env w0 w own eb ef)(h:StIn w own s rg cc pp ch pv prs S)(hi:S.msgs[i]?=some m)(hm:MsOk n m)(hR:S.reps[m.t.toNat]?=some R)(hro:R.st ≠ 2->Rlg n R):
  Calls Tryz.prog 28 #[.pointer (some ⟨s,0,none⟩),I i] w fun e w'=>e= .returned (I 0)∧StOk w0 w own s (zf5 S i m R) eb ef w':=by
 refine zl3 own s rg cc pp ch pv prs S _ i m w w0 eb ef hen h hi ?_
 intro own rg cc pp ch pv prs w hen h
 have ht:I m.t=I (m.t.toNat:Int):=by congr 1;have:=hm.t0;omega
 rw [ht]
 unfold zf5
 by_cases hst:R.st=2
 ·rw [if_pos hst]
  exact zlz own s rg cc pp ch pv prs _ m.k m.f m.t.toNat m.bs R w w0 eb ef hen h hR hst
 ·rw [if_neg hst]
  have hl:=hro hst
  rcases hm.kind with hk | hk
  ·rw [if_pos hk]
   have:=zkb own s rg cc pp ch pv prs _ m.f m.t.toNat m.bs R (zbk R m.bs) w w0 eb ef hen h hR hst (zp4 hI hg hl.ok hl.cl hm.len (hm.fit hk))
   rw [hk]
   exact this
  ·rw [if_neg (by omega)]
   have:=zik own s rg cc pp ch pv prs _ m.f m.t.toNat m.bs R (answR R m.bs) w w0 eb ef hen h hR hst (zvz R m.bs) (fun own p w hen hrp=>by
    unfold answR
    split
    ·rename_i hd
     have hlog:R.log.length<=10000000:=by have h1:=hl.ok.logl;have h2:=hl.ok.sum;omega
     have h4:=hl.n4;have h5:=hl.n1;have h6:=hl.cl
     exact znt own _ p R m.bs w w0 eb ef hI hg hen hrp (by omega) (by omega) hd hlog (by rw [h6];exact hl.lg)
    ·rename_i hd
     have h4:=hl.n4;have h6:=hl.cl
     exact zqe own _ p R m.bs w (hgg.kept hen.bel) hrp (by omega) (by simpa using hd))
   rw [hk]
   have e:(m.t.toNat:Int)=m.t:=by have:=hm.t0;omega
   rw [e] at this
   rw [e]
   exact this
def CkD(cl:List Int)(d:Wv.Dt):Prop:=0<=d.o∧d.o<cl.length∧1<=d.s∧d.s<=cl.getD d.o.toNat 0∧0<=d.i∧d.i<5
def PkD(b:Wv.Bt)(j:Nat)(d:Wv.Dt):Prop:=Wv.cov b d j=true
theorem CkD.pk{b:Wv.Bt}{d:Wv.Dt}(h:CkD b.clock d)(j:Nat):PkD b j d:=by
 obtain⟨h1,h2,h3,h4,h5,h6⟩:=h
 unfold PkD Wv.cov Wv.inD
 simp only [Bool.and_eq_true,Bool.or_eq_true,decide_eq_true_eq,beq_iff_eq]
 exact⟨⟨⟨⟨⟨h1,h2⟩,h3⟩,h5⟩,h6⟩,Or.inl h4⟩
theorem PkD.mono{b:Wv.Bt}{d:Wv.Dt}{i j:Nat}(h:PkD b i d)(hij:i<=j):PkD b j d:=by
 unfold PkD Wv.cov at h ⊢
 simp only [Bool.and_eq_true,Bool.or_eq_true,decide_eq_true_eq,beq_iff_eq] at h ⊢
 exact⟨h.1,h.2.imp id (fun q=>⟨q.1,by omega⟩)⟩
theorem PkD.ne{b:Wv.Bt}{d:Wv.Dt}{i:Nat}(h:PkD b i d):Wv.noneD d=false:=by
 unfold PkD Wv.cov Wv.inD at h
 simp only [Bool.and_eq_true,decide_eq_true_eq] at h
 unfold Wv.noneD
 simp only [Bool.and_eq_false_iff,beq_eq_false_iff_ne]
 omega
theorem zzn{b:Wv.Bt}(h0:0<=b.o)(h1:b.o<b.clock.length)(hs:1<=b.s){i j:Nat}(hij:i<j)(h5:i<5):PkD b j (zbr b i).d:=by
 unfold PkD Wv.cov Wv.inD zbr
 simp only [Bool.and_eq_true,Bool.or_eq_true,decide_eq_true_eq,beq_iff_eq]
 exact⟨⟨⟨⟨⟨h0,h1⟩,hs⟩,by omega⟩,by omega⟩,Or.inr ⟨⟨trivial,trivial⟩,by omega⟩⟩
theorem zyi{b:Wv.Bt}{i:Nat}{ds:List Wv.Dt}(hr:Rise ds)(ho:∀d∈ds,PkD b i d):Wv.dotsOk b i ds=true:=by
 have:∀n,n<=ds.length->Wv.dotsTo b i ds n=true:=by
  intro n
  induction n with
  | zero=>intro _;rfl
  | succ k ih=>
   intro hk
   rw [Wv.dotsTo,ih (by omega),Bool.true_and]
   unfold Wv.dOk
   have hk':k<ds.length:=by omega
   have e:ds.getD k ⟨0,0,0⟩=ds[k]:=by simp [hk']
   have hc:Wv.cov b ds[k] i=true:=ho _ (List.getElem_mem hk')
   rw [e,hc,Bool.and_true]
   rcases k with _ | k
   ·rfl
   ·have e2:ds.getD (k+1 - 1) ⟨0,0,0⟩=ds[k]:=by simp [show k<ds.length by omega]
    rw [e2,List.pairwise_iff_getElem.1 hr k (k+1) (by omega) hk' (by omega)]
    simp
 exact this _ (Nat.le_refl _)
theorem zz5{b:Wv.Bt}{i:Nat}{op:Int}{a:Sya}(h:AnsC (PkD b i) op a)(h1:1<=op)(h6:op<=6)(k:Nat)(hk8:k<8)(hkd:(k:Int) % 4=Wv.rKind op)(hd1:¬(a.ds.length:Int)<Wv.rLeastD op)(hd2:¬(a.ds.length:Int)>Wv.rMostD op):Wv.effOk b i (syE op k a)=true:=by
 unfold Wv.effOk Wv.isOp syE
 simp only [Bool.and_eq_true,decide_eq_true_eq,beq_iff_eq]
 refine⟨⟨⟨⟨⟨⟨h1,h6⟩,⟨by omega,by omega⟩,hkd⟩,h.val⟩, ?_⟩,by omega,by omega⟩,zyi h.rise h.dots⟩
 unfold Wv.refOk
 rcases h.ref with⟨e,hu⟩ | ⟨hold,hu⟩
 ·rw [e,if_pos (show Wv.noneD ⟨0,0,0⟩=true from rfl)]
  simp [hu]
 ·rw [hold.ne]
  have hc:Wv.cov b a.ref i=true:=hold
  rw [hc]
  simp [hu]
def ClkLe(c c':List Int):Prop:=c.length=c'.length∧∀j,c.getD j 0<=c'.getD j 0
theorem CkD.mono{c c':List Int}{d:Wv.Dt}(h:CkD c d)(hc:ClkLe c c'):CkD c' d:=⟨h.1,by rw [←hc.1];exact h.2.1,h.2.2.1,Int.le_trans h.2.2.2.1 (hc.2 _),h.2.2.2.2⟩
theorem zpa{b b':Wv.Bt}(ho:b'.o=b.o)(hs:b'.s=b.s)(hc:ClkLe b.clock b'.clock){d:Wv.Dt}{i:Int}(h:Wv.cov b d i=true):Wv.cov b' d i=true:=by
 have h1:=hc.1;have h2:=hc.2 d.o.toNat
 unfold Wv.cov Wv.inD at h ⊢
 simp only [Bool.and_eq_true,Bool.or_eq_true,decide_eq_true_eq,beq_iff_eq] at h ⊢
 rw [ho,hs,←h1]
 exact⟨h.1,h.2.imp (fun q=>Int.le_trans q h2) id⟩
theorem zrr{b b':Wv.Bt}(ho:b'.o=b.o)(hs:b'.s=b.s)(hc:ClkLe b.clock b'.clock){i:Int}{e:Wv.Ef}(h:Wv.effOk b i e=true):Wv.effOk b' i e=true:=by
 unfold Wv.effOk at h ⊢
 simp only [Bool.and_eq_true] at h ⊢
 refine⟨⟨⟨h.1.1.1, ?_⟩,h.1.2⟩, ?_⟩
 ·have hr:=h.1.1.2
  unfold Wv.refOk at hr ⊢
  split
  ·rename_i hn;rw [if_pos hn] at hr;exact hr
  ·rename_i hn
   rw [if_neg hn] at hr
   simp only [Bool.and_eq_true] at hr ⊢
   exact⟨hr.1,zpa ho hs hc hr.2⟩
 ·have hd:=h.2
  unfold Wv.dotsOk at hd ⊢
  have:∀n,Wv.dotsTo b i e.dots n=true->Wv.dotsTo b' i e.dots n=true:=by
   intro n
   induction n with
   | zero=>intro _;rfl
   | succ k ih=>
    intro hq
    rw [Wv.dotsTo,Bool.and_eq_true] at hq ⊢
    refine⟨ih hq.1, ?_⟩
    have q2:=hq.2
    unfold Wv.dOk at q2 ⊢
    rw [Bool.and_eq_true] at q2 ⊢
    exact⟨q2.1,zpa ho hs hc q2.2⟩
  exact this _ hd
theorem zse:∀{a b:List Int},a.length=b.length->(∀j,a.getD j 0<=b.getD j 0)->sumN a<=sumN b
 | [], [],_,_=>Nat.le_refl _
 | [],_::_,h,_=>by cases h
 | _::_, [],h,_=>by cases h
 | x::a,y::b,h,hj=>by
  have h0:x<=y:=hj 0
  have ih:=zse (a:=a) (b:=b) (by simpa using h) (fun j=>by have:=hj (j+1);simpa using this)
  unfold sumN
  omega
structure Gb(n:Nat)(b:Wv.Bt):Prop where
 isB:Wv.isB b=true
 cl:b.clock.length=n
 t:b.t<=sumN b.clock+1
structure RU(n r:Nat)(R:Rp):Prop where
 ok:Rok R
 cl:R.clock.length=n
 n2:2<=n
 n4:n<=4
 rlt:r<n
 num:R.n=r
 st:R.st=0∨R.st=1
 idle:R.st=0->R.effs= []
 seq:R.st=1->R.clock.getD r 0<30
 el:R.effs.length<=5
 eff:∀j (h:j<R.effs.length),Wv.effOk (pendB R) j R.effs[j]=true
 obs:∀k:Nat,k<8->∃o,R.obs[k]?=some o∧o.kind=k % 4∧o.cv (CkD R.clock)
 time:R.time<=sumN R.clock
 held:∀b∈R.held,Gb n b
section
variable {n r : Nat} {R : Rp}
theorem RU.ev(h:RU n r R):∀e∈R.effs,0<=e.ob∧e.ob<8∧ -1000<=e.va∧e.va<=1000∧e.dots.length<=1048576:=fun e he=>by
 obtain⟨j,hj,rfl⟩:=List.mem_iff_getElem.1 he
 have:=zyf (h.eff j hj)
 omega
theorem RU.up(h:RU n r R):Rup R:=by
 have h1:=h.num;have h2:=h.rlt;have h3:=h.el;have h5:=h.st;have h6:=h.cl
 refine⟨h.ok,by omega,by rw [h6,h1];omega, ?_,by omega,h.ev⟩
 rcases h5 with e | e<;>rw [e]<;>omega
theorem RU.p1(h:RU n r R):(pendB R).o=r:=h.num
theorem RU.p2(h:RU n r R):(pendB R).s=R.clock.getD r 0+1:=by
 show R.clock.getD R.n.toNat 0+1=_
 rw [h.num,Int.toNat_natCast]
theorem RU.see(h:RU n r R){k:Nat}(hk:k<8){o:Ob}(ho:R.obs[k]?=some o):∀j,j<=R.effs.length->(seeTo (pendB R) k o j).cv (PkD (pendB R) j):=by
 intro j
 obtain⟨o',g1,g2,g3⟩:=h.obs k hk
 obtain rfl:o'=o:=by rw [ho] at g1;exact(Option.some.inj g1).symm
 induction j with
 | zero=>intro _;exact g3.mono (fun d hd=>CkD.pk (b:=pendB R) hd 0)
 | succ i ih=>
  intro hi
  have h0:=ih (by omega)
  have h9:(seeTo (pendB R) k o' i).cv (PkD (pendB R) (i+1)):=h0.mono (fun d hd=>hd.mono (by omega))
  have q1:=h.p1;have q2:=h.p2;have q3:=h.rlt;have q4:=h.cl;have q5:=h.el
  have q6:=(h.ok.getD r).1
  rw [seeTo]
  split
  ·split
   ·refine h9.take _ _ (zzn ?_ ?_ ?_ (by omega) (by omega))
    ·omega
    ·show(pendB R).o<(R.clock.length:Int);omega
    ·omega
   ·exact h9
  ·exact h9
theorem RU.head(h:RU n r R)(h1:R.st=1)(he:R.effs ≠ []):Wv.isB (pendB R)=true:=by
 have h2:=h.rlt;have h3:=h.el;have h4:=h.n2;have h5:=h.n4;have h6:=h.cl
 have ho:=h.p1
 have hsq:=h.p2
 have hs30:=h.seq h1
 have hc:(pendB R).clock=R.clock:=rfl
 have hl:(pendB R).clock.length=n:=h6
 have hpos:0<R.effs.length:=List.length_pos_iff.2 he
 have hel:(pendB R).effs.length=R.effs.length:=rfl
 have ht:(pendB R).t=R.time+1:=rfl
 have ht1:R.time<=120:=by have:=h.time;have:=h.ok.sum;omega
 have ht0:=h.ok.time0
 have hg0:=(h.ok.getD r).1
 unfold Wv.isB Wv.headOk
 rw [Bool.and_eq_true]
 constructor
 ·simp only [Bool.and_eq_true,decide_eq_true_eq]
  refine⟨⟨⟨⟨⟨⟨by omega,by omega⟩,by omega,by omega⟩,by omega,by omega⟩,by omega,by omega⟩,by omega,by omega⟩, ?_⟩
  have hall:∀m,m<=n->Wv.clkTo (pendB R) m=true:=by
   intro m
   induction m with
   | zero=>intro _;rfl
   | succ m ih=>
    intro hm
    rw [Wv.clkTo,ih (by omega),Bool.true_and]
    unfold Wv.cOk
    rw [hc,ho,hsq]
    have hgm:=h.ok.getD m
    by_cases hq:r=m
    ·subst hq
     have e1:(R.clock.getD r 0==R.clock.getD r 0+1 - 1)=true:=by rw [beq_iff_eq];omega
     rw [e1,decide_eq_true hgm.1,decide_eq_true hgm.2]
     simp
    ·have e1:((m:Int)==(r:Int))=false:=beq_eq_false_iff_ne.2 (by omega)
     rw [e1,decide_eq_true hgm.1,decide_eq_true hgm.2]
     rfl
  unfold Wv.clkOk
  rw [hl]
  exact hall n (Nat.le_refl _)
 ·have hall:∀m,m<=R.effs.length->Wv.effsTo (pendB R) m=true:=by
   intro m
   induction m with
   | zero=>intro _;rfl
   | succ m ih=>
    intro hm
    rw [Wv.effsTo,ih (by omega),Bool.true_and]
    have e:(pendB R).effs.getD m ⟨0,0,0,⟨0,0,0⟩, []⟩=R.effs[m]:=by
     show R.effs.getD m _=_
     simp [show m<R.effs.length by omega]
    rw [e]
    exact h.eff m (by omega)
  rw [hel]
  exact hall _ (Nat.le_refl _)
theorem RU.gb(h:RU n r R)(h1:R.st=1)(he:R.effs ≠ []):Gb n (pendB R):=⟨h.head h1 he,h.cl,by show R.time+1<=(sumN R.clock:Int)+1;have:=h.time;omega⟩
end
theorem ztr{C:Wv.Dt->Prop}{obs:List Ob}(h:∀o∈obs,o.cv C)(s:Stp)(e:Wv.Ef)(hs:C s.d):∀o∈zcc obs s e,o.cv C:=by
 unfold zcc
 split
 ·exact h
 ·rename_i o ho
  intro x hx
  rcases List.mem_or_eq_of_mem_set hx with q | q
  ·exact h x q
  ·rw [q];exact(h o (List.mem_of_getElem? ho)).take s e hs
theorem zn2{C:Wv.Dt->Prop}{obs:List Ob}(b:Wv.Bt)(h:∀o∈obs,o.cv C)(hs:∀i,i<b.effs.length->C (zbr b i).d):∀j,j<=b.effs.length->∀o∈obsTo b obs j,o.cv C
 | 0,_=>h
 | j+1,hj=>by
  have ih:=zn2 b h hs j (by omega)
  rw [obsTo]
  split
  ·exact ih
  ·exact ztr ih _ _ (hs j (by omega))
theorem znf(obs:List Ob)(s:Stp)(e:Wv.Ef)(k:Nat):((zcc obs s e)[k]?).map Ob.kind=(obs[k]?).map Ob.kind:=by
 unfold zcc
 split
 ·rfl
 ·rename_i o ho
  rw [List.getElem?_set]
  split
  ·rename_i e1
   subst e1
   rw [ho]
   split
   ·show some (o.take s e).kind=some o.kind
    rw [Ob.take_kind]
   ·rename_i hl
    rw [List.getElem?_eq_none (by omega)] at ho
    cases ho
  ·rfl
theorem zfx(b:Wv.Bt)(obs:List Ob)(k:Nat):∀j,((obsTo b obs j)[k]?).map Ob.kind=(obs[k]?).map Ob.kind
 | 0=>rfl
 | j+1=>by
  rw [obsTo]
  split
  ·exact zfx b obs k j
  ·rw [znf];exact zfx b obs k j
theorem zcm(l:List Int)(k j:Nat)(z:Int)(hk:k<l.length):(l.set k z).getD j 0=if j=k then z else l.getD j 0:=by
 by_cases h:j=k
 ·subst h;simp [hk]
 ·rw [if_neg h,List.getD_eq_getElem?_getD,List.getD_eq_getElem?_getD,List.getElem?_set_ne (fun e=>h e.symm)]
theorem zyh{cl:List Int}{b:Wv.Bt}(hd:dueB cl b=true)(h0:0<=b.o)(h1:b.o<b.clock.length):ClkLe cl (cl.set b.o.toNat b.s):=by
 obtain⟨e1,_,e3⟩:=zd0 hd
 refine⟨by simp,fun j=> ?_⟩
 rw [zcm _ _ _ _ (by omega)]
 split
 ·rename_i e;subst e;omega
 ·exact Int.le_refl _
section
variable {n r : Nat} {R : Rp}
theorem RU.allcv(h:RU n r R):∀o∈R.obs,o.cv (CkD R.clock):=fun o ho=>by
 obtain⟨k,hk,rfl⟩:=List.mem_iff_getElem.1 ho
 obtain⟨o',g1,_,g3⟩:=h.obs k (by rw [←h.ok.obs8];exact hk)
 rw [List.getElem?_eq_getElem hk] at g1
 rw [Option.some.inj g1]
 exact g3
theorem RU.deliver(h:RU n r R){b:Wv.Bt}{fr:List UInt8}{hs:List Wv.Bt}(hb:Gb n b)(hd:dueB R.clock b=true)(hf:fr.length<=70000)(hh:∀x∈hs,Gb n x)(hl:hs.length<=6)(ho:b.o ≠ r∨R.st=0):RU n r (zaq R b fr hs):=by
 obtain⟨p1,p2,p3,p4,p5,p6,p7,p8⟩:=zas hb.isB
 obtain⟨d1,d2,d3⟩:=zd0 hd
 have hle:=zyh hd p2 p3
 have hc:(zaq R b fr hs).clock=R.clock.set b.o.toNat b.s:=rfl
 have hol:b.o.toNat<R.clock.length:=by omega
 have hsum:sumN (R.clock.set b.o.toNat b.s)=sumN R.clock+1:=ziu _ _ _ hol (h.ok.getD _).1 d3
 have hst:(zaq R b fr hs).st=R.st:=rfl
 have heq:(zaq R b fr hs).effs=R.effs:=rfl
 refine⟨h.ok.deliver hb.isB hf hd (fun x hx=>(hh x hx).isB) hl,by rw [hc,List.length_set];exact h.cl,h.n2,h.n4,h.rlt,h.num,h.st,h.idle,fun e=> ?_,h.el,fun j hj=> ?_,fun k hk=> ?_, ?_,hh⟩
 ·rw [hc,zcm _ _ _ _ hol]
  have e:R.st=1:=e
  rcases ho with q | q
  ·rw [if_neg (by omega)];exact h.seq e
  ·omega
 ·rcases ho with q | q
  ·refine zrr (b:=pendB R) (b':=pendB (zaq R b fr hs)) rfl ?_ hle (h.eff j hj)
   show(R.clock.set b.o.toNat b.s).getD R.n.toNat 0+1=R.clock.getD R.n.toNat 0+1
   rw [zcm _ _ _ _ hol,if_neg (by have:=h.num;omega)]
  ·have:=h.idle q
   have hj:j<R.effs.length:=hj
   rw [this] at hj
   cases hj
 ·obtain⟨o,g1,g2,g3⟩:=h.obs k hk
  have hkk:=zfx b R.obs k b.effs.length
  rw [g1] at hkk
  cases hq:(obsTo b R.obs b.effs.length)[k]? with
  | none=>rw [hq] at hkk;cases hkk
  | some o'=>
   rw [hq] at hkk
   have hkk:o'.kind=o.kind:=Option.some.inj hkk
   refine⟨o',hq,hkk.trans g2, ?_⟩
   refine zn2 b (fun x hx=>(h.allcv x hx).mono (fun d hd=>hd.mono hle)) (fun i hi=> ?_) _ (Nat.le_refl _) o' (List.mem_of_getElem? hq)
   show CkD (R.clock.set b.o.toNat b.s) ⟨b.o,b.s,i⟩
   refine⟨p2,by show b.o<((R.clock.set b.o.toNat b.s).length:Int);rw [List.length_set];omega,p4, ?_,by show(0:Int)<=(i:Int);omega,by show(i:Int)<5;omega⟩
   show b.s<=(R.clock.set b.o.toNat b.s).getD b.o.toNat 0
   rw [zcm _ _ _ _ hol,if_pos rfl]
   exact Int.le_refl _
 ·show max R.time b.t<=(sumN (R.clock.set b.o.toNat b.s):Int)
  rw [hsum]
  have h1:=h.time
  have h2:=hb.t
  have h3:sumN b.clock<=sumN R.clock:=zse d1 (fun j=>by
   by_cases hj:j<b.clock.length
   ·exact d2 j hj
   ·have e1:b.clock.getD j 0=0:=by simp [List.getElem?_eq_none (show b.clock.length<=j by omega)]
    rw [e1]
    exact(h.ok.getD j).1)
  omega
end
end Go.Proofs.YtfmcngncaffloabGreatDoor
