import Derived.BigRegion
import Derived.Test.YtfmcngncaffloaaGreatDoorG14DecL
import Derived.Test.YtfmcngncaffloaaGreatDoorG15DecM
import Derived.Test.YtfmcngncaffloaaGreatDoorG16DecO
set_option maxHeartbeats 1600000
namespace Go.Proofs.YtfmcngncaffloaaGreatDoor
open Go.RowKit
set_option maxRecDepth 100000
structure HpIn(w:World)(hp:Nat)(v:Value)(bs:List Bm):Prop where
 blk:Blk w hp #[v, .func (.func 62) #[] #[]] 178
 row:w.ownsRow 0 124 5 v bs.length (flat Bm.cells bs)
theorem HpIn.kept{w w':World}{hp:Nat}{v:Value}{bs:List Bm}(h:HpIn w hp v bs)(hb:Below w.heap.size w w'):HpIn w' hp v bs:=
 ⟨h.blk.kept hb h.blk.lt,zah h.row (fun g hg=>hb.block g (h.row.lt g hg).2)⟩
theorem HpIn.ne{w:World}{hp g n cap:Nat}{bs:List Bm}(h:HpIn w hp (.slice (some ⟨g,0,none⟩) n cap) bs):hp ≠ g:=by
 rintro rfl
 rcases h.row.2 with⟨e1,_⟩ | ⟨g',cap',cur,e1,hb,hc,_⟩
 ·cases e1
 ·cases e1
  have:=h.blk.symm.trans hc
  simp at this
theorem zcs{w:World}{g cap n:Nat}{bs:List Bm}(h:w.ownsRow 0 124 5 (.slice (some ⟨g,0,none⟩) n cap) bs.length (flat Bm.cells bs))(k:Nat)(hk:k<bs.length):
  w.cell? ⟨g,k*5,none⟩=some (I bs[k].b.o)∧w.cell? ⟨g,k*5+1,none⟩=some (I bs[k].b.s)∧w.cell? ⟨g,k*5+2,none⟩=some (I bs[k].b.t)∧w.cell? ⟨g,k*5+3,none⟩=some (.slice bs[k].ca bs[k].b.clock.length bs[k].cc)∧w.cell? ⟨g,k*5+4,none⟩=some (.slice bs[k].ea bs[k].b.effs.length bs[k].ec):=by
 have hc:=h.cells (g:=g) rfl
 have hx:∀j (_:j<5) u,(bs[k].cells)[j]?=some u->w.cell? ⟨g,k*5+j,none⟩=some u:=fun j hj u hu=>by
  have:=hc (k*5+j) u ((zak Bm.cells 5 zbp bs k hk j hj).trans hu)
  rw [Addr.add_lit,Nat.zero_add] at this
  exact this
 exact⟨hx 0 (by omega) _ rfl,hx 1 (by omega) _ rfl,hx 2 (by omega) _ rfl,hx 3 (by omega) _ rfl,hx 4 (by omega) _ rfl⟩
theorem zis{w:World}{base:Nat}{e:TypeId}{s n g cap:Nat}{xs:List Value}(h:w.ownsRow base e s (.slice (some ⟨g,0,none⟩) n cap) n xs)(j:Nat):w.frozen? ⟨g,j,none⟩=false:=by
 rcases h.2 with⟨e1,_⟩ | ⟨g',cap',cur,e1,hb,hc,_⟩
 ·cases e1
 ·cases e1;exact frozen_of_row w g j cur e hc
abbrev put5b (w:World) (g o:Nat) (m:Bm):World:=((((w.setCell ⟨g,o,none⟩ (I m.b.o)).setCell ⟨g,o+1,none⟩ (I m.b.s)).setCell ⟨g,o+2,none⟩ (I m.b.t)).setCell ⟨g,o+3,none⟩ (.slice m.ca m.b.clock.length m.cc)).setCell ⟨g,o+4,none⟩ (.slice m.ea m.b.effs.length m.ec)
theorem zsy(bs:List Bm)(k:Nat)(m:Bm):((((((flat Bm.cells bs).set (k*5) (I m.b.o)).set (k*5+1) (I m.b.s)).set (k*5+2) (I m.b.t)).set (k*5+3) (.slice m.ca m.b.clock.length m.cc)).set (k*5+4) (.slice m.ea m.b.effs.length m.ec))=flat Bm.cells (bs.set k m):=by
 have hl:(flat Bm.cells bs).length=bs.length*5:=zaq Bm.cells 5 zbp bs
 apply List.ext_getElem?
 intro j
 rcases Nat.lt_or_ge j (bs.length*5) with hj | hj
 ·rw [zgk Bm.cells 5 zbp bs k m j hj]
  simp only [List.getElem?_set,List.length_set,hl]
  by_cases h0:j=k*5
  ·subst h0;simp [Bm.cells,hj]
  by_cases h1:j=k*5+1
  ·subst h1;simp [Bm.cells,hj]
  by_cases h2:j=k*5+2
  ·subst h2;simp [Bm.cells,hj]
  by_cases h3:j=k*5+3
  ·subst h3;simp [Bm.cells,hj]
  by_cases h4:j=k*5+4
  ·subst h4;simp [Bm.cells,hj]
  rw [if_neg (by omega),if_neg (by omega),if_neg (by omega),if_neg (by omega),if_neg (by omega),if_neg (by omega)]
 ·rw [List.getElem?_eq_none (by simp only [List.length_set,hl];omega),List.getElem?_eq_none (by rw [zaq Bm.cells 5 zbp,List.length_set];omega)]
theorem zgi{w:World}{g n cap:Nat}{bs:List Bm}(h:w.ownsRow 0 124 5 (.slice (some ⟨g,0,none⟩) n cap) n (flat Bm.cells bs))(k:Nat)(m:Bm):
  (put5b w g (k*5) m).ownsRow 0 124 5 (.slice (some ⟨g,0,none⟩) n cap) n (flat Bm.cells (bs.set k m)):=by
 rw [←zsy]
 exact zed (zed (zed (zed (zed h _ _) _ _) _ _) _ _) _ _
theorem zhk{w:World}{g o:Nat}{m:Bm}{k:Nat}(h:k ≠ g):(put5b w g o m).heap[k]?=w.heap[k]?:=by
 unfold put5b
 rw [heap_setCell_other _ ⟨g,o+4,none⟩ k _ h,heap_setCell_other _ ⟨g,o+3,none⟩ k _ h,heap_setCell_other _ ⟨g,o+2,none⟩ k _ h,heap_setCell_other _ ⟨g,o+1,none⟩ k _ h,heap_setCell_other _ ⟨g,o,none⟩ k _ h]
theorem zaz(w:World)(g o:Nat)(m:Bm):Tch (fun j=>j=g) w (put5b w g o m):=
 ((((Tch.refl (fun j=>j=g) w).setCell ⟨g,o,none⟩ _ (Or.inl rfl)).setCell ⟨g,o+1,none⟩ _ (Or.inl rfl)).setCell ⟨g,o+2,none⟩ _ (Or.inl rfl)).setCell ⟨g,o+3,none⟩ _ (Or.inl rfl) |>.setCell ⟨g,o+4,none⟩ _ (Or.inl rfl)
def swapL(bs:List Bm)(i j:Nat):List Bm:=match bs[i]?,bs[j]? with | some x,some y=>(bs.set i y).set j x | _,_=>bs
theorem zsq(bs:List Bm)(i j:Nat):(swapL bs i j).length=bs.length:=by
 unfold swapL;split<;>simp
theorem zkz(hp g cap i j:Nat)(bs:List Bm)(w:World)(h:HpIn w hp (.slice (some ⟨g,0,none⟩) bs.length cap) bs)(hi:i<bs.length)(hj:j<bs.length)(hij:i ≠ j):
  Calls Tryz.prog 208 #[.pointer (some ⟨hp,0,none⟩),I i,I j] w fun e w'=>e= .returned (.tuple #[])∧HpIn w' hp (.slice (some ⟨g,0,none⟩) bs.length cap) (swapL bs i j)∧Tch (fun k=>k=g) w w':=by
 have HP:Hid (HpIn w hp (.slice (some ⟨g,0,none⟩) bs.length cap) bs):=h
 obtain⟨a0,a1,a2,a3,a4⟩:=zcs h.row i hi
 obtain⟨b0,b1,b2,b3,b4⟩:=zcs h.row j hj
 have c0:w.cell? ⟨hp,0,none⟩=some (.slice (some ⟨g,0,none⟩) bs.length cap):=h.blk.cell 0
 have HF:Hid (∀k,w.frozen? ⟨g,k,none⟩=false):=fun k=>zis h.row k
 have hii:(i:Int)<bs.length:=by omega
 have hjj:(j:Int)<bs.length:=by omega
 clear h
 go_enter Tryz.func208,Tryz.ntmps208
 have HS:Hid (swapL bs i j=(bs.set i bs[j]).set j bs[i]):=by
  show _=_
  unfold swapL
  rw [List.getElem?_eq_getElem hi,List.getElem?_eq_getElem hj]
 have HT:Hid (Tch (fun k=>k=g) w (put5b (put5b w g (i*5) bs[j]) g (j*5) bs[i]).drew):=((zaz w g (i*5) bs[j]).then (zaz _ g (j*5) bs[i])).drew
 have HW:Hid (HpIn (put5b (put5b w g (i*5) bs[j]) g (j*5) bs[i]).drew hp (.slice (some ⟨g,0,none⟩) bs.length cap) (swapL bs i j)):=by
  refine⟨?_, ?_⟩
  ·exact HT.out.blk HP.out.blk HP.out.ne
  ·rw [zsq,HS.out]
   exact(zgi (zgi HP.out.row i _) j _).drew
 clear HP HS
 generalize bs[i]=x at *
 generalize bs[j]=y at *
 go_wp2_with fail
 have f0:=HF.out (i*5)
 have f1:=HF.out (i*5+1)
 have f2:=HF.out (i*5+2)
 have f3:=HF.out (i*5+3)
 have f4:=HF.out (i*5+4)
 have g0:=HF.out (j*5)
 have g1:=HF.out (j*5+1)
 have g2:=HF.out (j*5+2)
 have g3:=HF.out (j*5+3)
 have g4:=HF.out (j*5+4)
 go_region
 go_end0
 exact⟨rfl,HW.out,HT.out⟩
def updP{α:Type}(less:α->α->Bool)(bs:List α)(l c:Nat):Nat:=match bs[c]?,bs[l]? with | some x,some y=>if less x y then c else l | _,_=>l
def za2{α:Type}(less:α->α->Bool)(bs:List α)(i:Nat):Nat:=updP less bs (updP less bs i (2*i+1)) (2*i+2)
def lessM(x y:Bm):Bool:=zbd x.b y.b
theorem zlk{α:Type}(less:α->α->Bool)(bs:List α)(l c:Nat)(hl:l<bs.length):updP less bs l c<bs.length:=by
 unfold updP
 split
 ·rename_i x y hx hy
  split
  ·exact(List.getElem?_eq_some_iff.1 hx).1
  ·exact hl
 ·exact hl
theorem zid{α:Type}(less:α->α->Bool)(bs:List α)(l c:Nat)(hc:bs.length<=c):updP less bs l c=l:=by
 unfold updP
 rw [List.getElem?_eq_none hc]
theorem zrl{α:Type}(less:α->α->Bool)(bs:List α)(l c:Nat)(hc:c<bs.length)(hl:l<bs.length):updP less bs l c=if less bs[c] bs[l] then c else l:=by
 unfold updP
 rw [List.getElem?_eq_getElem hc,List.getElem?_eq_getElem hl]
def zc4{α:Type}(less:α->α->Bool)(bs:List α)(i:Nat):Nat->Nat
 | 0=>i
 | k+1=>updP less bs (zc4 less bs i k) (2*i+1+k)
theorem zpy{α:Type}(less:α->α->Bool)(bs:List α)(i k:Nat)(hi:i<bs.length):zc4 less bs i k<bs.length:=by
 induction k with
 | zero=>exact hi
 | succ k ih=>exact zlk less bs _ _ ih
theorem zni{α:Type}(less:α->α->Bool)(bs:List α)(i k:Nat)(h:bs.length<=2*i+1+k)(hk:k<=2):zc4 less bs i k=za2 less bs i:=by
 have h2:za2 less bs i=zc4 less bs i 2:=rfl
 rw [h2]
 rcases (by omega:k=0∨k=1∨k=2) with rfl | rfl | rfl
 ·show i=updP less bs (updP less bs i (2*i+1+0)) (2*i+1+1)
  rw [zid less bs _ _ (by omega),zid less bs _ _ (by omega)]
 ·show _=updP less bs _ (2*i+1+1)
  rw [zid less bs _ (2*i+1+1) (by omega)]
 ·rfl
theorem zi5(hp g cap i:Nat)(bs:List Bm)(w:World)(h:HpIn w hp (.slice (some ⟨g,0,none⟩) bs.length cap) bs)(hi:i<bs.length)(hl:bs.length<=1048576):
  Calls Tryz.prog 207 #[.pointer (some ⟨hp,0,none⟩),I i] w fun e w'=>e= .returned (I (za2 lessM bs i:Nat))∧Below w.heap.size w w':=by
 have HP:Hid (HpIn w hp (.slice (some ⟨g,0,none⟩) bs.length cap) bs):=h
 clear h
 have hw1:IntKind.i64.wrap (2*(i:Int))=2*(i:Int):=by rw [IntKind.wrap_i64];omega
 have hw2:IntKind.i64.wrap (2*(i:Int)+1)=2*(i:Int)+1:=by rw [IntKind.wrap_i64];omega
 have hw3:IntKind.i64.wrap (2*(i:Int)+2)=2*(i:Int)+2:=by rw [IntKind.wrap_i64];omega
 go_enter Tryz.func207,Tryz.ntmps207
 go_wp2_with fail
 go_loopw [5,6] (fun v5 v6 wr=>∃k:Nat,k<=2∧v5=I (zc4 lessM bs i k:Nat)∧v6=I (2*i+1+k:Nat)∧Hid (Below w.heap.size w wr)) (fun _ v6 _=>2*i+3 - (intOf v6).toNat)
 case atStart=>exact⟨0,by omega,rfl,by simp,Below.refl _ _⟩
 case round=>
  obtain⟨k,hk,rfl,rfl,HB⟩:=hrel
  have HPr:Hid (HpIn wr hp (.slice (some ⟨g,0,none⟩) bs.length cap) bs):=HP.out.kept HB.out
  have c0:wr.cell? ⟨hp,0,none⟩=some (.slice (some ⟨g,0,none⟩) bs.length cap):=HPr.out.blk.cell 0
  have c1:wr.cell? ⟨hp,1,none⟩=some (.func (.func 62) #[] #[]):=HPr.out.blk.cell 1
  have hlt:=zpy lessM bs i k hi
  have HN:Hid (zc4 lessM bs i (k+1)=updP lessM bs (zc4 lessM bs i k) (2*i+1+k)):=rfl
  have HO:Hid (bs.length<=2*i+1+k->zc4 lessM bs i k=za2 lessM bs i):=fun h=>zni lessM bs i k h hk
  have HO2:Hid (k=2->zc4 lessM bs i k=za2 lessM bs i):=fun h=>by rw [h];rfl
  have HC:Hid (2*i+1+(k+1)=2*i+1+k+1):=by show _=_;omega
  obtain⟨c,hc⟩:∃c,c=2*i+1+k:=⟨_,rfl⟩
  obtain⟨l,hle⟩:∃l,l=zc4 lessM bs i k:=⟨_,rfl⟩
  rw [←hc] at HN HO HC ⊢
  rw [←hle] at hlt HN HO HO2 ⊢
  by_cases h1:c<bs.length∧k<2
  ·obtain⟨h1a,hk2⟩:=h1
   have hca:(c:Int)<=2*(i:Int)+2:=by omega
   have hcb:(c:Int)<bs.length:=by omega
   have hll:(l:Int)<bs.length:=by omega
   have HU:Hid (updP lessM bs l c=if lessM bs[c] bs[l] then c else l):=zrl lessM bs l c h1a hlt
   obtain⟨a0,a1,a2,a3,a4⟩:=zcs HPr.out.row c h1a
   obtain⟨b0,b1,b2,b3,b4⟩:=zcs HPr.out.row l hlt
   have hw4:IntKind.i64.wrap ((c:Int)+1)=(c:Int)+1:=by rw [IntKind.wrap_i64];omega
   clear hc hle HO HO2 HPr
   generalize bs[c]=x at *
   generalize bs[l]=y at *
   go_wp2_with fail
   go_region_held3 (fun w'=>w'.cell? ⟨hp,0,none⟩=some (.slice (some ⟨g,0,none⟩) bs.length cap)∧w'.cell? ⟨hp,1,none⟩=some (.func (.func 62) #[] #[])∧w'.cell? ⟨g,c*5,none⟩=some (I x.b.o)∧w'.cell? ⟨g,c*5+1,none⟩=some (I x.b.s)∧w'.cell? ⟨g,c*5+2,none⟩=some (I x.b.t)∧w'.cell? ⟨g,c*5+3,none⟩=some (.slice x.ca x.b.clock.length x.cc)∧w'.cell? ⟨g,c*5+4,none⟩=some (.slice x.ea x.b.effs.length x.ec)∧w'.cell? ⟨g,l*5,none⟩=some (I y.b.o)∧w'.cell? ⟨g,l*5+1,none⟩=some (I y.b.s)∧w'.cell? ⟨g,l*5+2,none⟩=some (I y.b.t)∧w'.cell? ⟨g,l*5+3,none⟩=some (.slice y.ca y.b.clock.length y.cc)∧w'.cell? ⟨g,l*5+4,none⟩=some (.slice y.ea y.b.effs.length y.ec)) (first | go_keep | (refine⟨zaa hb0 ?_,zaa hb0 ?_,zaa hb0 ?_,zaa hb0 ?_,zaa hb0 ?_,zaa hb0 ?_,zaa hb0 ?_,zaa hb0 ?_,zaa hb0 ?_,zaa hb0 ?_,zaa hb0 ?_,zaa hb0 ?_⟩<;>go_keep))
    (first | (go_at_call 62;refine(zhs x y _).mono ?_;rintro e w1 ⟨rfl,hb0⟩))
   have HB1:Hid (Below w.heap.size w w1):=HB.out.trans ((Below.refl _ _).drew.trans hb0 |>.mono HB.out.size)
   clear HB c0 c1 hb0
   have HU2:Hid (updP lessM bs l c=if zbd x.b y.b then c else l):=HU.out
   clear HU
   generalize zbd x.b y.b=bl at *
   cases bl
   ·go_wp2_with fail
    go_roundw
    case rel=>exact⟨k+1,by omega,by rw [HN.out,HU2.out];rfl,by rw [HC.out];go_num,HB1⟩
    case measure=>simp [intOf];omega
   ·go_wp2_with fail
    go_roundw
    case rel=>exact⟨k+1,by omega,by rw [HN.out,HU2.out];rfl,by rw [HC.out];go_num,HB1⟩
    case measure=>simp [intOf];omega
  ·have HL:Hid (l=za2 lessM bs i):=by
    by_cases hk2:k=2
    ·exact HO2.out hk2
    ·exact HO.out (by omega)
   clear HO HO2 HN HC hlt
   by_cases h2:k<2
   ·have hca:(c:Int)<=2*(i:Int)+2:=by omega
    have hcb:¬(c:Int)<bs.length:=by omega
    clear h1 hc hle HPr
    go_wp2
    go_ret
    exact⟨by show _=_;rw [HL.out];rfl,HB.out⟩
   ·have hca:¬(c:Int)<=2*(i:Int)+2:=by omega
    clear h1 hc hle HPr
    go_wp2
    go_ret
    exact⟨by show _=_;rw [HL.out];rfl,HB.out⟩
def swapP{α:Type}(bs:List α)(i j:Nat):List α:=match bs[i]?,bs[j]? with | some x,some y=>(bs.set i y).set j x | _,_=>bs
theorem zbk{α:Type}(bs:List α)(i j:Nat):(swapP bs i j).length=bs.length:=by
 unfold swapP;split<;>simp
theorem zmm(bs:List Bm)(i j:Nat):swapL bs i j=swapP bs i j:=by
 unfold swapL swapP
 cases bs[i]?<;>cases bs[j]?<;>rfl
theorem zrk{α:Type}(less:α->α->Bool)(bs:List α)(l c:Nat):updP less bs l c=l∨updP less bs l c=c:=by
 unfold updP
 split
 ·split
  ·exact Or.inr rfl
  ·exact Or.inl rfl
 ·exact Or.inl rfl
theorem zeh{α:Type}(less:α->α->Bool)(bs:List α)(i:Nat):i<=za2 less bs i:=by
 unfold za2
 rcases zrk less bs (updP less bs i (2*i+1)) (2*i+2) with h | h<;>rw [h]
 ·rcases zrk less bs i (2*i+1) with h | h<;>rw [h]<;>omega
 ·omega
theorem zeg{α:Type}(less:α->α->Bool)(bs:List α)(i:Nat)(hi:i<bs.length):za2 less bs i<bs.length:=zlk less bs _ _ (zlk less bs _ _ hi)
def sinkP{α:Type}(less:α->α->Bool)(bs:List α)(i:Nat):List α:=
 if _h:za2 less bs i ≠ i∧i<bs.length then sinkP less (swapP bs i (za2 less bs i)) (za2 less bs i) else bs
 termination_by bs.length - i
 decreasing_by
 rw [zbk]
 have h1:=zeh less bs i
 have h2:=zeg less bs i _h.2
 have:=_h.1
 omega
def riseP{α:Type}(less:α->α->Bool)(bs:List α)(i:Nat):List α:=
 if _h:0<i∧updP less bs ((i - 1) / 2) i=i then riseP less (swapP bs i ((i - 1) / 2)) ((i - 1) / 2) else bs
 termination_by i
 decreasing_by omega
theorem zt9(hp g cap i:Nat)(bs:List Bm)(w:World)(h:HpIn w hp (.slice (some ⟨g,0,none⟩) bs.length cap) bs)(hi:i<bs.length)(hl:bs.length<=1048576):
  Calls Tryz.prog 187 #[.pointer (some ⟨hp,0,none⟩),I i] w fun e w'=>e= .returned (.tuple #[])∧HpIn w' hp (.slice (some ⟨g,0,none⟩) bs.length cap) (sinkP lessM bs i)∧Tch (fun k=>k=g) w w':=by
 have HP:Hid (HpIn w hp (.slice (some ⟨g,0,none⟩) bs.length cap) bs):=h
 have hgw:g<w.heap.size:=(h.row.lt g rfl).2
 clear h
 go_enter Tryz.func187,Tryz.ntmps187
 go_wp2_with fail
 refine(zi5 hp g cap i bs w HP.out hi hl).mono ?_
 rintro e w1 ⟨rfl,hb1⟩
 have HP1:Hid (HpIn w1 hp (.slice (some ⟨g,0,none⟩) bs.length cap) bs):=HP.out.kept hb1
 have HT1:Hid (Tch (fun k=>k=g) w w1):=Tch.below hb1
 clear hb1 HP
 go_wp2_with fail
 go_loopw [1,4] (fun v1 v4 wr=>∃(i':Nat) (bs':List Bm),v1=I i'∧v4=I (za2 lessM bs' i':Nat)∧i'<bs'.length∧bs'.length=bs.length∧Hid (sinkP lessM bs' i'=sinkP lessM bs i)∧Hid (HpIn wr hp (.slice (some ⟨g,0,none⟩) bs.length cap) bs')∧Hid (Tch (fun k=>k=g) w wr)) (fun v1 _ _=>bs.length - (intOf v1).toNat)
 case atStart=>exact⟨i,bs,rfl,rfl,hi,rfl,rfl,HP1,HT1⟩
 case round=>
  obtain⟨i',bs',rfl,rfl,hi',hlen,HS,HP,HT⟩:=hrel
  clear HP1 HT1
  have hge:=zeh lessM bs' i'
  have hlt:=zeg lessM bs' i' hi'
  have HQ:Hid (sinkP lessM bs' i'=if za2 lessM bs' i' ≠ i'∧i'<bs'.length then sinkP lessM (swapP bs' i' (za2 lessM bs' i')) (za2 lessM bs' i') else bs'):=by
   show _=_
   rw [sinkP]
   split<;>rfl
  obtain⟨l,hle⟩:∃l,l=za2 lessM bs' i':=⟨_,rfl⟩
  rw [←hle] at hge hlt HQ ⊢
  clear hle
  by_cases hne:l=i'
  ·subst hne
   have HF:Hid (HpIn wr hp (.slice (some ⟨g,0,none⟩) bs.length cap) (sinkP lessM bs i)):=by
    show HpIn _ _ _ _
    rw [←HS.out,HQ.out,if_neg (by simp)]
    exact HP.out
   clear HP HS HQ
   go_wp2
   go_end0
   exact⟨rfl,HF.out,HT.out⟩
  ·have hni:¬(l:Int)=i':=by omega
   have HQ2:Hid (sinkP lessM (swapP bs' i' l) l=sinkP lessM bs i):=by
    show _=_
    rw [←HS.out,HQ.out,if_pos ⟨hne,hi'⟩]
   clear HQ HS
   go_wp2_with fail
   have HPB:Hid (HpIn wr hp (.slice (some ⟨g,0,none⟩) bs'.length cap) bs'):=by show HpIn _ _ _ _;rw [hlen];exact HP.out
   refine(zkz hp g cap i' l bs' wr HPB.out hi' hlt (by omega)).mono ?_
   rintro e w2 ⟨rfl,hp2,hT2⟩
   have HP2:Hid (HpIn w2 hp (.slice (some ⟨g,0,none⟩) (swapP bs' i' l).length cap) (swapP bs' i' l)):=by show HpIn _ _ _ _;rw [zbk,←zmm];exact hp2
   have HT2:Hid (Tch (fun k=>k=g) w w2):=HT.out.then hT2
   clear hp2 hT2 HP HPB HT
   go_wp2_with fail
   refine(zi5 hp g cap l (swapP bs' i' l) w2 HP2.out (by rw [zbk];exact hlt) (by rw [zbk];omega)).mono ?_
   rintro e w3 ⟨rfl,hb3⟩
   have HP3:Hid (HpIn w3 hp (.slice (some ⟨g,0,none⟩) bs.length cap) (swapP bs' i' l)):=by
    have:=HP2.out.kept hb3
    rw [zbk,hlen] at this
    exact this
   have HT3:Hid (Tch (fun k=>k=g) w w3):=HT2.out.then (Tch.below hb3)
   have HLn:Hid ((swapP bs' i' l).length=bs'.length):=zbk bs' i' l
   clear hb3 HP2 HT2
   go_wp2_with fail
   go_roundw
   case rel=>exact⟨l,swapP bs' i' l,rfl,rfl,by rw [HLn.out];exact hlt,by rw [HLn.out];exact hlen,HQ2,HP3,HT3⟩
   case measure=>simp [intOf];omega
theorem zta(bs:List Bm)(i:Nat)(hi:i<bs.length)(h0:0<i):riseP lessM bs i=if lessM bs[i] (bs[(i - 1) / 2]'(by omega)) then riseP lessM (swapP bs i ((i - 1) / 2)) ((i - 1) / 2) else bs:=by
 have hp:(i - 1) / 2<bs.length:=by omega
 have hu:=zrl lessM bs ((i - 1) / 2) i hi hp
 rw [riseP]
 by_cases hq:lessM bs[i] (bs[(i - 1) / 2]'hp)=true
 ·rw [if_pos hq] at hu ⊢
  rw [dif_pos ⟨h0,hu⟩]
 ·rw [if_neg hq] at hu ⊢
  rw [dif_neg (by rintro⟨_,h⟩;rw [hu] at h;omega)]
theorem zs9(bs:List Bm):riseP lessM bs 0=bs:=by rw [riseP,dif_neg (by omega)]
theorem zua(hp g cap i:Nat)(bs:List Bm)(w:World)(h:HpIn w hp (.slice (some ⟨g,0,none⟩) bs.length cap) bs)(hi:i<bs.length)(hl:bs.length<=1048576):
  Calls Tryz.prog 188 #[.pointer (some ⟨hp,0,none⟩),I i] w fun e w'=>e= .returned (.tuple #[])∧HpIn w' hp (.slice (some ⟨g,0,none⟩) bs.length cap) (riseP lessM bs i)∧Tch (fun k=>k=g) w w':=by
 have HP0:Hid (HpIn w hp (.slice (some ⟨g,0,none⟩) bs.length cap) bs):=h
 clear h
 have hq0:∀i:Nat,i<=1048576->IntKind.i64.wrap ((i:Int) - 1)=(i:Int) - 1:=fun i _=>by rw [IntKind.wrap_i64];omega
 have hq1:∀i:Nat,i<=1048576->IntKind.i64.wrap (((i:Int) - 1).tdiv 2)=(((i - 1) / 2:Nat):Int):=fun i _=>by
  have:((i:Int) - 1).tdiv 2=(((i - 1) / 2:Nat):Int):=by
   rcases Nat.eq_zero_or_pos i with rfl | h
   ·rfl
   ·rw [show(i:Int) - 1=((i - 1:Nat):Int) by omega]
    rfl
  rw [this,IntKind.wrap_i64]
  omega
 have hw0:=hq0 i (by omega)
 have hw1:=hq1 i (by omega)
 go_enter Tryz.func188,Tryz.ntmps188
 go_wp2_with fail
 go_loopw [1,4] (fun v1 v4 wr=>∃(i':Nat) (bs':List Bm),v1=I i'∧v4=I ((i' - 1) / 2:Nat)∧i'<bs'.length∧bs'.length=bs.length∧Hid (riseP lessM bs' i'=riseP lessM bs i)∧Hid (HpIn wr hp (.slice (some ⟨g,0,none⟩) bs.length cap) bs')∧Hid (Tch (fun k=>k=g) w wr)) (fun v1 _ _=>(intOf v1).toNat)
 case atStart=>exact⟨i,bs,rfl,by simp,hi,rfl,rfl,HP0,Tch.refl _ _⟩
 case round=>
  obtain⟨i',bs',rfl,rfl,hi',hlen,HS,HP,HT⟩:=hrel
  clear HP0 hw0 hw1
  obtain⟨j,hj⟩:∃j,j=(i' - 1) / 2:=⟨_,rfl⟩
  rw [←hj]
  by_cases h0:0<i'
  ·have HR:=zta bs' i' hi' h0
   have hjl:j<bs'.length:=by omega
   have HR2:Hid (riseP lessM bs' i'=if lessM bs'[i'] bs'[j] then riseP lessM (swapP bs' i' j) j else bs'):=by
    show _=_
    rw [HR]
    subst hj
    rfl
   have HPB:Hid (HpIn wr hp (.slice (some ⟨g,0,none⟩) bs'.length cap) bs'):=by show HpIn _ _ _ _;rw [hlen];exact HP.out
   have c0:wr.cell? ⟨hp,0,none⟩=some (.slice (some ⟨g,0,none⟩) bs.length cap):=HP.out.blk.cell 0
   have c1:wr.cell? ⟨hp,1,none⟩=some (.func (.func 62) #[] #[]):=HP.out.blk.cell 1
   obtain⟨a0,a1,a2,a3,a4⟩:=zcs HPB.out.row i' hi'
   obtain⟨b0,b1,b2,b3,b4⟩:=zcs HPB.out.row j hjl
   have hii:(i':Int)<bs.length:=by omega
   have hjj:(j:Int)<bs.length:=by omega
   have h0i:(0:Int)<i':=by omega
   have hlj:j<=1048576:=by omega
   have hne:i' ≠ j:=by omega
   have hlt:j<i':=by omega
   have hw0:=hq0 j hlj
   have hw1:=hq1 j hlj
   clear HR hq0 hq1 hj
   generalize bs'[i']=x at *
   generalize bs'[j]=y at *
   go_wp2_with fail
   go_region_held3 (fun w'=>w'.cell? ⟨hp,0,none⟩=some (.slice (some ⟨g,0,none⟩) bs.length cap)∧w'.cell? ⟨hp,1,none⟩=some (.func (.func 62) #[] #[])∧w'.cell? ⟨g,i'*5,none⟩=some (I x.b.o)∧w'.cell? ⟨g,i'*5+1,none⟩=some (I x.b.s)∧w'.cell? ⟨g,i'*5+2,none⟩=some (I x.b.t)∧w'.cell? ⟨g,i'*5+3,none⟩=some (.slice x.ca x.b.clock.length x.cc)∧w'.cell? ⟨g,i'*5+4,none⟩=some (.slice x.ea x.b.effs.length x.ec)∧w'.cell? ⟨g,j*5,none⟩=some (I y.b.o)∧w'.cell? ⟨g,j*5+1,none⟩=some (I y.b.s)∧w'.cell? ⟨g,j*5+2,none⟩=some (I y.b.t)∧w'.cell? ⟨g,j*5+3,none⟩=some (.slice y.ca y.b.clock.length y.cc)∧w'.cell? ⟨g,j*5+4,none⟩=some (.slice y.ea y.b.effs.length y.ec)) (first | go_keep | (refine⟨zaa hb0 ?_,zaa hb0 ?_,zaa hb0 ?_,zaa hb0 ?_,zaa hb0 ?_,zaa hb0 ?_,zaa hb0 ?_,zaa hb0 ?_,zaa hb0 ?_,zaa hb0 ?_,zaa hb0 ?_,zaa hb0 ?_⟩<;>go_keep))
    (first | (go_at_call 62;refine(zhs x y _).mono ?_;rintro e w1 ⟨rfl,hb0⟩))
   have HPB1:Hid (HpIn w1 hp (.slice (some ⟨g,0,none⟩) bs'.length cap) bs'):=HPB.out.kept ((Below.refl _ _).drew.trans hb0)
   have HT1:Hid (Tch (fun k=>k=g) w w1):=HT.out.then (Tch.below ((Below.refl _ _).drew.trans hb0))
   have HR3:Hid (riseP lessM bs i=if zbd x.b y.b then riseP lessM (swapP bs' i' j) j else bs'):=by show _=_;rw [←HS.out,HR2.out];rfl
   clear HP HPB HT c0 c1 a0 a1 a2 a3 a4 b0 b1 b2 b3 b4 hb0 HR2 HS
   generalize zbd x.b y.b=bl at *
   cases bl
   ·have HF:Hid (HpIn w1 hp (.slice (some ⟨g,0,none⟩) bs.length cap) (riseP lessM bs i)):=by
     show HpIn _ _ _ _
     rw [HR3.out,←hlen]
     exact HPB1.out
    clear HPB1 HR3
    go_wp2
    go_end0
    exact⟨rfl,HF.out,HT1.out⟩
   ·go_wp2_with fail
    refine(zkz hp g cap i' j bs' w1 HPB1.out hi' hjl hne).mono ?_
    rintro e w2 ⟨rfl,hp2,hT2⟩
    have HP2:Hid (HpIn w2 hp (.slice (some ⟨g,0,none⟩) bs.length cap) (swapP bs' i' j)):=by show HpIn _ _ _ _;rw [←hlen,←zmm];exact hp2
    have HT2:Hid (Tch (fun k=>k=g) w w2):=HT1.out.then hT2
    have HLn:Hid ((swapP bs' i' j).length=bs'.length):=zbk bs' i' j
    have HS2:Hid (riseP lessM (swapP bs' i' j) j=riseP lessM bs i):=HR3.out.symm
    clear hp2 hT2 HPB1 HT1 HR3
    go_wp2_with fail
    go_roundw
    case rel=>exact⟨j,swapP bs' i' j,rfl,by simp,by rw [HLn.out];exact hjl,by rw [HLn.out];exact hlen,HS2,HP2,HT2⟩
    case measure=>simp [intOf];omega
  ·obtain rfl:i'=0:=by omega
   have HF:Hid (HpIn wr hp (.slice (some ⟨g,0,none⟩) bs.length cap) (riseP lessM bs i)):=by
    show HpIn _ _ _ _
    rw [←HS.out,zs9]
    exact HP.out
   clear HP HS
   go_wp2_with fail
   go_quiet (fail)
   go_wp2
   go_end0
   exact⟨rfl,HF.out.kept (zal (Below.refl _ _) nq),HT.out.drewN nq⟩
def pushP{α:Type}(less:α->α->Bool)(bs:List α)(x:α):List α:=riseP less (bs++ [x]) bs.length
theorem zez(l:List Bm)(x:Bm):flat Bm.cells (l++ [x])=flat Bm.cells l++x.cells:=by
 rw [za1]
 show _++(x.cells++ [])=_
 rw [List.append_nil]
theorem zlx:(Tryz.prog.info? 124).map (fun i=>(i.zero,i.size,i.bytes))=some (some (.agg #[.int .i64 0, .int .i64 0, .int .i64 0, .slice none 0 0, .slice none 0 0]),5,72):=by kernel_rfl
abbrev bmC (m:Bm):Array Value:= #[I m.b.o,I m.b.s,I m.b.t, .slice m.ca m.b.clock.length m.cc, .slice m.ea m.b.effs.length m.ec]
def HpOk(w:World)(hp:Nat)(v:Value)(bs:List Bm)(w':World):Prop:=∃v',HpIn w' hp v' bs∧Tch (fun k=>k=hp∨v.ownBlock=some k) w w'∧(∀b,v'.ownBlock=some b->v.ownBlock=some b∨w.heap.size<=b)
theorem zk0(hp:Nat)(v:Value)(bs:List Bm)(x:Bm)(w:World)(h:HpIn w hp v bs)(hl:bs.length<=1000000):
  Calls Tryz.prog 162 #[.pointer (some ⟨hp,0,none⟩),bmV x] w fun e w'=>e= .returned (.tuple #[])∧HpOk w hp v (pushP lessM bs x) w':=by
 obtain⟨wA,hwA⟩:∃wA,wA=w.alloc (.cells (bmC x) 124):=⟨_,rfl⟩
 have HBA:Hid (Below w.heap.size w wA):=by rw [hwA];exact(Below.refl _ _).alloc (Nat.le_refl _) _
 have HP:Hid (HpIn wA hp v bs):=h.kept HBA.out
 have HX:Hid (Blk wA w.heap.size (bmC x) 124):=by rw [hwA];exact heap_alloc_new w _
 have hpw:hp<w.heap.size:=h.blk.lt
 have HVB:Hid (∀b,v.ownBlock=some b->b<w.heap.size):=fun b hb=>(h.row.lt b hb).2
 have c0:wA.cell? ⟨hp,0,none⟩=some v:=HP.out.blk.cell 0
 have x0:wA.cell? ⟨w.heap.size,0,none⟩=some (I x.b.o):=HX.out.cell 0
 have x1:wA.cell? ⟨w.heap.size,1,none⟩=some (I x.b.s):=HX.out.cell 1
 have x2:wA.cell? ⟨w.heap.size,2,none⟩=some (I x.b.t):=HX.out.cell 2
 have x3:wA.cell? ⟨w.heap.size,3,none⟩=some (.slice x.ca x.b.clock.length x.cc):=HX.out.cell 3
 have x4:wA.cell? ⟨w.heap.size,4,none⟩=some (.slice x.ea x.b.effs.length x.ec):=HX.out.cell 4
 have cA2:(wA.alloc (.cells (bmC x) 124)).cell? ⟨hp,0,none⟩=some v:=(HP.out.blk.alloc _).cell 0
 obtain⟨i2,hi2,hy0,hy1,hy2⟩:=info_parts zlx
 have HI2:Hid (Tryz.prog.info? 124=some i2∧i2.zero=some (.agg #[.int .i64 0, .int .i64 0, .int .i64 0, .slice none 0 0, .slice none 0 0])∧i2.size=5∧i2.bytes=72):=⟨hi2,hy0,hy1,hy2⟩
 have HNE:Hid (¬v.ownBlock=some hp):=by
  rcases h.row.2 with⟨rfl,_⟩ | ⟨g,cap,cur,rfl,_⟩
  ·intro e;cases e
  ·intro e;exact h.ne (by simpa [Value.ownBlock] using e.symm)
 clear h hi2 hy0 hy1 hy2
 have hone:∀u∈x.cells,u.oneCell'=true:=by have:=zjl [x];simpa [flat] using this
 go_enter Tryz.func162,Tryz.ntmps162
 go_wp2_with fail
 change Code.wp _ _ _ _ (w.alloc (.cells (bmC x) 124))
 rw [←hwA]
 clear hwA
 go_region_law ((refine step_append_lies _ (by rfl) _ _ _ (by rfl) 0 124 i2 (.agg #[.int .i64 0, .int .i64 0, .int .i64 0, .slice none 0 0, .slice none 0 0]) 5 72 Tryz.underlying108 HI2.out.1 HI2.out.2.1 HI2.out.2.2.1 HI2.out.2.2.2 (by rfl) (by omega) v bs.length (flat Bm.cells bs) (by rfl) (by first | exact HP.out.row.alloc _ | exact(HP.out.row.alloc _).drew | exact(HP.out.row.drew).alloc _) ⟨wA.heap.size,0,none⟩ 1 1 x.cells (by rfl) (by rfl) (by first | exact zas wA _ _ | exact zb2 wA _ _) hone (by omega) (by unfold maxLen;omega) (by omega) (by omega) (wA.heap.size+1) (by simp) ?_;intro g7 cap7 w7 hown7 hgrow7 hat7 hlt7;have HT7:Hid (Tch (fun k=>v.ownBlock=some k) wA w7):=(by first | exact((Tch.refl _ wA).drew.alloc _).then (Tch.grown hgrow7) | exact((Tch.refl _ wA).alloc _).then (Tch.grown hgrow7));have HO7:Hid (w7.ownsRow 0 124 5 (.slice (some ⟨g7,0,none⟩) (bs.length+1) cap7) (bs.length+1) (flat Bm.cells bs++x.cells)):=hown7;have HA7:Hid (v.ownBlock=some g7∨g7=wA.heap.size+1):=hat7;have HK7:Hid (Blk w7 hp #[v, .func (.func 62) #[] #[]] 178):=HT7.out.blk HP.out.blk HNE.out;have c7:w7.cell? ⟨hp,0,none⟩=some v:=HK7.out.cell 0;have z7:w7.frozen? ⟨hp,0,none⟩=false:=HK7.out.frozen 0;clear hown7 hgrow7 hat7 hlt7))
 all_goals
  (go_wp2_with fail
   have hsA:=HBA.out.size
   have hpg:hp ≠ g7:=by
    rcases HA7.out with e | e
    ·intro e2;rw [←e2] at e;exact HNE.out e
    ·omega
   have hlen:(bs++ [x]).length=bs.length+1:=by simp
   have HP8:Hid (HpIn (w7.setCell ⟨hp,0,none⟩ (.slice (some ⟨g7,0,none⟩) (bs.length+1) cap7)) hp (.slice (some ⟨g7,0,none⟩) (bs++ [x]).length cap7) (bs++ [x])):=by
    refine⟨?_, ?_⟩
    ·rw [hlen];exact HK7.out.set 0 _
    ·rw [hlen,zez]
     exact zah HO7.out (fun b e=>heap_setCell_other _ ⟨hp,0,none⟩ b _ (by cases e;exact hpg.symm))
   have HT8:Hid (Tch (fun k=>k=hp∨v.ownBlock=some k) w (w7.setCell ⟨hp,0,none⟩ (.slice (some ⟨g7,0,none⟩) (bs.length+1) cap7))):=Tch.setCell ((Tch.below HBA.out).trans HT7.out (fun _ _ h=>h) (fun _ _ h=>Or.inr h)) _ _ (Or.inl (Or.inl rfl))
   have HG8:Hid (v.ownBlock=some g7∨w.heap.size<=g7):=HA7.out.imp id (fun e=>by omega)
   refine(zua hp g7 cap7 bs.length (bs++ [x]) _ HP8.out (by omega) (by omega)).mono ?_
   rintro e w9 ⟨rfl,hp9,hT9⟩
   have HE:Hid (HpOk w hp v (pushP lessM bs x) w9):=⟨_,by
    unfold pushP
    rw [show(riseP lessM (bs++ [x]) bs.length)=riseP lessM (bs++ [x]) bs.length from rfl]
    exact hp9,HT8.out.trans hT9 (fun _ _ h=>h) (fun k hk h=>by
     subst h
     rcases HG8.out with e | e
     ·exact Or.inr e
     ·omega),fun b e=>by cases e;exact HG8.out⟩
   clear hp9 hT9 HP8 HT8 HG8 hsA
   go_wp2
   go_end0
   exact⟨rfl,HE.out⟩)
theorem zno(hp g cap:Nat)(w:World)(h:HpIn w hp (.slice (some ⟨g,0,none⟩) 0 cap) []):
  Calls Tryz.prog 207 #[.pointer (some ⟨hp,0,none⟩),I 0] w fun e w'=>e= .returned (I 0)∧w'=w:=by
 have c0:w.cell? ⟨hp,0,none⟩=some (.slice (some ⟨g,0,none⟩) 0 cap):=h.blk.cell 0
 clear h
 go_enter Tryz.func207,Tryz.ntmps207
 go_wp2_with fail
 go_loopw [5,6] (fun v5 v6 wr=>v5=I 0∧v6=I 1∧wr=w) (fun _ _ _=>0)
 case atStart=>exact⟨rfl,rfl,rfl⟩
 case round=>
  obtain⟨rfl,rfl,rfl⟩:=hrel
  go_wp2
  go_ret
  exact⟨rfl,rfl⟩
theorem zqj(hp g cap:Nat)(w:World)(h:HpIn w hp (.slice (some ⟨g,0,none⟩) 0 cap) []):
  Calls Tryz.prog 187 #[.pointer (some ⟨hp,0,none⟩),I 0] w fun e w'=>e= .returned (.tuple #[])∧w'=w:=by
 go_enter Tryz.func187,Tryz.ntmps187
 go_wp2_with fail
 refine(zno hp g cap w h).mono ?_
 rintro e w1 ⟨rfl,hw1⟩
 rw [hw1]
 clear hw1 w1 h
 go_wp2_with fail
 go_loopw [1,4] (fun v1 v4 wr=>v1=I 0∧v4=I 0∧wr=w) (fun _ _ _=>0)
 case atStart=>exact⟨rfl,rfl,rfl⟩
 case round=>
  obtain⟨rfl,rfl,rfl⟩:=hrel
  go_wp2
  go_end0
  exact⟨rfl,rfl⟩
def popP{α:Type}(less:α->α->Bool)(bs:List α):Option (α×List α):=
 match bs with
 | []=>none
 | x::l=>some (x,sinkP less (((x::l).set 0 ((x::l)[l.length]'(by simp))).take l.length) 0)
abbrev zB:Array Value:= #[.int .i64 0, .int .i64 0, .int .i64 0, .slice none 0 0, .slice none 0 0]
abbrev twoZ (w:World):World:=(w.alloc (.cells #[.int .i64 0, .int .i64 0, .int .i64 0, .slice none 0 0, .slice none 0 0] 124)).alloc (.cells #[.int .i64 0, .int .i64 0, .int .i64 0, .slice none 0 0, .slice none 0 0] 124)
theorem zb4(w:World):Below w.heap.size w (twoZ w):=((Below.refl _ _).alloc (Nat.le_refl _) _).alloc (by simp) _
abbrev zeroB:Value:= .agg #[.int .i64 0, .int .i64 0, .int .i64 0, .slice none 0 0, .slice none 0 0]
theorem zuc(hp:Nat)(v:Value)(w:World)(h:HpIn w hp v []):
  Calls Tryz.prog 161 #[.pointer (some ⟨hp,0,none⟩)] w fun e w'=>e= .returned (.tuple #[zeroB, .bool false])∧Below w.heap.size w w':=by
 obtain⟨a,c,rfl⟩:∃a c,v= .slice a 0 c:=by
  rcases h.row.2 with⟨rfl,_⟩ | ⟨g,cap,cur,rfl,_⟩
  ·exact⟨_,_,rfl⟩
  ·exact⟨_,_,rfl⟩
 have c0:(twoZ w).cell? ⟨hp,0,none⟩=some (.slice a 0 c):=(h.kept (zb4 w)).blk.cell 0
 have HB:Hid (Below w.heap.size w (twoZ w)):=zb4 w
 clear h
 go_enter Tryz.func161,Tryz.ntmps161
 go_wp2_with fail
 exact bodyPost_ret (v:= .tuple #[zeroB, .bool false]) (by simp [results,Tryz.results161,go_sem]) rfl ⟨rfl,HB.out⟩
def bmZ:Bm:=⟨⟨0,0,0, [], []⟩,none,none,0,0, []⟩
theorem zui{α:Type}(f:α->List Value)(n:Nat)(hf:∀x,(f x).length=n)(l:List α)(k:Nat)(hk:k<=l.length):(flat f l).take (k*n)=flat f (l.take k):=by
 have h1:flat f l=flat f (l.take k)++flat f (l.drop k):=by rw [←za1,List.take_append_drop]
 have h2:(flat f (l.take k)).length=k*n:=by rw [zaq f n hf,List.length_take,Nat.min_eq_left hk]
 rw [h1,←h2,List.take_left]
theorem zwl{w:World}{e:TypeId}{g n cap k s:Nat}{α:Type}(f:α->List Value)(hf:∀x,(f x).length=s){bs:List α}(hn:n=bs.length)(h:w.ownsRow 0 e s (.slice (some ⟨g,0,none⟩) n cap) n (flat f bs))(hk:k<=n):
  w.ownsRow 0 e s (.slice (some ⟨g,0,none⟩) k cap) k (flat f (bs.take k)):=by
 subst hn
 rcases h.2 with⟨e1,_⟩ | ⟨g',cap',cur,e1,hb,hc,h3,h4,h5,h6⟩
 ·cases e1
 ·cases e1
  refine⟨by rw [zaq f s hf,List.length_take,Nat.min_eq_left hk], .inr ⟨g,cap,cur,rfl,hb,hc,by omega,h4,h5, ?_⟩⟩
  rw [←zui f s hf bs k hk,←h6,List.take_take,Nat.min_eq_left (Nat.mul_le_mul_right _ hk)]
def PopOk(w:World)(hp g cap:Nat)(bs:List Bm)(w':World):Prop:=HpIn w' hp (.slice (some ⟨g,0,none⟩) bs.length cap) bs∧Tch (fun k=>k=hp∨k=g) w w'
theorem zrs{w wC:World}{hp g cap:Nat}{bs:List Bm}{k:Nat}(y:Bm)(hb:Below w.heap.size w wC)(h:HpIn wC hp (.slice (some ⟨g,0,none⟩) bs.length cap) bs)(hk:k<bs.length)(v:Value)(hv:v= .slice (some ⟨g,0,none⟩) k cap):
  PopOk w hp g cap ((bs.set 0 y).take k) (((put5b (put5b wC g 0 y) g (k*5) bmZ).drew).setCell ⟨hp,0,none⟩ v):=by
 subst hv
 have hne:=h.ne
 have hT:Tch (fun j=>j=g) wC (put5b (put5b wC g 0 y) g (k*5) bmZ).drew:=((zaz wC g 0 y).then (zaz _ g (k*5) bmZ)).drew
 have hrow:(put5b (put5b wC g 0 y) g (k*5) bmZ).drew.ownsRow 0 124 5 (.slice (some ⟨g,0,none⟩) bs.length cap) bs.length (flat Bm.cells ((bs.set 0 y).set k bmZ)):=(zgi (zgi h.row 0 _) k _).drew
 generalize (put5b (put5b wC g 0 y) g (k*5) bmZ).drew=W at *
 have ht:((bs.set 0 y).set k bmZ).take k=(bs.set 0 y).take k:=by
  rw [List.take_set_of_le (Nat.le_refl _)]
 have hl:((bs.set 0 y).take k).length=k:=by rw [List.length_take,List.length_set];omega
 refine⟨⟨?_, ?_⟩, ?_⟩
 ·have:=(hT.blk h.blk hne).set 0 (.slice (some ⟨g,0,none⟩) k cap)
  rw [hl]
  exact this
 ·have h1:=zwl Bm.cells zbp (by simp) hrow (Nat.le_of_lt hk)
  rw [ht] at h1
  rw [hl]
  exact zah h1 (fun b e=>heap_setCell_other _ ⟨hp,0,none⟩ b _ (by cases e;exact hne.symm))
 ·exact Tch.setCell ((Tch.below hb).trans hT (fun _ _ h=>h) (fun _ _ h=>Or.inr h)) _ _ (Or.inl (Or.inl rfl))
theorem zkf{α:Type}(less:α->α->Bool)(bs:List α)(i:Nat):(sinkP less bs i).length=bs.length:=by
 induction hn:bs.length - i using Nat.strongRecOn generalizing bs i with
 | _ n ih=>
  rw [sinkP]
  split
  ·rename_i h
   have h1:=zeh less bs i
   have h2:=zeg less bs i h.2
   have h3:=h.1
   rw [ih (bs.length - za2 less bs i) (by omega) (swapP bs i (za2 less bs i)) (za2 less bs i) (by rw [zbk]),zbk]
  ·rfl
theorem zgv{w:World}{R:Nat}(h:Blk w R #[.int .i64 0, .int .i64 0, .int .i64 0, .slice none 0 0, .slice none 0 0] 124)(m:Bm):Blk (put5b w R 0 m) R (bmC m) 124:=
 ((((h.set 0 _).set 1 _).set 2 _).set 3 _).set 4 _
theorem zub(hp g cap:Nat)(x y:Bm)(l:List Bm)(w:World)(h:HpIn w hp (.slice (some ⟨g,0,none⟩) (l.length+1) cap) (x::l))(hl:l.length<=1000000)(hpos:0<l.length)(hy:(x::l)[l.length]?=some y):
  Calls Tryz.prog 161 #[.pointer (some ⟨hp,0,none⟩)] w fun e w'=>e= .returned (.tuple #[bmV x, .bool true])∧PopOk w hp g cap (sinkP lessM (((x::l).set 0 y).take l.length) 0) w':=by
 obtain⟨hyl,hye⟩:=List.getElem?_eq_some_iff.1 hy
 have HP:Hid (HpIn (twoZ w) hp (.slice (some ⟨g,0,none⟩) (l.length+1) cap) (x::l)):=h.kept (zb4 w)
 have c0:(twoZ w).cell? ⟨hp,0,none⟩=some (.slice (some ⟨g,0,none⟩) (l.length+1) cap):=HP.out.blk.cell 0
 obtain⟨a0,a1,a2,a3,a4⟩:=zcs HP.out.row 0 (by simp)
 simp only [List.getElem_cons_zero,Nat.zero_mul,Nat.zero_add] at a0 a1 a2 a3 a4
 have hp0:¬(l.length:Int)<0:=by omega
 obtain⟨wC,hwC⟩:∃wC,wC=(twoZ w).alloc (.cells (bmC x) 124):=⟨_,rfl⟩
 have HBC:Hid (Below w.heap.size w wC):=by rw [hwC];exact(zb4 w).alloc (zb4 w).size _
 have HPC:Hid (HpIn wC hp (.slice (some ⟨g,0,none⟩) (l.length+1) cap) (x::l)):=h.kept HBC.out
 have HR:Hid (Blk wC w.heap.size #[.int .i64 0, .int .i64 0, .int .i64 0, .slice none 0 0, .slice none 0 0] 124):=by rw [hwC];exact(Blk.alloc (heap_alloc_new w _) _).alloc _
 have HN:Hid (Blk wC (w.heap.size+1) #[.int .i64 0, .int .i64 0, .int .i64 0, .slice none 0 0, .slice none 0 0] 124):=by rw [hwC];exact(Blk.second w _ _ _).alloc _
 have HX:Hid (Blk wC (w.heap.size+1+1) (bmC x) 124):=by
  have e:(twoZ w).heap.size=w.heap.size+1+1:=by simp
  rw [hwC,←e]
  exact heap_alloc_new (twoZ w) _
 have hgw:g<w.heap.size:=(h.row.lt g rfl).2
 have hpw:hp<w.heap.size:=h.blk.lt
 have hcap:l.length+1<=cap:=by
  rcases h.row.2 with⟨e1,_⟩ | ⟨g',cap',cur,e1,_,_,h3,_⟩
  ·cases e1
  ·cases e1;exact h3
 have hcap1:l.length<=cap:=by omega
 have hcap2:(l.length:Int)<=(cap:Int):=by omega
 clear h HP hcap
 go_enter Tryz.func161,Tryz.ntmps161
 go_wp2_with fail
 change Code.wp _ _ _ _ ((twoZ w).alloc (.cells (bmC x) 124))
 rw [←hwC]
 clear hwC c0 a0 a1 a2 a3 a4
 have c0:wC.cell? ⟨hp,0,none⟩=some (.slice (some ⟨g,0,none⟩) (l.length+1) cap):=HPC.out.blk.cell 0
 obtain⟨a0,a1,a2,a3,a4⟩:=zcs HPC.out.row 0 (by simp)
 simp only [List.getElem_cons_zero,Nat.zero_mul,Nat.zero_add] at a0 a1 a2 a3 a4
 obtain⟨b0,b1,b2,b3,b4⟩:=zcs HPC.out.row l.length hyl
 rw [hye] at b0 b1 b2 b3 b4
 have n0:wC.cell? ⟨w.heap.size+1,0,none⟩=some (.int .i64 0):=HN.out.cell 0
 have n1:wC.cell? ⟨w.heap.size+1,1,none⟩=some (.int .i64 0):=HN.out.cell 1
 have n2:wC.cell? ⟨w.heap.size+1,2,none⟩=some (.int .i64 0):=HN.out.cell 2
 have n3:wC.cell? ⟨w.heap.size+1,3,none⟩=some (.slice none 0 0):=HN.out.cell 3
 have n4:wC.cell? ⟨w.heap.size+1,4,none⟩=some (.slice none 0 0):=HN.out.cell 4
 have HF:Hid (∀k,wC.frozen? ⟨g,k,none⟩=false):=fun k=>zis HPC.out.row k
 have f0:=HF.out 0
 have f1:=HF.out 1
 have f2:=HF.out 2
 have f3:=HF.out 3
 have f4:=HF.out 4
 have g0:=HF.out (l.length*5)
 have g1:=HF.out (l.length*5+1)
 have g2:=HF.out (l.length*5+2)
 have g3:=HF.out (l.length*5+3)
 have g4:=HF.out (l.length*5+4)
 have hne:l.length*5 ≠ 0:=by omega
 clear hy hye hyl
 go_region
 obtain⟨wD,hwD⟩:∃wD,wD=(put5b (put5b wC g 0 y) g (l.length*5) bmZ).drew:=⟨_,rfl⟩
 change Exit.then _ _ Exit.normal _ (put5b (put5b wC g 0 y) g (l.length*5) bmZ).drew
 have HPO:Hid (PopOk w hp g cap (((x::l).set 0 y).take l.length) (wD.setCell ⟨hp,0,none⟩ (.slice (some ⟨g,0,none⟩) l.length cap))):=by
  show PopOk _ _ _ _ _ _
  rw [hwD]
  exact zrs y HBC.out HPC.out (by simp) _ rfl
 have HTD:Hid (Tch (fun j=>j=g) wC wD):=by
  show Tch _ _ _
  rw [hwD]
  exact((zaz wC g 0 y).then (zaz _ g (l.length*5) bmZ)).drew
 rw [←hwD]
 clear hwD
 have HKD:Hid (Blk wD hp #[.slice (some ⟨g,0,none⟩) (l.length+1) cap, .func (.func 62) #[] #[]] 178):=HTD.out.blk HPC.out.blk HPC.out.ne
 have HRD:Hid (Blk wD w.heap.size #[.int .i64 0, .int .i64 0, .int .i64 0, .slice none 0 0, .slice none 0 0] 124):=HTD.out.blk HR.out (by omega)
 have HXD:Hid (Blk wD (w.heap.size+1+1) (bmC x) 124):=HTD.out.blk HX.out (by omega)
 have hsz:w.heap.size+1+1<wD.heap.size:=HXD.out.lt
 clear HTD HPC HR HN HX c0 a0 a1 a2 a3 a4 b0 b1 b2 b3 b4 n0 n1 n2 n3 n4 HF f0 f1 f2 f3 f4 g0 g1 g2 g3 g4
 have d0:wD.cell? ⟨hp,0,none⟩=some (.slice (some ⟨g,0,none⟩) (l.length+1) cap):=HKD.out.cell 0
 have z0:wD.frozen? ⟨hp,0,none⟩=false:=HKD.out.frozen 0
 go_wp2_with fail
 have HLL:Hid ((((x::l).set 0 y).take l.length).length=l.length):=by show _=_;rw [List.length_take,List.length_set,List.length_cons];omega
 obtain⟨wE,hwE⟩:∃wE,wE=wD.setCell ⟨hp,0,none⟩ (.slice (some ⟨g,0,none⟩) l.length cap):=⟨_,rfl⟩
 have HRE:Hid (Blk wE w.heap.size #[.int .i64 0, .int .i64 0, .int .i64 0, .slice none 0 0, .slice none 0 0] 124):=by rw [hwE];exact HRD.out.other (by show w.heap.size ≠ hp;omega) _
 have HXE:Hid (Blk wE (w.heap.size+1+1) (bmC x) 124):=by rw [hwE];exact HXD.out.other (by show w.heap.size+1+1 ≠ hp;omega) _
 rw [←hwE] at HPO ⊢
 clear hwE HRD HXD HKD d0 z0 hsz
 obtain⟨LL,HLQ⟩:∃LL,Hid (((x::l).set 0 y).take l.length=LL):=⟨_,rfl⟩
 rw [HLQ.out] at HPO HLL
 refine(zt9 hp g cap 0 LL wE HPO.out.1 (by rw [HLL.out];omega) (by rw [HLL.out];omega)).mono ?_
 rintro e w3 ⟨rfl,hp3,hT3⟩
 have HP3:Hid (HpIn w3 hp (.slice (some ⟨g,0,none⟩) (sinkP lessM LL 0).length cap) (sinkP lessM LL 0)):=by show HpIn _ _ _ _;rw [zkf];exact hp3
 have HT3:Hid (Tch (fun k=>k=hp∨k=g) w w3):=HPO.out.2.trans hT3 (fun _ _ h=>h) (fun _ _ h=>Or.inr h)
 have HR3:Hid (Blk w3 w.heap.size #[.int .i64 0, .int .i64 0, .int .i64 0, .slice none 0 0, .slice none 0 0] 124):=hT3.blk HRE.out (by omega)
 have HX3:Hid (Blk w3 (w.heap.size+1+1) (bmC x) 124):=hT3.blk HXE.out (by omega)
 clear hp3 hT3 HRE HXE HPO HLL
 have x0:w3.cell? ⟨w.heap.size+1+1,0,none⟩=some (I x.b.o):=HX3.out.cell 0
 have x1:w3.cell? ⟨w.heap.size+1+1,1,none⟩=some (I x.b.s):=HX3.out.cell 1
 have x2:w3.cell? ⟨w.heap.size+1+1,2,none⟩=some (I x.b.t):=HX3.out.cell 2
 have x3:w3.cell? ⟨w.heap.size+1+1,3,none⟩=some (.slice x.ca x.b.clock.length x.cc):=HX3.out.cell 3
 have x4:w3.cell? ⟨w.heap.size+1+1,4,none⟩=some (.slice x.ea x.b.effs.length x.ec):=HX3.out.cell 4
 have r0:w3.cell? ⟨w.heap.size,0,none⟩=some (.int .i64 0):=HR3.out.cell 0
 have r1:w3.cell? ⟨w.heap.size,1,none⟩=some (.int .i64 0):=HR3.out.cell 1
 have r2:w3.cell? ⟨w.heap.size,2,none⟩=some (.int .i64 0):=HR3.out.cell 2
 have r3:w3.cell? ⟨w.heap.size,3,none⟩=some (.slice none 0 0):=HR3.out.cell 3
 have r4:w3.cell? ⟨w.heap.size,4,none⟩=some (.slice none 0 0):=HR3.out.cell 4
 have z0:=HR3.out.frozen 0
 have z1:=HR3.out.frozen 1
 have z2:=HR3.out.frozen 2
 have z3:=HR3.out.frozen 3
 have z4:=HR3.out.frozen 4
 go_wp2_with fail
 change bodyPost _ _ _ Exit.ret _ (put5b w3 w.heap.size 0 x)
 have HF:Hid (Blk (put5b w3 w.heap.size 0 x) w.heap.size (bmC x) 124):=zgv HR3.out x
 have HTF:Hid (Tch (fun k=>k=hp∨k=g) w (put5b w3 w.heap.size 0 x)):=HT3.out.trans (zaz w3 w.heap.size 0 x) (fun _ _ h=>h) (fun k hk h=>by omega)
 have HPF:Hid (HpIn (put5b w3 w.heap.size 0 x) hp (.slice (some ⟨g,0,none⟩) (sinkP lessM LL 0).length cap) (sinkP lessM LL 0)):=⟨(zaz w3 w.heap.size 0 x).blk HP3.out.blk (by show¬hp=w.heap.size;omega),zah HP3.out.row (fun b e=>zhk (by rw [←(by simpa [Value.ownBlock] using e:g=b)];omega))⟩
 clear HP3 HT3 HR3 HX3 x0 x1 x2 x3 x4 r0 r1 r2 r3 r4 z0 z1 z2 z3 z4
 generalize put5b w3 w.heap.size 0 x=wF at *
 have f0:wF.cell? ⟨w.heap.size,0,none⟩=some (I x.b.o):=HF.out.cell 0
 have f1:wF.cell? ⟨w.heap.size,1,none⟩=some (I x.b.s):=HF.out.cell 1
 have f2:wF.cell? ⟨w.heap.size,2,none⟩=some (I x.b.t):=HF.out.cell 2
 have f3:wF.cell? ⟨w.heap.size,3,none⟩=some (.slice x.ca x.b.clock.length x.cc):=HF.out.cell 3
 have f4:wF.cell? ⟨w.heap.size,4,none⟩=some (.slice x.ea x.b.effs.length x.ec):=HF.out.cell 4
 refine bodyPost_ret (v:= .tuple #[bmV x, .bool true]) (by simp [results,Tryz.results161,go_sem,f0,f1,f2,f3,f4]) rfl ⟨rfl, ?_⟩
 rw [HLQ.out]
 exact⟨HPF.out,HTF.out⟩
end Go.Proofs.YtfmcngncaffloaaGreatDoor
