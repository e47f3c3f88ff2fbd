import Derived.Test.YtfmcngncaffloabGreatDoorJ11HpA
import Derived.BigRegion
set_option maxHeartbeats 800000
namespace Go.Proofs.YtfmcngncaffloabGreatDoor
open Go.RowKit Go.Proofs.Tryz
set_option maxRecDepth 100000
structure HpIn(w:World)(hp:Nat)(v:Value)(bs:List Bm):Prop where
 blk:Blk w hp #[v, .func (.func 78) #[] #[]] 188
 row:w.ownsRow 0 134 5 v bs.length (flat Bm.cells bs)
theorem HpIn.kept{w w':World}{hp:Nat}{v:Value}{bs:List Bm}(h:HpIn w hp v bs)(hb:Below w.heap.size w w'):HpIn w' hp v bs:=
 ⟨h.blk.kept hb h.blk.lt,zag h.row (fun g hg=>hb.block g (h.row.lt g hg).2)⟩
theorem HpIn.ne{w:World}{hp g n cap:Nat}{bs:List Bm}(h:HpIn w hp (.slice (some ⟨g,0,none⟩) n cap) bs):hp ≠ g:=by
 rintro rfl;rcases h.row.2 with⟨e1,_⟩ | ⟨g',cap',cur,e1,hb,hc,_⟩
 ·cases e1
 ·cases e1
  have:=h.blk.symm.trans hc;simp at this
theorem zct{w:World}{g cap n:Nat}{bs:List Bm}(h:w.ownsRow 0 134 5 (.slice (some ⟨g,0,none⟩) n cap) bs.length (flat Bm.cells bs))(k:Nat)(hk:k<bs.length):
  w.cell? ⟨g,k*5,none⟩=some (I bs[k].b.o)∧w.cell? ⟨g,k*5+1,none⟩=some (I bs[k].b.s)∧w.cell? ⟨g,k*5+2,none⟩=some (I bs[k].b.t)∧w.cell? ⟨g,k*5+3,none⟩=some (.slice bs[k].ca bs[k].b.clock.length bs[k].cc)∧w.cell? ⟨g,k*5+4,none⟩=some (.slice bs[k].ea bs[k].b.effs.length bs[k].ec):=by
 have hc:=h.cells (g:=g) rfl
 have hx:∀j (_:j<5) u,(bs[k].cells)[j]?=some u->w.cell? ⟨g,k*5+j,none⟩=some u:=fun j hj u hu=>by
  have:=hc (k*5+j) u ((zao Bm.cells 5 zcq bs k hk j hj).trans hu);rw [Addr.add_lit,aV] at this;exact this
 exact⟨hx 0 (by omega) _ rfl,hx 1 (by omega) _ rfl,hx 2 (by omega) _ rfl,hx 3 (by omega) _ rfl,hx 4 (by omega) _ rfl⟩
theorem zka{w:World}{base:Nat}{e:TypeId}{s n g cap:Nat}{xs:List Value}(h:w.ownsRow base e s (.slice (some ⟨g,0,none⟩) n cap) n xs)(j:Nat):w.frozen? ⟨g,j,none⟩=false:=by
 rcases h.2 with⟨e1,_⟩ | ⟨g',cap',cur,e1,hb,hc,_⟩
 ·cases e1
 ·cases e1;exact frozen_of_row w g j cur e hc
abbrev put5b (w:World) (g o:Nat) (m:Bm):World:=((((w.setCell ⟨g,o,none⟩ (I m.b.o)).setCell ⟨g,o+1,none⟩ (I m.b.s)).setCell ⟨g,o+2,none⟩ (I m.b.t)).setCell ⟨g,o+3,none⟩ (.slice m.ca m.b.clock.length m.cc)).setCell ⟨g,o+4,none⟩ (.slice m.ea m.b.effs.length m.ec)
theorem zvt(bs:List Bm)(k:Nat)(m:Bm):((((((flat Bm.cells bs).set (k*5) (I m.b.o)).set (k*5+1) (I m.b.s)).set (k*5+2) (I m.b.t)).set (k*5+3) (.slice m.ca m.b.clock.length m.cc)).set (k*5+4) (.slice m.ea m.b.effs.length m.ec))=flat Bm.cells (bs.set k m):=by
 have hl:(flat Bm.cells bs).length=bs.length*5:=zan Bm.cells 5 zcq bs;apply List.ext_getElem?;intro j;rcases Nat.lt_or_ge j (bs.length*5) with hj | hj
 ·rw [zfx Bm.cells 5 zcq bs k m j hj]
  simp only [List.getElem?_set,aE,hl];by_cases h0:j=k*5
  ·subst h0;simp [Bm.cells,hj]
  by_cases h1:j=k*5+1
  ·subst h1;simp [Bm.cells,hj]
  by_cases h2:j=k*5+2
  ·subst h2;simp [Bm.cells,hj]
  by_cases h3:j=k*5+3
  ·subst h3;simp [Bm.cells,hj]
  by_cases h4:j=k*5+4
  ·subst h4;simp [Bm.cells,hj]
  rw [ap (by omega),ap (by omega),ap (by omega),ap (by omega),ap (by omega),ap (by omega)]
 ·rw [aF (by simp only [aE,hl];omega),aF (by rw [zan Bm.cells 5 zcq,aE];omega)]
theorem zhi{w:World}{g n cap:Nat}{bs:List Bm}(h:w.ownsRow 0 134 5 (.slice (some ⟨g,0,none⟩) n cap) n (flat Bm.cells bs))(k:Nat)(m:Bm):
  (put5b w g (k*5) m).ownsRow 0 134 5 (.slice (some ⟨g,0,none⟩) n cap) n (flat Bm.cells (bs.set k m)):=by
 rw [←zvt];exact zc9 (zc9 (zc9 (zc9 (zc9 h _ _) _ _) _ _) _ _) _ _
theorem zix{w:World}{g o:Nat}{m:Bm}{k:Nat}(h:k ≠ g):(put5b w g o m).heap[k]?=w.heap[k]?:=by
 unfold put5b;rw [heap_setCell_other _ ⟨g,o+4,none⟩ k _ h,heap_setCell_other _ ⟨g,o+3,none⟩ k _ h,heap_setCell_other _ ⟨g,o+2,none⟩ k _ h,heap_setCell_other _ ⟨g,o+1,none⟩ k _ h,heap_setCell_other _ ⟨g,o,none⟩ k _ h]
theorem zav(w:World)(g o:Nat)(m:Bm):Tch (fun j=>j=g) w (put5b w g o m):=
 ((((Tch.refl (fun j=>j=g) w).setCell ⟨g,o,none⟩ _ (Or.inl rfl)).setCell ⟨g,o+1,none⟩ _ (Or.inl rfl)).setCell ⟨g,o+2,none⟩ _ (Or.inl rfl)).setCell ⟨g,o+3,none⟩ _ (Or.inl rfl) |>.setCell ⟨g,o+4,none⟩ _ (Or.inl rfl)
def swapL(bs:List Bm)(i j:Nat):List Bm:=match bs[i]?,bs[j]? with | some x,some y=>(bs.set i y).set j x | _,_=>bs
theorem zvn(bs:List Bm)(i j:Nat):(swapL bs i j).length=bs.length:=by
 unfold swapL;split<;>simp
theorem zmk(hp g cap i j:Nat)(bs:List Bm)(w:World)(h:HpIn w hp (.slice (some ⟨g,0,none⟩) bs.length cap) bs)(hi:i<bs.length)(hj:j<bs.length)(hij:i ≠ j):
  Calls prog 197 #[.pointer (some ⟨hp,0,none⟩),I i,I j] w fun e w'=>e= .returned (.tuple #[])∧HpIn w' hp (.slice (some ⟨g,0,none⟩) bs.length cap) (swapL bs i j)∧Tch (fun k=>k=g) w w':=by
 have HP:Hid (HpIn w hp (.slice (some ⟨g,0,none⟩) bs.length cap) bs):=h;obtain⟨a0,a1,a2,a3,a4⟩:=zct h.row i hi;obtain⟨b0,b1,b2,b3,b4⟩:=zct h.row j hj;have c0:w.cell? ⟨hp,0,none⟩=some (.slice (some ⟨g,0,none⟩) bs.length cap):=h.blk.cell 0;have HF:Hid (∀k,w.frozen? ⟨g,k,none⟩=false):=fun k=>zka h.row k
 have hii:(i:Int)<bs.length:=by omega
 have hjj:(j:Int)<bs.length:=by omega
 clear h;go_enter func197,ntmps197
 have HS:Hid (swapL bs i j=(bs.set i bs[j]).set j bs[i]):=by
  show _=_;unfold swapL;rw [ag hi,ag hj]
 have HT:Hid (Tch (fun k=>k=g) w (put5b (put5b w g (i*5) bs[j]) g (j*5) bs[i]).drew):=((zav w g (i*5) bs[j]).then (zav _ g (j*5) bs[i])).drew
 have HW:Hid (HpIn (put5b (put5b w g (i*5) bs[j]) g (j*5) bs[i]).drew hp (.slice (some ⟨g,0,none⟩) bs.length cap) (swapL bs i j)):=by
  refine⟨?_, ?_⟩
  ·exact HT.out.blk HP.out.blk HP.out.ne
  ·rw [zvn,HS.out]
   exact(zhi (zhi HP.out.row i _) j _).drew
 clear HP HS;generalize bs[i]=x at *
 generalize bs[j]=y at *
 go_wp2_with fail
 have f0:=HF.out (i*5);have f1:=HF.out (i*5+1);have f2:=HF.out (i*5+2);have f3:=HF.out (i*5+3);have f4:=HF.out (i*5+4);have g0:=HF.out (j*5);have g1:=HF.out (j*5+1);have g2:=HF.out (j*5+2);have g3:=HF.out (j*5+3);have g4:=HF.out (j*5+4);go_region
 go_end0;exact⟨rfl,HW.out,HT.out⟩
def updP{α:Type}(less:α->α->Bool)(bs:List α)(l c:Nat):Nat:=match bs[c]?,bs[l]? with | some x,some y=>if less x y then c else l | _,_=>l
def za5{α:Type}(less:α->α->Bool)(bs:List α)(i:Nat):Nat:=updP less bs (updP less bs i (2*i+1)) (2*i+2)
def lessM(x y:Bm):Bool:=zah x.b y.b
theorem zng{α:Type}(less:α->α->Bool)(bs:List α)(l c:Nat)(hl:l<bs.length):updP less bs l c<bs.length:=by
 unfold updP;split
 ·rename_i x y hx hy
  split
  ·exact(af.1 hx).1
  ·exact hl
 ·exact hl
theorem zjq{α:Type}(less:α->α->Bool)(bs:List α)(l c:Nat)(hc:bs.length<=c):updP less bs l c=l:=by
 unfold updP;rw [aF hc]
theorem zt6{α:Type}(less:α->α->Bool)(bs:List α)(l c:Nat)(hc:c<bs.length)(hl:l<bs.length):updP less bs l c=if less bs[c] bs[l] then c else l:=by
 unfold updP;rw [ag hc,ag hl]
def zc4{α:Type}(less:α->α->Bool)(bs:List α)(i:Nat):Nat->Nat
 | 0=>i
 | k+1=>updP less bs (zc4 less bs i k) (2*i+1+k)
theorem zsm{α:Type}(less:α->α->Bool)(bs:List α)(i k:Nat)(hi:i<bs.length):zc4 less bs i k<bs.length:=by
 induction k with
 | zero=>exact hi
 | succ k ih=>exact zng less bs _ _ ih
theorem zpz{α:Type}(less:α->α->Bool)(bs:List α)(i k:Nat)(h:bs.length<=2*i+1+k)(hk:k<=2):zc4 less bs i k=za5 less bs i:=by
 have h2:za5 less bs i=zc4 less bs i 2:=rfl;rw [h2];rcases (by omega:k=0∨k=1∨k=2) with rfl | rfl | rfl
 ·show i=updP less bs (updP less bs i (2*i+1+0)) (2*i+1+1)
  rw [zjq less bs _ _ (by omega),zjq less bs _ _ (by omega)]
 ·show _=updP less bs _ (2*i+1+1)
  rw [zjq less bs _ (2*i+1+1) (by omega)]
 ·rfl
theorem zkq(hp g cap i:Nat)(bs:List Bm)(w:World)(h:HpIn w hp (.slice (some ⟨g,0,none⟩) bs.length cap) bs)(hi:i<bs.length)(hl:bs.length<=1048576):
  Calls prog 196 #[.pointer (some ⟨hp,0,none⟩),I i] w fun e w'=>e= .returned (I (za5 lessM bs i:Nat))∧Below w.heap.size w w':=by
 have HP:Hid (HpIn w hp (.slice (some ⟨g,0,none⟩) bs.length cap) bs):=h;clear h;have hw1:IntKind.i64.wrap (2*(i:Int))=2*(i:Int):=by rw [IntKind.wrap_i64];omega
 have hw2:IntKind.i64.wrap (2*(i:Int)+1)=2*(i:Int)+1:=by rw [IntKind.wrap_i64];omega
 have hw3:IntKind.i64.wrap (2*(i:Int)+2)=2*(i:Int)+2:=by rw [IntKind.wrap_i64];omega
 go_enter func196,ntmps196;go_wp2_with fail
 go_loopw [5,6] (fun v5 v6 wr=>∃k:Nat,k<=2∧v5=I (zc4 lessM bs i k:Nat)∧v6=I (2*i+1+k:Nat)∧Hid (Below w.heap.size w wr)) (fun _ v6 _=>2*i+3 - (intOf v6).toNat)
 case atStart=>exact⟨0,by omega,rfl,by simp,Below.refl _ _⟩
 case round=>
  obtain⟨k,hk,rfl,rfl,HB⟩:=hrel;have HPr:Hid (HpIn wr hp (.slice (some ⟨g,0,none⟩) bs.length cap) bs):=HP.out.kept HB.out;have c0:wr.cell? ⟨hp,0,none⟩=some (.slice (some ⟨g,0,none⟩) bs.length cap):=HPr.out.blk.cell 0;have c1:wr.cell? ⟨hp,1,none⟩=some (.func (.func 78) #[] #[]):=HPr.out.blk.cell 1;have hlt:=zsm lessM bs i k hi;have HN:Hid (zc4 lessM bs i (k+1)=updP lessM bs (zc4 lessM bs i k) (2*i+1+k)):=rfl;have HO:Hid (bs.length<=2*i+1+k->zc4 lessM bs i k=za5 lessM bs i):=fun h=>zpz lessM bs i k h hk
  have HO2:Hid (k=2->zc4 lessM bs i k=za5 lessM bs i):=fun h=>by rw [h];rfl
  have HC:Hid (2*i+1+(k+1)=2*i+1+k+1):=by show _=_;omega
  obtain⟨c,hc⟩:∃c,c=2*i+1+k:=⟨_,rfl⟩
  obtain⟨l,hle⟩:∃l,l=zc4 lessM bs i k:=⟨_,rfl⟩
  rw [←hc] at HN HO HC ⊢;rw [←hle] at hlt HN HO HO2 ⊢;by_cases h1:c<bs.length∧k<2
  ·obtain⟨h1a,hk2⟩:=h1
   have hca:(c:Int)<=2*(i:Int)+2:=by omega
   have hcb:(c:Int)<bs.length:=by omega
   have hll:(l:Int)<bs.length:=by omega
   have HU:Hid (updP lessM bs l c=if lessM bs[c] bs[l] then c else l):=zt6 lessM bs l c h1a hlt;obtain⟨a0,a1,a2,a3,a4⟩:=zct HPr.out.row c h1a;obtain⟨b0,b1,b2,b3,b4⟩:=zct HPr.out.row l hlt;have hw4:IntKind.i64.wrap ((c:Int)+1)=(c:Int)+1:=by rw [IntKind.wrap_i64];omega
   clear hc hle HO HO2 HPr;generalize bs[c]=x at *
   generalize bs[l]=y at *
   go_wp2_with fail
   go_region_held3 (fun w'=>w'.cell? ⟨hp,0,none⟩=some (.slice (some ⟨g,0,none⟩) bs.length cap)∧w'.cell? ⟨hp,1,none⟩=some (.func (.func 78) #[] #[])∧w'.cell? ⟨g,c*5,none⟩=some (I x.b.o)∧w'.cell? ⟨g,c*5+1,none⟩=some (I x.b.s)∧w'.cell? ⟨g,c*5+2,none⟩=some (I x.b.t)∧w'.cell? ⟨g,c*5+3,none⟩=some (.slice x.ca x.b.clock.length x.cc)∧w'.cell? ⟨g,c*5+4,none⟩=some (.slice x.ea x.b.effs.length x.ec)∧w'.cell? ⟨g,l*5,none⟩=some (I y.b.o)∧w'.cell? ⟨g,l*5+1,none⟩=some (I y.b.s)∧w'.cell? ⟨g,l*5+2,none⟩=some (I y.b.t)∧w'.cell? ⟨g,l*5+3,none⟩=some (.slice y.ca y.b.clock.length y.cc)∧w'.cell? ⟨g,l*5+4,none⟩=some (.slice y.ea y.b.effs.length y.ec)) (first | go_keep | (refine⟨zaa hb0 ?_,zaa hb0 ?_,zaa hb0 ?_,zaa hb0 ?_,zaa hb0 ?_,zaa hb0 ?_,zaa hb0 ?_,zaa hb0 ?_,zaa hb0 ?_,zaa hb0 ?_,zaa hb0 ?_,zaa hb0 ?_⟩<;>go_keep))
    (first | (go_at_call 78;refine(zi5 x y _).mono ?_;rintro e w1 ⟨rfl,hb0⟩))
   have HB1:Hid (Below w.heap.size w w1):=HB.out.trans ((Below.refl _ _).drew.trans hb0 |>.mono HB.out.size);clear HB c0 c1 hb0;have HU2:Hid (updP lessM bs l c=if zah x.b y.b then c else l):=HU.out;clear HU;generalize zah x.b y.b=bl at *
   cases bl
   ·go_wp2_with fail
    go_roundw
    case rel=>exact⟨k+1,by omega,by rw [HN.out,HU2.out];rfl,by rw [HC.out];go_num,HB1⟩
    case measure=>simp [intOf];omega
   ·go_wp2_with fail
    go_roundw
    case rel=>exact⟨k+1,by omega,by rw [HN.out,HU2.out];rfl,by rw [HC.out];go_num,HB1⟩
    case measure=>simp [intOf];omega
  ·have HL:Hid (l=za5 lessM bs i):=by
    by_cases hk2:k=2
    ·exact HO2.out hk2
    ·exact HO.out (by omega)
   clear HO HO2 HN HC hlt;by_cases h2:k<2
   ·have hca:(c:Int)<=2*(i:Int)+2:=by omega
    have hcb:¬(c:Int)<bs.length:=by omega
    clear h1 hc hle HPr;go_wp2;go_ret;exact⟨by show _=_;rw [HL.out];rfl,HB.out⟩
   ·have hca:¬(c:Int)<=2*(i:Int)+2:=by omega
    clear h1 hc hle HPr;go_wp2;go_ret;exact⟨by show _=_;rw [HL.out];rfl,HB.out⟩
def swapP{α:Type}(bs:List α)(i j:Nat):List α:=match bs[i]?,bs[j]? with | some x,some y=>(bs.set i y).set j x | _,_=>bs
theorem zbk{α:Type}(bs:List α)(i j:Nat):(swapP bs i j).length=bs.length:=by
 unfold swapP;split<;>simp
theorem zox(bs:List Bm)(i j:Nat):swapL bs i j=swapP bs i j:=by
 unfold swapL swapP;cases bs[i]?<;>cases bs[j]?<;>rfl
theorem zt5{α:Type}(less:α->α->Bool)(bs:List α)(l c:Nat):updP less bs l c=l∨updP less bs l c=c:=by
 unfold updP;split
 ·split
  ·exact Or.inr rfl
  ·exact Or.inl rfl
 ·exact Or.inl rfl
theorem zes{α:Type}(less:α->α->Bool)(bs:List α)(i:Nat):i<=za5 less bs i:=by
 unfold za5;rcases zt5 less bs (updP less bs i (2*i+1)) (2*i+2) with h | h<;>rw [h]
 ·rcases zt5 less bs i (2*i+1) with h | h<;>rw [h]<;>omega
 ·omega
theorem zeq{α:Type}(less:α->α->Bool)(bs:List α)(i:Nat)(hi:i<bs.length):za5 less bs i<bs.length:=zng less bs _ _ (zng less bs _ _ hi)
def sinkP{α:Type}(less:α->α->Bool)(bs:List α)(i:Nat):List α:=
 if _h:za5 less bs i ≠ i∧i<bs.length then sinkP less (swapP bs i (za5 less bs i)) (za5 less bs i) else bs
 termination_by bs.length - i
 decreasing_by
 rw [zbk];have h1:=zes less bs i;have h2:=zeq less bs i _h.2;have:=_h.1;omega
def riseP{α:Type}(less:α->α->Bool)(bs:List α)(i:Nat):List α:=
 if _h:0<i∧updP less bs ((i - 1) / 2) i=i then riseP less (swapP bs i ((i - 1) / 2)) ((i - 1) / 2) else bs
 termination_by i
 decreasing_by omega
theorem zwu(hp g cap i:Nat)(bs:List Bm)(w:World)(h:HpIn w hp (.slice (some ⟨g,0,none⟩) bs.length cap) bs)(hi:i<bs.length)(hl:bs.length<=1048576):
  Calls prog 177 #[.pointer (some ⟨hp,0,none⟩),I i] w fun e w'=>e= .returned (.tuple #[])∧HpIn w' hp (.slice (some ⟨g,0,none⟩) bs.length cap) (sinkP lessM bs i)∧Tch (fun k=>k=g) w w':=by
 have HP:Hid (HpIn w hp (.slice (some ⟨g,0,none⟩) bs.length cap) bs):=h;have hgw:g<w.heap.size:=(h.row.lt g rfl).2;clear h;go_enter func177,ntmps177;go_wp2_with fail
 refine(zkq hp g cap i bs w HP.out hi hl).mono ?_;rintro e w1 ⟨rfl,hb1⟩;have HP1:Hid (HpIn w1 hp (.slice (some ⟨g,0,none⟩) bs.length cap) bs):=HP.out.kept hb1;have HT1:Hid (Tch (fun k=>k=g) w w1):=Tch.below hb1;clear hb1 HP;go_wp2_with fail
 go_loopw [1,4] (fun v1 v4 wr=>∃(i':Nat) (bs':List Bm),v1=I i'∧v4=I (za5 lessM bs' i':Nat)∧i'<bs'.length∧bs'.length=bs.length∧Hid (sinkP lessM bs' i'=sinkP lessM bs i)∧Hid (HpIn wr hp (.slice (some ⟨g,0,none⟩) bs.length cap) bs')∧Hid (Tch (fun k=>k=g) w wr)) (fun v1 _ _=>bs.length - (intOf v1).toNat)
 case atStart=>exact⟨i,bs,rfl,rfl,hi,rfl,rfl,HP1,HT1⟩
 case round=>
  obtain⟨i',bs',rfl,rfl,hi',hlen,HS,HP,HT⟩:=hrel;clear HP1 HT1;have hge:=zes lessM bs' i';have hlt:=zeq lessM bs' i' hi'
  have HQ:Hid (sinkP lessM bs' i'=if za5 lessM bs' i' ≠ i'∧i'<bs'.length then sinkP lessM (swapP bs' i' (za5 lessM bs' i')) (za5 lessM bs' i') else bs'):=by
   show _=_;rw [sinkP];split<;>rfl
  obtain⟨l,hle⟩:∃l,l=za5 lessM bs' i':=⟨_,rfl⟩
  rw [←hle] at hge hlt HQ ⊢;clear hle;by_cases hne:l=i'
  ·subst hne
   have HF:Hid (HpIn wr hp (.slice (some ⟨g,0,none⟩) bs.length cap) (sinkP lessM bs i)):=by
    show HpIn _ _ _ _;rw [←HS.out,HQ.out,ap (by simp)];exact HP.out
   clear HP HS HQ;go_wp2;go_end0;exact⟨rfl,HF.out,HT.out⟩
  ·have hni:¬(l:Int)=i':=by omega
   have HQ2:Hid (sinkP lessM (swapP bs' i' l) l=sinkP lessM bs i):=by
    show _=_;rw [←HS.out,HQ.out,aA ⟨hne,hi'⟩]
   clear HQ HS;go_wp2_with fail
   have HPB:Hid (HpIn wr hp (.slice (some ⟨g,0,none⟩) bs'.length cap) bs'):=by show HpIn _ _ _ _;rw [hlen];exact HP.out
   refine(zmk hp g cap i' l bs' wr HPB.out hi' hlt (by omega)).mono ?_;rintro e w2 ⟨rfl,hp2,hT2⟩;have HP2:Hid (HpIn w2 hp (.slice (some ⟨g,0,none⟩) (swapP bs' i' l).length cap) (swapP bs' i' l)):=by show HpIn _ _ _ _;rw [zbk,←zox];exact hp2
   have HT2:Hid (Tch (fun k=>k=g) w w2):=HT.out.then hT2;clear hp2 hT2 HP HPB HT;go_wp2_with fail
   refine(zkq hp g cap l (swapP bs' i' l) w2 HP2.out (by rw [zbk];exact hlt) (by rw [zbk];omega)).mono ?_;rintro e w3 ⟨rfl,hb3⟩
   have HP3:Hid (HpIn w3 hp (.slice (some ⟨g,0,none⟩) bs.length cap) (swapP bs' i' l)):=by
    have:=HP2.out.kept hb3;rw [zbk,hlen] at this;exact this
   have HT3:Hid (Tch (fun k=>k=g) w w3):=HT2.out.then (Tch.below hb3);have HLn:Hid ((swapP bs' i' l).length=bs'.length):=zbk bs' i' l;clear hb3 HP2 HT2;go_wp2_with fail
   go_roundw
   case rel=>exact⟨l,swapP bs' i' l,rfl,rfl,by rw [HLn.out];exact hlt,by rw [HLn.out];exact hlen,HQ2,HP3,HT3⟩
   case measure=>simp [intOf];omega
theorem zv1(bs:List Bm)(i:Nat)(hi:i<bs.length)(h0:0<i):riseP lessM bs i=if lessM bs[i] (bs[(i - 1) / 2]'(by omega)) then riseP lessM (swapP bs i ((i - 1) / 2)) ((i - 1) / 2) else bs:=by
 have hp:(i - 1) / 2<bs.length:=by omega
 have hu:=zt6 lessM bs ((i - 1) / 2) i hi hp;rw [riseP];by_cases hq:lessM bs[i] (bs[(i - 1) / 2]'hp)=true
 ·rw [aA hq] at hu ⊢
  rw [dif_pos ⟨h0,hu⟩]
 ·rw [ap hq] at hu ⊢
  rw [dif_neg (by rintro⟨_,h⟩;rw [hu] at h;omega)]
theorem zv0(bs:List Bm):riseP lessM bs 0=bs:=by rw [riseP,dif_neg (by omega)]
theorem zwv(hp g cap i:Nat)(bs:List Bm)(w:World)(h:HpIn w hp (.slice (some ⟨g,0,none⟩) bs.length cap) bs)(hi:i<bs.length)(hl:bs.length<=1048576):
  Calls prog 178 #[.pointer (some ⟨hp,0,none⟩),I i] w fun e w'=>e= .returned (.tuple #[])∧HpIn w' hp (.slice (some ⟨g,0,none⟩) bs.length cap) (riseP lessM bs i)∧Tch (fun k=>k=g) w w':=by
 have HP0:Hid (HpIn w hp (.slice (some ⟨g,0,none⟩) bs.length cap) bs):=h;clear h;have hq0:∀i:Nat,i<=1048576->IntKind.i64.wrap ((i:Int) - 1)=(i:Int) - 1:=fun i _=>by rw [IntKind.wrap_i64];omega
 have hq1:∀i:Nat,i<=1048576->IntKind.i64.wrap (((i:Int) - 1).tdiv 2)=(((i - 1) / 2:Nat):Int):=fun i _=>by
  have:((i:Int) - 1).tdiv 2=(((i - 1) / 2:Nat):Int):=by
   rcases Nat.eq_zero_or_pos i with rfl | h
   ·rfl
   ·rw [show(i:Int) - 1=((i - 1:Nat):Int) by omega]
    rfl
  rw [this,IntKind.wrap_i64];omega
 have hw0:=hq0 i (by omega);have hw1:=hq1 i (by omega);go_enter func178,ntmps178;go_wp2_with fail
 go_loopw [1,4] (fun v1 v4 wr=>∃(i':Nat) (bs':List Bm),v1=I i'∧v4=I ((i' - 1) / 2:Nat)∧i'<bs'.length∧bs'.length=bs.length∧Hid (riseP lessM bs' i'=riseP lessM bs i)∧Hid (HpIn wr hp (.slice (some ⟨g,0,none⟩) bs.length cap) bs')∧Hid (Tch (fun k=>k=g) w wr)) (fun v1 _ _=>(intOf v1).toNat)
 case atStart=>exact⟨i,bs,rfl,by simp,hi,rfl,rfl,HP0,Tch.refl _ _⟩
 case round=>
  obtain⟨i',bs',rfl,rfl,hi',hlen,HS,HP,HT⟩:=hrel;clear HP0 hw0 hw1;obtain⟨j,hj⟩:∃j,j=(i' - 1) / 2:=⟨_,rfl⟩
  rw [←hj];by_cases h0:0<i'
  ·have HR:=zv1 bs' i' hi' h0
   have hjl:j<bs'.length:=by omega
   have HR2:Hid (riseP lessM bs' i'=if lessM bs'[i'] bs'[j] then riseP lessM (swapP bs' i' j) j else bs'):=by
    show _=_;rw [HR];subst hj;rfl
   have HPB:Hid (HpIn wr hp (.slice (some ⟨g,0,none⟩) bs'.length cap) bs'):=by show HpIn _ _ _ _;rw [hlen];exact HP.out
   have c0:wr.cell? ⟨hp,0,none⟩=some (.slice (some ⟨g,0,none⟩) bs.length cap):=HP.out.blk.cell 0;have c1:wr.cell? ⟨hp,1,none⟩=some (.func (.func 78) #[] #[]):=HP.out.blk.cell 1;obtain⟨a0,a1,a2,a3,a4⟩:=zct HPB.out.row i' hi';obtain⟨b0,b1,b2,b3,b4⟩:=zct HPB.out.row j hjl;have hii:(i':Int)<bs.length:=by omega
   have hjj:(j:Int)<bs.length:=by omega
   have h0i:(0:Int)<i':=by omega
   have hlj:j<=1048576:=by omega
   have hne:i' ≠ j:=by omega
   have hlt:j<i':=by omega
   have hw0:=hq0 j hlj;have hw1:=hq1 j hlj;clear HR hq0 hq1 hj;generalize bs'[i']=x at *
   generalize bs'[j]=y at *
   go_wp2_with fail
   go_region_held3 (fun w'=>w'.cell? ⟨hp,0,none⟩=some (.slice (some ⟨g,0,none⟩) bs.length cap)∧w'.cell? ⟨hp,1,none⟩=some (.func (.func 78) #[] #[])∧w'.cell? ⟨g,i'*5,none⟩=some (I x.b.o)∧w'.cell? ⟨g,i'*5+1,none⟩=some (I x.b.s)∧w'.cell? ⟨g,i'*5+2,none⟩=some (I x.b.t)∧w'.cell? ⟨g,i'*5+3,none⟩=some (.slice x.ca x.b.clock.length x.cc)∧w'.cell? ⟨g,i'*5+4,none⟩=some (.slice x.ea x.b.effs.length x.ec)∧w'.cell? ⟨g,j*5,none⟩=some (I y.b.o)∧w'.cell? ⟨g,j*5+1,none⟩=some (I y.b.s)∧w'.cell? ⟨g,j*5+2,none⟩=some (I y.b.t)∧w'.cell? ⟨g,j*5+3,none⟩=some (.slice y.ca y.b.clock.length y.cc)∧w'.cell? ⟨g,j*5+4,none⟩=some (.slice y.ea y.b.effs.length y.ec)) (first | go_keep | (refine⟨zaa hb0 ?_,zaa hb0 ?_,zaa hb0 ?_,zaa hb0 ?_,zaa hb0 ?_,zaa hb0 ?_,zaa hb0 ?_,zaa hb0 ?_,zaa hb0 ?_,zaa hb0 ?_,zaa hb0 ?_,zaa hb0 ?_⟩<;>go_keep))
    (first | (go_at_call 78;refine(zi5 x y _).mono ?_;rintro e w1 ⟨rfl,hb0⟩))
   have HPB1:Hid (HpIn w1 hp (.slice (some ⟨g,0,none⟩) bs'.length cap) bs'):=HPB.out.kept ((Below.refl _ _).drew.trans hb0);have HT1:Hid (Tch (fun k=>k=g) w w1):=HT.out.then (Tch.below ((Below.refl _ _).drew.trans hb0));have HR3:Hid (riseP lessM bs i=if zah x.b y.b then riseP lessM (swapP bs' i' j) j else bs'):=by show _=_;rw [←HS.out,HR2.out];rfl
   clear HP HPB HT c0 c1 a0 a1 a2 a3 a4 b0 b1 b2 b3 b4 hb0 HR2 HS;generalize zah x.b y.b=bl at *
   cases bl
   ·have HF:Hid (HpIn w1 hp (.slice (some ⟨g,0,none⟩) bs.length cap) (riseP lessM bs i)):=by
     show HpIn _ _ _ _;rw [HR3.out,←hlen];exact HPB1.out
    clear HPB1 HR3;go_wp2;go_end0;exact⟨rfl,HF.out,HT1.out⟩
   ·go_wp2_with fail
    refine(zmk hp g cap i' j bs' w1 HPB1.out hi' hjl hne).mono ?_;rintro e w2 ⟨rfl,hp2,hT2⟩;have HP2:Hid (HpIn w2 hp (.slice (some ⟨g,0,none⟩) bs.length cap) (swapP bs' i' j)):=by show HpIn _ _ _ _;rw [←hlen,←zox];exact hp2
    have HT2:Hid (Tch (fun k=>k=g) w w2):=HT1.out.then hT2;have HLn:Hid ((swapP bs' i' j).length=bs'.length):=zbk bs' i' j;have HS2:Hid (riseP lessM (swapP bs' i' j) j=riseP lessM bs i):=HR3.out.symm;clear hp2 hT2 HPB1 HT1 HR3;go_wp2_with fail
    go_roundw
    case rel=>exact⟨j,swapP bs' i' j,rfl,by simp,by rw [HLn.out];exact hjl,by rw [HLn.out];exact hlen,HS2,HP2,HT2⟩
    case measure=>simp [intOf];omega
  ·obtain rfl:i'=0:=by omega
   have HF:Hid (HpIn wr hp (.slice (some ⟨g,0,none⟩) bs.length cap) (riseP lessM bs i)):=by
    show HpIn _ _ _ _;rw [←HS.out,zv0];exact HP.out
   clear HP HS;go_wp2_with fail
   go_quiet (fail)
   go_wp2;go_end0;exact⟨rfl,HF.out.kept (za7 (Below.refl _ _) nq),HT.out.drewN nq⟩
