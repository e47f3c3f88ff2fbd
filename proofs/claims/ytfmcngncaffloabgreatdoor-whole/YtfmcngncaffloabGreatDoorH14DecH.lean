import Derived.Test.YtfmcngncaffloabGreatDoorH04KrC
import Derived.Deep.RegionHeld3
import Derived.Deep.AppendLies
import Derived.Deep.RegionLaw
set_option maxHeartbeats 3200000
namespace Go.Proofs.YtfmcngncaffloabGreatDoor
open Go.RowKit
set_option maxRecDepth 100000
theorem zb0(w:World)(cs:Array Value)(l:List UInt8)(g:Nat)(hg:g=w.heap.size)(hcs:cs=(l.map B8).toArray):∀j u,(l.map B8)[j]?=some u->(w.alloc (.cells cs 5)).cell? ((⟨g,0,none⟩:Addr).add j)=some u:=by
 subst hg;exact zci w cs l hcs
def dotB(d:Wv.Dt):List UInt8:=Wv.be1 d.o++Wv.be1 d.s++Wv.be1 d.i
theorem zrt(d:Wv.Dt): #[Value.int .u8 (d.o % 256),Value.int .u8 (d.s % 256),Value.int .u8 (d.i % 256)]=((dotB d).map B8).toArray:=by
 simp only [dotB,Wv.be1,B8,List.map,List.cons_append,List.nil_append,Wv.ofNat_toNat]
theorem zsx(v:Value)(l:List UInt8)(d:Wv.Dt)(B:Nat)(w:World)(hB:B<=w.heap.size)(ho:OwnB w B v l)(hl:l.length<=1048576):
  Calls Tryz.prog 175 #[v,dotV d] w fun e w'=>∃v',e= .returned v'∧OwnB w' B v' (l++dotB d)∧Grew w w' v v':=by
 obtain⟨i,hi,hz0,hz1,hz2⟩:=info_parts zex
 have HO:Hid (OwnB w B v l):=ho
 clear ho
 go_enter Tryz.func175,Tryz.ntmps175
 go_wp2_with (first | (at_builtin;go_must (refine wpList_append_own_at _ rfl _ _ _ rfl B 5 i (.int .u8 0) 1 1 Tryz.underlying191 hi hz0 hz1 hz2 rfl (by omega) v l.length (l.map B8) rfl ((HO.out.alloc _).alloc _) ⟨w.heap.size+1,0,none⟩ 3 3 ((dotB d).map B8) rfl rfl (zb0 (w.alloc (.cells #[I d.o,I d.s,I d.i] 125)) _ _ _ (by simp) (zrt d)) (zcu _) (by unfold maxLen;omega) (by omega) (by simp;omega) ?_;intro v' w' hown hgrow hnil hat)))
 go_ret
 exact⟨_,rfl,OwnB.append rfl hown,((Grew.new _ v).trans (Grew.new _ v)).trans (Grew.app hgrow hat)⟩
theorem zcj(h0 h1 h2 h4 h5:Value)(r:Int)(w:World):
  Calls Tryz.prog 174 #[.agg #[h0,h1,h2,I r,h4,h5]] w fun e w'=>e= .returned (.bool (r !=0))∧Below w.heap.size w w':=by
 go_enter Tryz.func174,Tryz.ntmps174
 go_wp2
 go_ret
 exact⟨rfl,(Below.refl _ _).alloc (Nat.le_refl _) _⟩
theorem zbt(h0 h1 h2 h3 h4:Value)(r:Int)(w:World):
  Calls Tryz.prog 176 #[.agg #[h0,h1,h2,h3,h4,I r]] w fun e w'=>e= .returned (.bool (decide (0<r)))∧Below w.heap.size w w':=by
 go_enter Tryz.func176,Tryz.ntmps176
 go_wp2
 go_ret
 exact⟨rfl,(Below.refl _ _).alloc (Nat.le_refl _) _⟩
theorem zhm(n:Int): #[Value.int .u8 (n % 256)]=((Wv.be1 n).map B8).toArray:=by
 simp only [Wv.be1,B8,List.map,Wv.ofNat_toNat]
theorem zhl(n:Nat)(h:n<256): #[Value.int .u8 (n:Int)]=((Wv.be1 n).map B8).toArray:=by
 have e:(n:Int)=(n:Int) % 256:=by omega
 rw [e,zhm]
 simp [Wv.be1]
theorem zu1(b:Wv.Bt)(h:b.clock.length<=4): #[Value.int .u8 (b.o % 256),Value.int .u8 (b.s % 256),Value.int .u8 (b.t % 256),Value.int .u8 (b.clock.length:Int)]=((Wv.hd4 b).map B8).toArray:=by
 have e:Value.int .u8 (b.clock.length:Int)= .int .u8 ((b.clock.length:Int) % 256):=zid (by omega)
 rw [e]
 simp only [Wv.hd4,Wv.be1,B8,List.map,List.cons_append,List.nil_append,Wv.ofNat_toNat]
theorem zuz(w0 w:World)(v:Value)(l:List UInt8)(b:Wv.Bt)(p q:Nat)(ea:Option Addr)(cc ec:Nat)(hw:Below w0.heap.size w0 w)(hc:Hid (∀j u,(b.clock.map I)[j]?=some u->w0.cell? ⟨p,q+j,none⟩=some u))(ho:OwnB w w0.heap.size v l)(hl:l.length<=1048000)(hcl:b.clock.length<=4)(hel:b.effs.length<=5):
  Calls Tryz.prog 134 #[v,bV b (some ⟨p,q,none⟩) ea cc ec] w fun e w'=>∃v',e= .returned v'∧OwnB w' w0.heap.size v' (l++Wv.headB b)∧Grew w w' v v':=by
 obtain⟨i,hi,hz0,hz1,hz2⟩:=info_parts zex
 have HO:Hid (OwnB w w0.heap.size v l):=ho
 have HW:Hid (Below w0.heap.size w0 w):=hw
 have hsz:=hw.size
 clear ho hw
 go_enter Tryz.func134,Tryz.ntmps134
 go_wp2_with (first | (at_builtin;go_must (refine wpList_append_own_at _ rfl _ _ _ rfl w0.heap.size 5 i (.int .u8 0) 1 1 Tryz.underlying191 hi hz0 hz1 hz2 rfl (by omega) v l.length (l.map B8) rfl ((HO.out.alloc _).alloc _) ⟨w.heap.size+1,0,none⟩ 4 4 ((Wv.hd4 b).map B8) rfl rfl (zb0 (w.alloc (.cells #[I b.o,I b.s,I b.t, .slice (some ⟨p,q,none⟩) b.clock.length cc, .slice ea b.effs.length ec] 134)) _ _ _ (by simp) (zu1 b hcl)) (zcu _) (by unfold maxLen;omega) (by omega) (by simp;omega) ?_;intro v' w' hown hgrow hnil hat;have HG:Hid (Grew (w.alloc (.cells #[I b.o,I b.s,I b.t, .slice (some ⟨p,q,none⟩) b.clock.length cc, .slice ea b.effs.length ec] 134)) w' v v'):=(Grew.new _ v).trans (Grew.app hgrow hat);have HO1:Hid (OwnB w' w0.heap.size v' (l++Wv.hd4 b)):=OwnB.append rfl hown;clear hown hgrow hnil hat;have y3:w'.cell? ⟨w.heap.size,3,none⟩=some (.slice (some ⟨p,q,none⟩) b.clock.length cc):=HG.out.cell (HO.out.new_ne (Nat.le_refl _)) (World.cell?_alloc_mark w _ _ _ 3)))
  )
 have HN:Hid (some w.heap.size ≠ v.ownBlock):=HO.out.new_ne (Nat.le_refl _)
 go_loopw [0,26] (fun t x wr=>∃k:Nat,k<=b.clock.length∧x=I k∧Hid (OwnB wr w0.heap.size t (l++(Wv.hd4 b++(b.clock.take k).flatMap Wv.be1)))∧Hid (Grew (w.alloc (.cells #[I b.o,I b.s,I b.t, .slice (some ⟨p,q,none⟩) b.clock.length cc, .slice ea b.effs.length ec] 134)) wr v t)) (fun _ x _=>b.clock.length - (intOf x).toNat)
 case atStart=>exact⟨0,Nat.zero_le _,rfl,by simpa using HO1,HG⟩
 case round=>
  obtain⟨k,hk,rfl,hok,hgk⟩:=hrel
  clear HG HO1 y3
  have hszr:w.heap.size<wr.heap.size:=by have:=hgk.out.grown.size;simp at this;omega
  have HBr:Hid (Below w0.heap.size w0 wr):=HW.out.trans (((Below.refl _ _).alloc hsz _).trans (hgk.out.below (l:=l) (by simp;omega) (HO.out.alloc _)))
  have y4:wr.cell? ⟨w.heap.size,4,none⟩=some (.slice ea b.effs.length ec):=hgk.out.cell HN.out (World.cell?_alloc_mark w _ _ _ 4)
  have HLn:Hid ((l++(Wv.hd4 b++(b.clock.take k).flatMap Wv.be1)).length<=1048100):=by
   show _<=_
   have h1:=Wv.flat1_len (b.clock.take k)
   have h2:(Wv.hd4 b).length=4:=rfl
   simp only [List.length_append,h1,h2,List.length_take]
   omega
  by_cases hlt:k<b.clock.length
  ·have c0:wr.cell? ⟨p,q+k,none⟩=some (I (b.clock.getD k 0)):=zaa HBr.out (hc.out k _ (by simp [hlt]))
   have hpr:=zad c0
   have HT:Hid ((b.clock.take (k+1)).flatMap Wv.be1=(b.clock.take k).flatMap Wv.be1++Wv.be1 (b.clock.getD k 0)):=by
    show _=_
    rw [Wv.take_flat _ _ _ hlt];simp [hlt]
   generalize b.clock.getD k 0=z at c0 HT
   generalize hL:l++(Wv.hd4 b++(b.clock.take k).flatMap Wv.be1)=L at hok HLn
   have HL:Hid (l++(Wv.hd4 b++(b.clock.take k).flatMap Wv.be1)=L):=hL
   clear hL
   have hLn:=HLn.out
   go_wp2_with (first | (at_builtin;go_must (refine wpList_append_own_at _ rfl _ _ _ rfl w0.heap.size 5 i (.int .u8 0) 1 1 Tryz.underlying191 hi hz0 hz1 hz2 rfl (by omega) u0 L.length (L.map B8) rfl (hok.out.alloc _) ⟨wr.heap.size,0,none⟩ 1 1 ((Wv.be1 z).map B8) rfl rfl (zci wr _ _ (zhm z)) (zcu _) (by unfold maxLen;omega) (by omega) (by simp;omega) ?_;intro v1 w1 hown hgrow hnil hat;have HG:Hid (Grew wr w1 u0 v1):=(Grew.new _ u0).trans (Grew.app hgrow hat);have HO1:Hid (OwnB w1 w0.heap.size v1 (L++Wv.be1 z)):=OwnB.append rfl hown;clear hown hgrow hnil hat)))
   go_roundw
   case rel=>exact⟨k+1,by omega,by go_num,by rw [HT.out,←List.append_assoc (Wv.hd4 b),←List.append_assoc l,HL.out];exact HO1,hgk.out.trans HG.out⟩
   case measure=>simp [intOf];omega
  ·obtain rfl:k=b.clock.length:=by omega
   generalize hL:l++(Wv.hd4 b++(b.clock.take b.clock.length).flatMap Wv.be1)=L at hok HLn
   have HL:Hid (l++(Wv.hd4 b++(b.clock.take b.clock.length).flatMap Wv.be1)=L):=hL
   clear hL
   have hLn:=HLn.out
   go_wp2_with (first | (at_builtin;go_must (refine wpList_append_own_at _ rfl _ _ _ rfl w0.heap.size 5 i (.int .u8 0) 1 1 Tryz.underlying191 hi hz0 hz1 hz2 rfl (by omega) u0 L.length (L.map B8) rfl (hok.out.alloc _) ⟨wr.heap.size,0,none⟩ 1 1 ((Wv.be1 b.effs.length).map B8) rfl rfl (zci wr _ _ (zhl _ (by omega))) (zcu _) (by unfold maxLen;omega) (by omega) (by simp;omega) ?_;intro v1 w1 hown hgrow hnil hat;have HG:Hid (Grew wr w1 u0 v1):=(Grew.new _ u0).trans (Grew.app hgrow hat);have HO1:Hid (OwnB w1 w0.heap.size v1 (L++Wv.be1 b.effs.length)):=OwnB.append rfl hown;clear hown hgrow hnil hat)))
   go_ret
   refine⟨_,rfl, ?_,((Grew.new _ v).trans hgk.out).trans HG.out⟩
   have e:l++Wv.headB b=L++Wv.be1 b.effs.length:=by rw [←HL.out,List.take_length];simp only [Wv.headB,List.append_assoc]
   rw [e]
   exact HO1.out
def op2(e:Wv.Ef):List UInt8:=Wv.be1 e.op++Wv.be1 e.ob
theorem ze6(e:Wv.Ef): #[Value.int .u8 (e.op % 256),Value.int .u8 (e.ob % 256)]=((op2 e).map B8).toArray:=by
 simp only [op2,Wv.be1,B8,List.map,List.cons_append,List.nil_append,Wv.ofNat_toNat]
theorem zvc(w0 w:World)(v:Value)(l:List UInt8)(m:Em)(eb ef:Addr)(g:Gl w0 eb ef)(hw:Below w0.heap.size w0 w)(ho:OwnB w w0.heap.size v l)(hl:l.length<=1048000)(hop:1<=m.e.op∧m.e.op<=6)(hR:Wv.rRef m.e.op=0)(hM:Wv.rMostD m.e.op=0):
  Calls Tryz.prog 135 #[v,effV m] w fun e w'=>∃v',e= .returned v'∧OwnB w' w0.heap.size v' (l++Wv.effB m.e)∧Grew w w' v v':=by
 have HE:Hid (l++Wv.effB m.e=l++op2 m.e++Wv.be2 m.e.va):=by show _=_;simp [Wv.effB,hR,hM,op2]
 have hr:(Wv.rRef m.e.op !=0)=false:=by rw [hR];rfl
 have hm:decide (0<Wv.rMostD m.e.op)=false:=by rw [hM];rfl
 clear hR hM
 obtain⟨i,hi,hz0,hz1,hz2⟩:=info_parts zex
 have HO:Hid (OwnB w w0.heap.size v l):=ho
 have HW:Hid (Below w0.heap.size w0 w):=hw
 have hsz:=hw.size
 have g':Hid (Gl w0 eb ef):=g
 have HOP:Hid (1<=m.e.op∧m.e.op<=6):=hop
 have HN:Hid (some w.heap.size ≠ v.ownBlock):=HO.out.new_ne (Nat.le_refl _)
 clear ho hw hop g
 go_enter Tryz.func135,Tryz.ntmps135
 go_wp2_with (first | (at_builtin;go_must (refine wpList_append_own_at _ rfl _ _ _ rfl w0.heap.size 5 i (.int .u8 0) 1 1 Tryz.underlying191 hi hz0 hz1 hz2 rfl (by omega) v l.length (l.map B8) rfl ((HO.out.alloc _).alloc _) ⟨w.heap.size+1,0,none⟩ 2 2 ((op2 m.e).map B8) rfl rfl (zb0 (w.alloc (.cells #[I m.e.op,I m.e.ob,I m.e.va,I m.e.ref.o,I m.e.ref.s,I m.e.ref.i, .slice m.da m.e.dots.length m.dc] 128)) _ _ _ (by simp) (ze6 m.e)) (zcu _) (by unfold maxLen;omega) (by omega) (by simp;omega) ?_;intro v1 w1 hown hgrow hnil hat;have HG:Hid (Grew (w.alloc (.cells #[I m.e.op,I m.e.ob,I m.e.va,I m.e.ref.o,I m.e.ref.s,I m.e.ref.i, .slice m.da m.e.dots.length m.dc] 128)) w1 v v1):=(Grew.new _ v).trans (Grew.app hgrow hat);have HO1:Hid (OwnB w1 w0.heap.size v1 (l++op2 m.e)):=OwnB.append rfl hown;clear hown hgrow hnil hat;have x0:w1.cell? ⟨w.heap.size,0,none⟩=some (I m.e.op):=HG.out.cell HN.out (World.cell?_alloc_mark w _ _ _ 0);have x1:w1.cell? ⟨w.heap.size,1,none⟩=some (I m.e.ob):=HG.out.cell HN.out (World.cell?_alloc_mark w _ _ _ 1);have x2:w1.cell? ⟨w.heap.size,2,none⟩=some (I m.e.va):=HG.out.cell HN.out (World.cell?_alloc_mark w _ _ _ 2);have x3:w1.cell? ⟨w.heap.size,3,none⟩=some (I m.e.ref.o):=HG.out.cell HN.out (World.cell?_alloc_mark w _ _ _ 3);have x4:w1.cell? ⟨w.heap.size,4,none⟩=some (I m.e.ref.s):=HG.out.cell HN.out (World.cell?_alloc_mark w _ _ _ 4);have x5:w1.cell? ⟨w.heap.size,5,none⟩=some (I m.e.ref.i):=HG.out.cell HN.out (World.cell?_alloc_mark w _ _ _ 5);have x6:w1.cell? ⟨w.heap.size,6,none⟩=some (.slice m.da m.e.dots.length m.dc):=HG.out.cell HN.out (World.cell?_alloc_mark w _ _ _ 6))))
 have hl1:(l++op2 m.e).length<=1048576:=by simp [op2,Wv.be1];omega
 have hszG:=HG.out.grown.size
 simp only [World.size_alloc] at hszG
 refine(zga v1 _ m.e.va w0.heap.size w1 (by omega) HO1.out hl1).mono ?_
 rintro e w2 ⟨v2,rfl,hO2,hG2⟩
 have HG2:Hid (Grew (w.alloc (.cells #[I m.e.op,I m.e.ob,I m.e.va,I m.e.ref.o,I m.e.ref.s,I m.e.ref.i, .slice m.da m.e.dots.length m.dc] 128)) w2 v v2):=HG.out.trans hG2
 have HO2:Hid (OwnB w2 w0.heap.size v2 (l++op2 m.e++Wv.be2 m.e.va)):=hO2
 have HB2:Hid (Below w0.heap.size w0 w2):=HW.out.trans (((Below.refl _ _).alloc hsz _).trans (HG2.out.below (l:=l) (by simp;omega) (HO.out.alloc _)))
 have hsz2:w.heap.size<w2.heap.size:=by have:=hG2.grown.size;omega
 clear x0 x1 x2 x3 x4 x5 x6 HO1 HG hG2 hO2 hl1 hszG
 have x0:w2.cell? ⟨w.heap.size,0,none⟩=some (I m.e.op):=HG2.out.cell HN.out (World.cell?_alloc_mark w _ _ _ 0)
 have x1:w2.cell? ⟨w.heap.size,1,none⟩=some (I m.e.ob):=HG2.out.cell HN.out (World.cell?_alloc_mark w _ _ _ 1)
 have x2:w2.cell? ⟨w.heap.size,2,none⟩=some (I m.e.va):=HG2.out.cell HN.out (World.cell?_alloc_mark w _ _ _ 2)
 have x3:w2.cell? ⟨w.heap.size,3,none⟩=some (I m.e.ref.o):=HG2.out.cell HN.out (World.cell?_alloc_mark w _ _ _ 3)
 have x4:w2.cell? ⟨w.heap.size,4,none⟩=some (I m.e.ref.s):=HG2.out.cell HN.out (World.cell?_alloc_mark w _ _ _ 4)
 have x5:w2.cell? ⟨w.heap.size,5,none⟩=some (I m.e.ref.i):=HG2.out.cell HN.out (World.cell?_alloc_mark w _ _ _ 5)
 have x6:w2.cell? ⟨w.heap.size,6,none⟩=some (.slice m.da m.e.dots.length m.dc):=HG2.out.cell HN.out (World.cell?_alloc_mark w _ _ _ 6)
 go_wp2_with fail
 refine(zbb m.e.op _ eb ef (g'.out.kept HB2.out) HOP.out).mono ?_
 rintro e w3 ⟨rfl,hb3⟩
 have HG3:Hid (Grew (w.alloc (.cells #[I m.e.op,I m.e.ob,I m.e.va,I m.e.ref.o,I m.e.ref.s,I m.e.ref.i, .slice m.da m.e.dots.length m.dc] 128)) w3 v v2):=HG2.out.trans (Grew.of_below hb3 v2)
 have HO3:Hid (OwnB w3 w0.heap.size v2 (l++op2 m.e++Wv.be2 m.e.va)):=HO2.out.kept hb3
 have hsz3:w.heap.size<w3.heap.size:=by have:=hb3.size;omega
 have HB3:Hid (Below w0.heap.size w0 w3):=HB2.out.trans (hb3.mono (by have:=HB2.out.size;omega))
 clear x0 x1 x2 x3 x4 x5 x6 HO2 HG2 hsz2 HB2 hb3
 have x0:w3.cell? ⟨w.heap.size,0,none⟩=some (I m.e.op):=HG3.out.cell HN.out (World.cell?_alloc_mark w _ _ _ 0)
 have x1:w3.cell? ⟨w.heap.size,1,none⟩=some (I m.e.ob):=HG3.out.cell HN.out (World.cell?_alloc_mark w _ _ _ 1)
 have x2:w3.cell? ⟨w.heap.size,2,none⟩=some (I m.e.va):=HG3.out.cell HN.out (World.cell?_alloc_mark w _ _ _ 2)
 have x3:w3.cell? ⟨w.heap.size,3,none⟩=some (I m.e.ref.o):=HG3.out.cell HN.out (World.cell?_alloc_mark w _ _ _ 3)
 have x4:w3.cell? ⟨w.heap.size,4,none⟩=some (I m.e.ref.s):=HG3.out.cell HN.out (World.cell?_alloc_mark w _ _ _ 4)
 have x5:w3.cell? ⟨w.heap.size,5,none⟩=some (I m.e.ref.i):=HG3.out.cell HN.out (World.cell?_alloc_mark w _ _ _ 5)
 have x6:w3.cell? ⟨w.heap.size,6,none⟩=some (.slice m.da m.e.dots.length m.dc):=HG3.out.cell HN.out (World.cell?_alloc_mark w _ _ _ 6)
 unfold ruleV
 go_wp2_with fail
 refine(zcj _ _ _ _ _ (Wv.rRef m.e.op) _).mono ?_
 rintro e w4 ⟨rfl,hb4⟩
 have HX4:Hid (Below w3.heap.size w3 w4):=((Below.refl _ _).alloc (Nat.le_refl _) _).trans (hb4.mono (by simp))
 have HG4:Hid (Grew (w.alloc (.cells #[I m.e.op,I m.e.ob,I m.e.va,I m.e.ref.o,I m.e.ref.s,I m.e.ref.i, .slice m.da m.e.dots.length m.dc] 128)) w4 v v2):=HG3.out.trans (Grew.of_below HX4.out v2)
 have HO4:Hid (OwnB w4 w0.heap.size v2 (l++op2 m.e++Wv.be2 m.e.va)):=HO3.out.kept HX4.out
 have hsz4:w3.heap.size<w4.heap.size:=by have:=hb4.size;simp at this;omega
 have HB4:Hid (Below w0.heap.size w0 w4):=HB3.out.trans (HX4.out.mono (by have:=HB3.out.size;omega))
 have r0:w4.cell? ⟨w3.heap.size,0,none⟩=some (I (Wv.rKind m.e.op)):=(hb4.cell (p:=⟨w3.heap.size,0,none⟩) (by simp)).trans (World.cell?_alloc_mark w3 _ _ _ 0)
 have r1:w4.cell? ⟨w3.heap.size,1,none⟩=some (I (Wv.rLeast m.e.op)):=(hb4.cell (p:=⟨w3.heap.size,1,none⟩) (by simp)).trans (World.cell?_alloc_mark w3 _ _ _ 1)
 have r2:w4.cell? ⟨w3.heap.size,2,none⟩=some (I (Wv.rGreat m.e.op)):=(hb4.cell (p:=⟨w3.heap.size,2,none⟩) (by simp)).trans (World.cell?_alloc_mark w3 _ _ _ 2)
 have r3:w4.cell? ⟨w3.heap.size,3,none⟩=some (I (Wv.rRef m.e.op)):=(hb4.cell (p:=⟨w3.heap.size,3,none⟩) (by simp)).trans (World.cell?_alloc_mark w3 _ _ _ 3)
 have r4:w4.cell? ⟨w3.heap.size,4,none⟩=some (I (Wv.rLeastD m.e.op)):=(hb4.cell (p:=⟨w3.heap.size,4,none⟩) (by simp)).trans (World.cell?_alloc_mark w3 _ _ _ 4)
 have r5:w4.cell? ⟨w3.heap.size,5,none⟩=some (I (Wv.rMostD m.e.op)):=(hb4.cell (p:=⟨w3.heap.size,5,none⟩) (by simp)).trans (World.cell?_alloc_mark w3 _ _ _ 5)
 clear x0 x1 x2 x3 x4 x5 x6 hb4
 have x0:w4.cell? ⟨w.heap.size,0,none⟩=some (I m.e.op):=HG4.out.cell HN.out (World.cell?_alloc_mark w _ _ _ 0)
 have x1:w4.cell? ⟨w.heap.size,1,none⟩=some (I m.e.ob):=HG4.out.cell HN.out (World.cell?_alloc_mark w _ _ _ 1)
 have x2:w4.cell? ⟨w.heap.size,2,none⟩=some (I m.e.va):=HG4.out.cell HN.out (World.cell?_alloc_mark w _ _ _ 2)
 have x3:w4.cell? ⟨w.heap.size,3,none⟩=some (I m.e.ref.o):=HG4.out.cell HN.out (World.cell?_alloc_mark w _ _ _ 3)
 have x4:w4.cell? ⟨w.heap.size,4,none⟩=some (I m.e.ref.s):=HG4.out.cell HN.out (World.cell?_alloc_mark w _ _ _ 4)
 have x5:w4.cell? ⟨w.heap.size,5,none⟩=some (I m.e.ref.i):=HG4.out.cell HN.out (World.cell?_alloc_mark w _ _ _ 5)
 have x6:w4.cell? ⟨w.heap.size,6,none⟩=some (.slice m.da m.e.dots.length m.dc):=HG4.out.cell HN.out (World.cell?_alloc_mark w _ _ _ 6)
 have HN2:Hid (some w3.heap.size ≠ v2.ownBlock):=HO3.out.new_ne (Nat.le_refl _)
 go_wp2_with (first | (go_at_call 176;refine(zbt _ _ _ _ _ (Wv.rMostD m.e.op) _).mono ?_;rintro e w5 ⟨rfl,hb5⟩;have HG5:Hid (Grew (w.alloc (.cells #[I m.e.op,I m.e.ob,I m.e.va,I m.e.ref.o,I m.e.ref.s,I m.e.ref.i, .slice m.da m.e.dots.length m.dc] 128)) w5 v v2):=HG4.out.trans (Grew.of_below hb5 v2);have HO5:Hid (OwnB w5 w0.heap.size v2 (l++op2 m.e++Wv.be2 m.e.va)):=HO4.out.kept hb5;clear hb5))
 go_ret
 refine⟨_,rfl, ?_,(Grew.new _ v).trans HG5.out⟩
 rw [HE.out]
 exact HO5.out
theorem zz4(w0 w:World)(v:Value)(l:List UInt8)(m:Em)(eb ef:Addr)(g:Gl w0 eb ef)(hw:Below w0.heap.size w0 w)(ho:OwnB w w0.heap.size v l)(hl:l.length<=1048000)(hop:1<=m.e.op∧m.e.op<=6)(hR:¬Wv.rRef m.e.op=0)(hM:Wv.rMostD m.e.op=0):
  Calls Tryz.prog 135 #[v,effV m] w fun e w'=>∃v',e= .returned v'∧OwnB w' w0.heap.size v' (l++Wv.effB m.e)∧Grew w w' v v':=by
 have HE:Hid (l++Wv.effB m.e=l++op2 m.e++Wv.be2 m.e.va++dotB m.e.ref):=by show _=_;simp [Wv.effB,hR,hM,op2,dotB,Wv.dotB]
 have hr:(Wv.rRef m.e.op !=0)=true:=by simpa using hR
 have hm:decide (0<Wv.rMostD m.e.op)=false:=by rw [hM];rfl
 clear hR hM
 obtain⟨i,hi,hz0,hz1,hz2⟩:=info_parts zex
 have HO:Hid (OwnB w w0.heap.size v l):=ho
 have HW:Hid (Below w0.heap.size w0 w):=hw
 have hsz:=hw.size
 have g':Hid (Gl w0 eb ef):=g
 have HOP:Hid (1<=m.e.op∧m.e.op<=6):=hop
 have HN:Hid (some w.heap.size ≠ v.ownBlock):=HO.out.new_ne (Nat.le_refl _)
 clear ho hw hop g
 go_enter Tryz.func135,Tryz.ntmps135
 go_wp2_with (first | (at_builtin;go_must (refine wpList_append_own_at _ rfl _ _ _ rfl w0.heap.size 5 i (.int .u8 0) 1 1 Tryz.underlying191 hi hz0 hz1 hz2 rfl (by omega) v l.length (l.map B8) rfl ((HO.out.alloc _).alloc _) ⟨w.heap.size+1,0,none⟩ 2 2 ((op2 m.e).map B8) rfl rfl (zb0 (w.alloc (.cells #[I m.e.op,I m.e.ob,I m.e.va,I m.e.ref.o,I m.e.ref.s,I m.e.ref.i, .slice m.da m.e.dots.length m.dc] 128)) _ _ _ (by simp) (ze6 m.e)) (zcu _) (by unfold maxLen;omega) (by omega) (by simp;omega) ?_;intro v1 w1 hown hgrow hnil hat;have HG:Hid (Grew (w.alloc (.cells #[I m.e.op,I m.e.ob,I m.e.va,I m.e.ref.o,I m.e.ref.s,I m.e.ref.i, .slice m.da m.e.dots.length m.dc] 128)) w1 v v1):=(Grew.new _ v).trans (Grew.app hgrow hat);have HO1:Hid (OwnB w1 w0.heap.size v1 (l++op2 m.e)):=OwnB.append rfl hown;clear hown hgrow hnil hat;have x0:w1.cell? ⟨w.heap.size,0,none⟩=some (I m.e.op):=HG.out.cell HN.out (World.cell?_alloc_mark w _ _ _ 0);have x1:w1.cell? ⟨w.heap.size,1,none⟩=some (I m.e.ob):=HG.out.cell HN.out (World.cell?_alloc_mark w _ _ _ 1);have x2:w1.cell? ⟨w.heap.size,2,none⟩=some (I m.e.va):=HG.out.cell HN.out (World.cell?_alloc_mark w _ _ _ 2);have x3:w1.cell? ⟨w.heap.size,3,none⟩=some (I m.e.ref.o):=HG.out.cell HN.out (World.cell?_alloc_mark w _ _ _ 3);have x4:w1.cell? ⟨w.heap.size,4,none⟩=some (I m.e.ref.s):=HG.out.cell HN.out (World.cell?_alloc_mark w _ _ _ 4);have x5:w1.cell? ⟨w.heap.size,5,none⟩=some (I m.e.ref.i):=HG.out.cell HN.out (World.cell?_alloc_mark w _ _ _ 5);have x6:w1.cell? ⟨w.heap.size,6,none⟩=some (.slice m.da m.e.dots.length m.dc):=HG.out.cell HN.out (World.cell?_alloc_mark w _ _ _ 6))))
 have hl1:(l++op2 m.e).length<=1048576:=by simp [op2,Wv.be1];omega
 have hszG:=HG.out.grown.size
 simp only [World.size_alloc] at hszG
 refine(zga v1 _ m.e.va w0.heap.size w1 (by omega) HO1.out hl1).mono ?_
 rintro e w2 ⟨v2,rfl,hO2,hG2⟩
 have HG2:Hid (Grew (w.alloc (.cells #[I m.e.op,I m.e.ob,I m.e.va,I m.e.ref.o,I m.e.ref.s,I m.e.ref.i, .slice m.da m.e.dots.length m.dc] 128)) w2 v v2):=HG.out.trans hG2
 have HO2:Hid (OwnB w2 w0.heap.size v2 (l++op2 m.e++Wv.be2 m.e.va)):=hO2
 have HB2:Hid (Below w0.heap.size w0 w2):=HW.out.trans (((Below.refl _ _).alloc hsz _).trans (HG2.out.below (l:=l) (by simp;omega) (HO.out.alloc _)))
 have hsz2:w.heap.size<w2.heap.size:=by have:=hG2.grown.size;omega
 clear x0 x1 x2 x3 x4 x5 x6 HO1 HG hG2 hO2 hl1 hszG
 have x0:w2.cell? ⟨w.heap.size,0,none⟩=some (I m.e.op):=HG2.out.cell HN.out (World.cell?_alloc_mark w _ _ _ 0)
 have x1:w2.cell? ⟨w.heap.size,1,none⟩=some (I m.e.ob):=HG2.out.cell HN.out (World.cell?_alloc_mark w _ _ _ 1)
 have x2:w2.cell? ⟨w.heap.size,2,none⟩=some (I m.e.va):=HG2.out.cell HN.out (World.cell?_alloc_mark w _ _ _ 2)
 have x3:w2.cell? ⟨w.heap.size,3,none⟩=some (I m.e.ref.o):=HG2.out.cell HN.out (World.cell?_alloc_mark w _ _ _ 3)
 have x4:w2.cell? ⟨w.heap.size,4,none⟩=some (I m.e.ref.s):=HG2.out.cell HN.out (World.cell?_alloc_mark w _ _ _ 4)
 have x5:w2.cell? ⟨w.heap.size,5,none⟩=some (I m.e.ref.i):=HG2.out.cell HN.out (World.cell?_alloc_mark w _ _ _ 5)
 have x6:w2.cell? ⟨w.heap.size,6,none⟩=some (.slice m.da m.e.dots.length m.dc):=HG2.out.cell HN.out (World.cell?_alloc_mark w _ _ _ 6)
 go_wp2_with fail
 refine(zbb m.e.op _ eb ef (g'.out.kept HB2.out) HOP.out).mono ?_
 rintro e w3 ⟨rfl,hb3⟩
 have HG3:Hid (Grew (w.alloc (.cells #[I m.e.op,I m.e.ob,I m.e.va,I m.e.ref.o,I m.e.ref.s,I m.e.ref.i, .slice m.da m.e.dots.length m.dc] 128)) w3 v v2):=HG2.out.trans (Grew.of_below hb3 v2)
 have HO3:Hid (OwnB w3 w0.heap.size v2 (l++op2 m.e++Wv.be2 m.e.va)):=HO2.out.kept hb3
 have hsz3:w.heap.size<w3.heap.size:=by have:=hb3.size;omega
 have HB3:Hid (Below w0.heap.size w0 w3):=HB2.out.trans (hb3.mono (by have:=HB2.out.size;omega))
 clear x0 x1 x2 x3 x4 x5 x6 HO2 HG2 hsz2 HB2 hb3
 have x0:w3.cell? ⟨w.heap.size,0,none⟩=some (I m.e.op):=HG3.out.cell HN.out (World.cell?_alloc_mark w _ _ _ 0)
 have x1:w3.cell? ⟨w.heap.size,1,none⟩=some (I m.e.ob):=HG3.out.cell HN.out (World.cell?_alloc_mark w _ _ _ 1)
 have x2:w3.cell? ⟨w.heap.size,2,none⟩=some (I m.e.va):=HG3.out.cell HN.out (World.cell?_alloc_mark w _ _ _ 2)
 have x3:w3.cell? ⟨w.heap.size,3,none⟩=some (I m.e.ref.o):=HG3.out.cell HN.out (World.cell?_alloc_mark w _ _ _ 3)
 have x4:w3.cell? ⟨w.heap.size,4,none⟩=some (I m.e.ref.s):=HG3.out.cell HN.out (World.cell?_alloc_mark w _ _ _ 4)
 have x5:w3.cell? ⟨w.heap.size,5,none⟩=some (I m.e.ref.i):=HG3.out.cell HN.out (World.cell?_alloc_mark w _ _ _ 5)
 have x6:w3.cell? ⟨w.heap.size,6,none⟩=some (.slice m.da m.e.dots.length m.dc):=HG3.out.cell HN.out (World.cell?_alloc_mark w _ _ _ 6)
 unfold ruleV
 go_wp2_with fail
 refine(zcj _ _ _ _ _ (Wv.rRef m.e.op) _).mono ?_
 rintro e w4 ⟨rfl,hb4⟩
 have HX4:Hid (Below w3.heap.size w3 w4):=((Below.refl _ _).alloc (Nat.le_refl _) _).trans (hb4.mono (by simp))
 have HG4:Hid (Grew (w.alloc (.cells #[I m.e.op,I m.e.ob,I m.e.va,I m.e.ref.o,I m.e.ref.s,I m.e.ref.i, .slice m.da m.e.dots.length m.dc] 128)) w4 v v2):=HG3.out.trans (Grew.of_below HX4.out v2)
 have HO4:Hid (OwnB w4 w0.heap.size v2 (l++op2 m.e++Wv.be2 m.e.va)):=HO3.out.kept HX4.out
 have hsz4:w3.heap.size<w4.heap.size:=by have:=hb4.size;simp at this;omega
 have HB4:Hid (Below w0.heap.size w0 w4):=HB3.out.trans (HX4.out.mono (by have:=HB3.out.size;omega))
 have r0:w4.cell? ⟨w3.heap.size,0,none⟩=some (I (Wv.rKind m.e.op)):=(hb4.cell (p:=⟨w3.heap.size,0,none⟩) (by simp)).trans (World.cell?_alloc_mark w3 _ _ _ 0)
 have r1:w4.cell? ⟨w3.heap.size,1,none⟩=some (I (Wv.rLeast m.e.op)):=(hb4.cell (p:=⟨w3.heap.size,1,none⟩) (by simp)).trans (World.cell?_alloc_mark w3 _ _ _ 1)
 have r2:w4.cell? ⟨w3.heap.size,2,none⟩=some (I (Wv.rGreat m.e.op)):=(hb4.cell (p:=⟨w3.heap.size,2,none⟩) (by simp)).trans (World.cell?_alloc_mark w3 _ _ _ 2)
 have r3:w4.cell? ⟨w3.heap.size,3,none⟩=some (I (Wv.rRef m.e.op)):=(hb4.cell (p:=⟨w3.heap.size,3,none⟩) (by simp)).trans (World.cell?_alloc_mark w3 _ _ _ 3)
 have r4:w4.cell? ⟨w3.heap.size,4,none⟩=some (I (Wv.rLeastD m.e.op)):=(hb4.cell (p:=⟨w3.heap.size,4,none⟩) (by simp)).trans (World.cell?_alloc_mark w3 _ _ _ 4)
 have r5:w4.cell? ⟨w3.heap.size,5,none⟩=some (I (Wv.rMostD m.e.op)):=(hb4.cell (p:=⟨w3.heap.size,5,none⟩) (by simp)).trans (World.cell?_alloc_mark w3 _ _ _ 5)
 clear x0 x1 x2 x3 x4 x5 x6 hb4
 have x0:w4.cell? ⟨w.heap.size,0,none⟩=some (I m.e.op):=HG4.out.cell HN.out (World.cell?_alloc_mark w _ _ _ 0)
 have x1:w4.cell? ⟨w.heap.size,1,none⟩=some (I m.e.ob):=HG4.out.cell HN.out (World.cell?_alloc_mark w _ _ _ 1)
 have x2:w4.cell? ⟨w.heap.size,2,none⟩=some (I m.e.va):=HG4.out.cell HN.out (World.cell?_alloc_mark w _ _ _ 2)
 have x3:w4.cell? ⟨w.heap.size,3,none⟩=some (I m.e.ref.o):=HG4.out.cell HN.out (World.cell?_alloc_mark w _ _ _ 3)
 have x4:w4.cell? ⟨w.heap.size,4,none⟩=some (I m.e.ref.s):=HG4.out.cell HN.out (World.cell?_alloc_mark w _ _ _ 4)
 have x5:w4.cell? ⟨w.heap.size,5,none⟩=some (I m.e.ref.i):=HG4.out.cell HN.out (World.cell?_alloc_mark w _ _ _ 5)
 have x6:w4.cell? ⟨w.heap.size,6,none⟩=some (.slice m.da m.e.dots.length m.dc):=HG4.out.cell HN.out (World.cell?_alloc_mark w _ _ _ 6)
 have HN2:Hid (some w3.heap.size ≠ v2.ownBlock):=HO3.out.new_ne (Nat.le_refl _)
 have hl4:(l++op2 m.e++Wv.be2 m.e.va).length<=1048576:=by simp [op2,Wv.be1,Wv.be2];omega
 have hB4:w0.heap.size<=w4.heap.size:=HB4.out.size
 go_wp2_with fail
 refine(zsx v2 _ m.e.ref w0.heap.size w4 hB4 HO4.out hl4).mono ?_
 rintro e w5 ⟨v5,rfl,hO5,hG5⟩
 have HG5:Hid (Grew (w.alloc (.cells #[I m.e.op,I m.e.ob,I m.e.va,I m.e.ref.o,I m.e.ref.s,I m.e.ref.i, .slice m.da m.e.dots.length m.dc] 128)) w5 v v5):=HG4.out.trans hG5
 have HO5:Hid (OwnB w5 w0.heap.size v5 (l++op2 m.e++Wv.be2 m.e.va++dotB m.e.ref)):=hO5
 replace r0:=hG5.cell HN2.out r0
 replace r1:=hG5.cell HN2.out r1
 replace r2:=hG5.cell HN2.out r2
 replace r3:=hG5.cell HN2.out r3
 replace r4:=hG5.cell HN2.out r4
 replace r5:=hG5.cell HN2.out r5
 clear hO5 hG5
 go_wp2_with (first | (go_at_call 176;refine(zbt _ _ _ _ _ (Wv.rMostD m.e.op) _).mono ?_;rintro e w6 ⟨rfl,hb6⟩;have HG6:Hid (Grew (w.alloc (.cells #[I m.e.op,I m.e.ob,I m.e.va,I m.e.ref.o,I m.e.ref.s,I m.e.ref.i, .slice m.da m.e.dots.length m.dc] 128)) w6 v v5):=HG5.out.trans (Grew.of_below hb6 v5);have HO6:Hid (OwnB w6 w0.heap.size v5 (l++op2 m.e++Wv.be2 m.e.va++dotB m.e.ref)):=HO5.out.kept hb6;clear hb6))
 go_ret
 refine⟨_,rfl, ?_,(Grew.new _ v).trans HG6.out⟩
 rw [HE.out]
 exact HO6.out
theorem zye(w0 w:World)(v:Value)(l:List UInt8)(m:Em)(eb ef:Addr)(g:Gl w0 eb ef)(hw:Below w0.heap.size w0 w)(ho:OwnB w w0.heap.size v l)(hl:l.length<=1048000)(hop:1<=m.e.op∧m.e.op<=6)(hR:Wv.rRef m.e.op=0)(hM:0<Wv.rMostD m.e.op)(p q:Nat)(hda:m.da=some ⟨p,q,none⟩)(hdl:m.e.dots.length<=150)
  (hd:Hid (∀k (hk:k<m.e.dots.length),w0.cell? ⟨p,q+k*3,none⟩=some (I m.e.dots[k].o)∧w0.cell? ⟨p,q+k*3+1,none⟩=some (I m.e.dots[k].s)∧w0.cell? ⟨p,q+k*3+2,none⟩=some (I m.e.dots[k].i))):
  Calls Tryz.prog 135 #[v,effV m] w fun e w'=>∃v',e= .returned v'∧OwnB w' w0.heap.size v' (l++Wv.effB m.e)∧Grew w w' v v':=by
 have HE:Hid (l++Wv.effB m.e=l++op2 m.e++Wv.be2 m.e.va++(Wv.be1 m.e.dots.length++m.e.dots.flatMap Wv.dotB)):=by show _=_;simp [Wv.effB,hR,hM,op2]
 have hr:(Wv.rRef m.e.op !=0)=false:=by rw [hR];rfl
 have hm:decide (0<Wv.rMostD m.e.op)=true:=by simpa using hM
 have HDA:Hid (m.da=some ⟨p,q,none⟩):=hda
 clear hR hM hda
 obtain⟨i,hi,hz0,hz1,hz2⟩:=info_parts zex
 have HO:Hid (OwnB w w0.heap.size v l):=ho
 have HW:Hid (Below w0.heap.size w0 w):=hw
 have hsz:=hw.size
 have g':Hid (Gl w0 eb ef):=g
 have HOP:Hid (1<=m.e.op∧m.e.op<=6):=hop
 have HN:Hid (some w.heap.size ≠ v.ownBlock):=HO.out.new_ne (Nat.le_refl _)
 clear ho hw hop g
 go_enter Tryz.func135,Tryz.ntmps135
 go_wp2_with (first | (at_builtin;go_must (refine wpList_append_own_at _ rfl _ _ _ rfl w0.heap.size 5 i (.int .u8 0) 1 1 Tryz.underlying191 hi hz0 hz1 hz2 rfl (by omega) v l.length (l.map B8) rfl ((HO.out.alloc _).alloc _) ⟨w.heap.size+1,0,none⟩ 2 2 ((op2 m.e).map B8) rfl rfl (zb0 (w.alloc (.cells #[I m.e.op,I m.e.ob,I m.e.va,I m.e.ref.o,I m.e.ref.s,I m.e.ref.i, .slice m.da m.e.dots.length m.dc] 128)) _ _ _ (by simp) (ze6 m.e)) (zcu _) (by unfold maxLen;omega) (by omega) (by simp;omega) ?_;intro v1 w1 hown hgrow hnil hat;have HG:Hid (Grew (w.alloc (.cells #[I m.e.op,I m.e.ob,I m.e.va,I m.e.ref.o,I m.e.ref.s,I m.e.ref.i, .slice m.da m.e.dots.length m.dc] 128)) w1 v v1):=(Grew.new _ v).trans (Grew.app hgrow hat);have HO1:Hid (OwnB w1 w0.heap.size v1 (l++op2 m.e)):=OwnB.append rfl hown;clear hown hgrow hnil hat;have x0:w1.cell? ⟨w.heap.size,0,none⟩=some (I m.e.op):=HG.out.cell HN.out (World.cell?_alloc_mark w _ _ _ 0);have x1:w1.cell? ⟨w.heap.size,1,none⟩=some (I m.e.ob):=HG.out.cell HN.out (World.cell?_alloc_mark w _ _ _ 1);have x2:w1.cell? ⟨w.heap.size,2,none⟩=some (I m.e.va):=HG.out.cell HN.out (World.cell?_alloc_mark w _ _ _ 2);have x3:w1.cell? ⟨w.heap.size,3,none⟩=some (I m.e.ref.o):=HG.out.cell HN.out (World.cell?_alloc_mark w _ _ _ 3);have x4:w1.cell? ⟨w.heap.size,4,none⟩=some (I m.e.ref.s):=HG.out.cell HN.out (World.cell?_alloc_mark w _ _ _ 4);have x5:w1.cell? ⟨w.heap.size,5,none⟩=some (I m.e.ref.i):=HG.out.cell HN.out (World.cell?_alloc_mark w _ _ _ 5);have x6:w1.cell? ⟨w.heap.size,6,none⟩=some (.slice m.da m.e.dots.length m.dc):=HG.out.cell HN.out (World.cell?_alloc_mark w _ _ _ 6))))
 have hl1:(l++op2 m.e).length<=1048576:=by simp [op2,Wv.be1];omega
 have hszG:=HG.out.grown.size
 simp only [World.size_alloc] at hszG
 refine(zga v1 _ m.e.va w0.heap.size w1 (by omega) HO1.out hl1).mono ?_
 rintro e w2 ⟨v2,rfl,hO2,hG2⟩
 have HG2:Hid (Grew (w.alloc (.cells #[I m.e.op,I m.e.ob,I m.e.va,I m.e.ref.o,I m.e.ref.s,I m.e.ref.i, .slice m.da m.e.dots.length m.dc] 128)) w2 v v2):=HG.out.trans hG2
 have HO2:Hid (OwnB w2 w0.heap.size v2 (l++op2 m.e++Wv.be2 m.e.va)):=hO2
 have HB2:Hid (Below w0.heap.size w0 w2):=HW.out.trans (((Below.refl _ _).alloc hsz _).trans (HG2.out.below (l:=l) (by simp;omega) (HO.out.alloc _)))
 have hsz2:w.heap.size<w2.heap.size:=by have:=hG2.grown.size;omega
 clear x0 x1 x2 x3 x4 x5 x6 HO1 HG hG2 hO2 hl1 hszG
 have x0:w2.cell? ⟨w.heap.size,0,none⟩=some (I m.e.op):=HG2.out.cell HN.out (World.cell?_alloc_mark w _ _ _ 0)
 have x1:w2.cell? ⟨w.heap.size,1,none⟩=some (I m.e.ob):=HG2.out.cell HN.out (World.cell?_alloc_mark w _ _ _ 1)
 have x2:w2.cell? ⟨w.heap.size,2,none⟩=some (I m.e.va):=HG2.out.cell HN.out (World.cell?_alloc_mark w _ _ _ 2)
 have x3:w2.cell? ⟨w.heap.size,3,none⟩=some (I m.e.ref.o):=HG2.out.cell HN.out (World.cell?_alloc_mark w _ _ _ 3)
 have x4:w2.cell? ⟨w.heap.size,4,none⟩=some (I m.e.ref.s):=HG2.out.cell HN.out (World.cell?_alloc_mark w _ _ _ 4)
 have x5:w2.cell? ⟨w.heap.size,5,none⟩=some (I m.e.ref.i):=HG2.out.cell HN.out (World.cell?_alloc_mark w _ _ _ 5)
 have x6:w2.cell? ⟨w.heap.size,6,none⟩=some (.slice m.da m.e.dots.length m.dc):=HG2.out.cell HN.out (World.cell?_alloc_mark w _ _ _ 6)
 go_wp2_with fail
 refine(zbb m.e.op _ eb ef (g'.out.kept HB2.out) HOP.out).mono ?_
 rintro e w3 ⟨rfl,hb3⟩
 have HG3:Hid (Grew (w.alloc (.cells #[I m.e.op,I m.e.ob,I m.e.va,I m.e.ref.o,I m.e.ref.s,I m.e.ref.i, .slice m.da m.e.dots.length m.dc] 128)) w3 v v2):=HG2.out.trans (Grew.of_below hb3 v2)
 have HO3:Hid (OwnB w3 w0.heap.size v2 (l++op2 m.e++Wv.be2 m.e.va)):=HO2.out.kept hb3
 have hsz3:w.heap.size<w3.heap.size:=by have:=hb3.size;omega
 have HB3:Hid (Below w0.heap.size w0 w3):=HB2.out.trans (hb3.mono (by have:=HB2.out.size;omega))
 clear x0 x1 x2 x3 x4 x5 x6 HO2 HG2 hsz2 HB2 hb3
 have x0:w3.cell? ⟨w.heap.size,0,none⟩=some (I m.e.op):=HG3.out.cell HN.out (World.cell?_alloc_mark w _ _ _ 0)
 have x1:w3.cell? ⟨w.heap.size,1,none⟩=some (I m.e.ob):=HG3.out.cell HN.out (World.cell?_alloc_mark w _ _ _ 1)
 have x2:w3.cell? ⟨w.heap.size,2,none⟩=some (I m.e.va):=HG3.out.cell HN.out (World.cell?_alloc_mark w _ _ _ 2)
 have x3:w3.cell? ⟨w.heap.size,3,none⟩=some (I m.e.ref.o):=HG3.out.cell HN.out (World.cell?_alloc_mark w _ _ _ 3)
 have x4:w3.cell? ⟨w.heap.size,4,none⟩=some (I m.e.ref.s):=HG3.out.cell HN.out (World.cell?_alloc_mark w _ _ _ 4)
 have x5:w3.cell? ⟨w.heap.size,5,none⟩=some (I m.e.ref.i):=HG3.out.cell HN.out (World.cell?_alloc_mark w _ _ _ 5)
 have x6:w3.cell? ⟨w.heap.size,6,none⟩=some (.slice m.da m.e.dots.length m.dc):=HG3.out.cell HN.out (World.cell?_alloc_mark w _ _ _ 6)
 unfold ruleV
 go_wp2_with fail
 refine(zcj _ _ _ _ _ (Wv.rRef m.e.op) _).mono ?_
 rintro e w4 ⟨rfl,hb4⟩
 have HX4:Hid (Below w3.heap.size w3 w4):=((Below.refl _ _).alloc (Nat.le_refl _) _).trans (hb4.mono (by simp))
 have HG4:Hid (Grew (w.alloc (.cells #[I m.e.op,I m.e.ob,I m.e.va,I m.e.ref.o,I m.e.ref.s,I m.e.ref.i, .slice m.da m.e.dots.length m.dc] 128)) w4 v v2):=HG3.out.trans (Grew.of_below HX4.out v2)
 have HO4:Hid (OwnB w4 w0.heap.size v2 (l++op2 m.e++Wv.be2 m.e.va)):=HO3.out.kept HX4.out
 have hsz4:w3.heap.size<w4.heap.size:=by have:=hb4.size;simp at this;omega
 have HB4:Hid (Below w0.heap.size w0 w4):=HB3.out.trans (HX4.out.mono (by have:=HB3.out.size;omega))
 have r0:w4.cell? ⟨w3.heap.size,0,none⟩=some (I (Wv.rKind m.e.op)):=(hb4.cell (p:=⟨w3.heap.size,0,none⟩) (by simp)).trans (World.cell?_alloc_mark w3 _ _ _ 0)
 have r1:w4.cell? ⟨w3.heap.size,1,none⟩=some (I (Wv.rLeast m.e.op)):=(hb4.cell (p:=⟨w3.heap.size,1,none⟩) (by simp)).trans (World.cell?_alloc_mark w3 _ _ _ 1)
 have r2:w4.cell? ⟨w3.heap.size,2,none⟩=some (I (Wv.rGreat m.e.op)):=(hb4.cell (p:=⟨w3.heap.size,2,none⟩) (by simp)).trans (World.cell?_alloc_mark w3 _ _ _ 2)
 have r3:w4.cell? ⟨w3.heap.size,3,none⟩=some (I (Wv.rRef m.e.op)):=(hb4.cell (p:=⟨w3.heap.size,3,none⟩) (by simp)).trans (World.cell?_alloc_mark w3 _ _ _ 3)
 have r4:w4.cell? ⟨w3.heap.size,4,none⟩=some (I (Wv.rLeastD m.e.op)):=(hb4.cell (p:=⟨w3.heap.size,4,none⟩) (by simp)).trans (World.cell?_alloc_mark w3 _ _ _ 4)
 have r5:w4.cell? ⟨w3.heap.size,5,none⟩=some (I (Wv.rMostD m.e.op)):=(hb4.cell (p:=⟨w3.heap.size,5,none⟩) (by simp)).trans (World.cell?_alloc_mark w3 _ _ _ 5)
 clear x0 x1 x2 x3 x4 x5 x6 hb4
 have x0:w4.cell? ⟨w.heap.size,0,none⟩=some (I m.e.op):=HG4.out.cell HN.out (World.cell?_alloc_mark w _ _ _ 0)
 have x1:w4.cell? ⟨w.heap.size,1,none⟩=some (I m.e.ob):=HG4.out.cell HN.out (World.cell?_alloc_mark w _ _ _ 1)
 have x2:w4.cell? ⟨w.heap.size,2,none⟩=some (I m.e.va):=HG4.out.cell HN.out (World.cell?_alloc_mark w _ _ _ 2)
 have x3:w4.cell? ⟨w.heap.size,3,none⟩=some (I m.e.ref.o):=HG4.out.cell HN.out (World.cell?_alloc_mark w _ _ _ 3)
 have x4:w4.cell? ⟨w.heap.size,4,none⟩=some (I m.e.ref.s):=HG4.out.cell HN.out (World.cell?_alloc_mark w _ _ _ 4)
 have x5:w4.cell? ⟨w.heap.size,5,none⟩=some (I m.e.ref.i):=HG4.out.cell HN.out (World.cell?_alloc_mark w _ _ _ 5)
 have x6:w4.cell? ⟨w.heap.size,6,none⟩=some (.slice m.da m.e.dots.length m.dc):=HG4.out.cell HN.out (World.cell?_alloc_mark w _ _ _ 6)
 have HN2:Hid (some w3.heap.size ≠ v2.ownBlock):=HO3.out.new_ne (Nat.le_refl _)
 have hB4:w0.heap.size<=w4.heap.size:=HB4.out.size
 have hl4:(l++op2 m.e++Wv.be2 m.e.va).length<=1048100:=by simp [op2,Wv.be1,Wv.be2];omega
 generalize hL:l++op2 m.e++Wv.be2 m.e.va=L at HO4 hl4
 have HL:Hid (l++op2 m.e++Wv.be2 m.e.va=L):=hL
 clear hL
 go_wp2_with fail
 refine(zbt _ _ _ _ _ (Wv.rMostD m.e.op) _).mono ?_
 rintro e w5 ⟨rfl,hb5⟩
 have HG5:Hid (Grew (w.alloc (.cells #[I m.e.op,I m.e.ob,I m.e.va,I m.e.ref.o,I m.e.ref.s,I m.e.ref.i, .slice m.da m.e.dots.length m.dc] 128)) w5 v v2):=HG4.out.trans (Grew.of_below hb5 v2)
 have HO5:Hid (OwnB w5 w0.heap.size v2 L):=HO4.out.kept hb5
 have hsz5:w0.heap.size<=w5.heap.size:=by have:=hb5.size;omega
 replace x6:=zaa hb5 x6
 rw [HDA.out] at x6
 clear hb5 x0 x1 x2 x3 x4 x5 r0 r1 r2 r3 r4 r5
 go_wp2_with (first | (at_builtin;go_must (refine wpList_append_own_at _ rfl _ _ _ rfl w0.heap.size 5 i (.int .u8 0) 1 1 Tryz.underlying191 hi hz0 hz1 hz2 rfl (by omega) v2 L.length (L.map B8) rfl (HO5.out.alloc _) ⟨w5.heap.size,0,none⟩ 1 1 ((Wv.be1 m.e.dots.length).map B8) rfl rfl (zci w5 _ _ (zhl _ (by omega))) (zcu _) (by unfold maxLen;omega) (by omega) (by simp;omega) ?_;intro v6 w6 hown hgrow hnil hat;have HG6:Hid (Grew (w.alloc (.cells #[I m.e.op,I m.e.ob,I m.e.va,I m.e.ref.o,I m.e.ref.s,I m.e.ref.i, .slice m.da m.e.dots.length m.dc] 128)) w6 v v6):=HG5.out.trans ((Grew.new _ v2).trans (Grew.app hgrow hat));have HO6:Hid (OwnB w6 w0.heap.size v6 (L++Wv.be1 m.e.dots.length)):=OwnB.append rfl hown;clear hown hgrow hnil hat;have x6:w6.cell? ⟨w.heap.size,6,none⟩=some (.slice (some ⟨p,q,none⟩) m.e.dots.length m.dc):=(by rw [←HDA.out];exact HG6.out.cell HN.out (World.cell?_alloc_mark w _ _ _ 6)))))
 go_loopw [0,46] (fun t x wr=>∃k:Nat,k<=m.e.dots.length∧x=I k∧Hid (OwnB wr w0.heap.size t (L++(Wv.be1 m.e.dots.length++(m.e.dots.take k).flatMap Wv.dotB)))∧Hid (Grew (w.alloc (.cells #[I m.e.op,I m.e.ob,I m.e.va,I m.e.ref.o,I m.e.ref.s,I m.e.ref.i, .slice m.da m.e.dots.length m.dc] 128)) wr v t)) (fun _ x _=>m.e.dots.length - (intOf x).toNat)
 case atStart=>exact⟨0,Nat.zero_le _,rfl,by simpa using HO6,HG6⟩
 case round=>
  obtain⟨k,hk,rfl,hok,hgk⟩:=hrel
  clear HG6 HO6 x6
  have HBr:Hid (Below w0.heap.size w0 wr):=HW.out.trans (((Below.refl _ _).alloc hsz _).trans (hgk.out.below (l:=l) (by simp;omega) (HO.out.alloc _)))
  have hszr:w0.heap.size<=wr.heap.size:=HBr.out.size
  by_cases hlt:k<m.e.dots.length
  ·obtain⟨c0,c1,c2⟩:=hd.out k hlt
   replace c0:=zaa HBr.out c0
   replace c1:=zaa HBr.out c1
   replace c2:=zaa HBr.out c2
   have hpr:=zad c0
   have HT:Hid ((m.e.dots.take (k+1)).flatMap Wv.dotB=(m.e.dots.take k).flatMap Wv.dotB++Wv.dotB m.e.dots[k]):=Wv.take_flat _ _ _ hlt
   have hLn:(L++(Wv.be1 m.e.dots.length++(m.e.dots.take k).flatMap Wv.dotB)).length<=1048576:=by
    have h1:=Wv.dots_len (m.e.dots.take k)
    simp only [List.length_append,h1,Wv.be1_len,List.length_take]
    omega
   generalize m.e.dots[k]=d at c0 c1 c2 HT
   go_wp2_with fail
   refine(zsx u0 _ d w0.heap.size _ (by simp;omega) (hok.out.alloc _) hLn).mono ?_
   rintro e w7 ⟨v7,rfl,hO7,hG7⟩
   have HO7:Hid (OwnB w7 w0.heap.size v7 (L++(Wv.be1 m.e.dots.length++(m.e.dots.take k).flatMap Wv.dotB)++dotB d)):=hO7
   have HG7:Hid (Grew wr w7 u0 v7):=(Grew.new _ u0).trans hG7
   clear hO7 hG7
   go_wp2
   go_roundw
   case rel=>exact⟨k+1,by omega,by go_num,by rw [HT.out,←List.append_assoc (Wv.be1 _),←List.append_assoc L];exact HO7,hgk.out.trans HG7.out⟩
   case measure=>simp [intOf];omega
  ·obtain rfl:k=m.e.dots.length:=by omega
   go_wp2
   go_ret
   refine⟨_,rfl, ?_,(Grew.new _ v).trans hgk.out⟩
   rw [HE.out,HL.out]
   have:=hok.out
   rw [List.take_length] at this
   exact this
theorem zyd(w0 w:World)(v:Value)(l:List UInt8)(m:Em)(eb ef:Addr)(g:Gl w0 eb ef)(hw:Below w0.heap.size w0 w)(ho:OwnB w w0.heap.size v l)(hl:l.length<=1048000)(hop:1<=m.e.op∧m.e.op<=6)(hR:Wv.rRef m.e.op=0)(hM:0<Wv.rMostD m.e.op)(hdl:m.e.dots.length<=0):
  Calls Tryz.prog 135 #[v,effV m] w fun e w'=>∃v',e= .returned v'∧OwnB w' w0.heap.size v' (l++Wv.effB m.e)∧Grew w w' v v':=by
 have HE:Hid (l++Wv.effB m.e=l++op2 m.e++Wv.be2 m.e.va++(Wv.be1 m.e.dots.length++m.e.dots.flatMap Wv.dotB)):=by show _=_;simp [Wv.effB,hR,hM,op2]
 have hr:(Wv.rRef m.e.op !=0)=false:=by rw [hR];rfl
 have hm:decide (0<Wv.rMostD m.e.op)=true:=by simpa using hM
 clear hR hM
 obtain⟨i,hi,hz0,hz1,hz2⟩:=info_parts zex
 have HO:Hid (OwnB w w0.heap.size v l):=ho
 have HW:Hid (Below w0.heap.size w0 w):=hw
 have hsz:=hw.size
 have g':Hid (Gl w0 eb ef):=g
 have HOP:Hid (1<=m.e.op∧m.e.op<=6):=hop
 have HN:Hid (some w.heap.size ≠ v.ownBlock):=HO.out.new_ne (Nat.le_refl _)
 clear ho hw hop g
 go_enter Tryz.func135,Tryz.ntmps135
 go_wp2_with (first | (at_builtin;go_must (refine wpList_append_own_at _ rfl _ _ _ rfl w0.heap.size 5 i (.int .u8 0) 1 1 Tryz.underlying191 hi hz0 hz1 hz2 rfl (by omega) v l.length (l.map B8) rfl ((HO.out.alloc _).alloc _) ⟨w.heap.size+1,0,none⟩ 2 2 ((op2 m.e).map B8) rfl rfl (zb0 (w.alloc (.cells #[I m.e.op,I m.e.ob,I m.e.va,I m.e.ref.o,I m.e.ref.s,I m.e.ref.i, .slice m.da m.e.dots.length m.dc] 128)) _ _ _ (by simp) (ze6 m.e)) (zcu _) (by unfold maxLen;omega) (by omega) (by simp;omega) ?_;intro v1 w1 hown hgrow hnil hat;have HG:Hid (Grew (w.alloc (.cells #[I m.e.op,I m.e.ob,I m.e.va,I m.e.ref.o,I m.e.ref.s,I m.e.ref.i, .slice m.da m.e.dots.length m.dc] 128)) w1 v v1):=(Grew.new _ v).trans (Grew.app hgrow hat);have HO1:Hid (OwnB w1 w0.heap.size v1 (l++op2 m.e)):=OwnB.append rfl hown;clear hown hgrow hnil hat;have x0:w1.cell? ⟨w.heap.size,0,none⟩=some (I m.e.op):=HG.out.cell HN.out (World.cell?_alloc_mark w _ _ _ 0);have x1:w1.cell? ⟨w.heap.size,1,none⟩=some (I m.e.ob):=HG.out.cell HN.out (World.cell?_alloc_mark w _ _ _ 1);have x2:w1.cell? ⟨w.heap.size,2,none⟩=some (I m.e.va):=HG.out.cell HN.out (World.cell?_alloc_mark w _ _ _ 2);have x3:w1.cell? ⟨w.heap.size,3,none⟩=some (I m.e.ref.o):=HG.out.cell HN.out (World.cell?_alloc_mark w _ _ _ 3);have x4:w1.cell? ⟨w.heap.size,4,none⟩=some (I m.e.ref.s):=HG.out.cell HN.out (World.cell?_alloc_mark w _ _ _ 4);have x5:w1.cell? ⟨w.heap.size,5,none⟩=some (I m.e.ref.i):=HG.out.cell HN.out (World.cell?_alloc_mark w _ _ _ 5);have x6:w1.cell? ⟨w.heap.size,6,none⟩=some (.slice m.da m.e.dots.length m.dc):=HG.out.cell HN.out (World.cell?_alloc_mark w _ _ _ 6))))
 have hl1:(l++op2 m.e).length<=1048576:=by simp [op2,Wv.be1];omega
 have hszG:=HG.out.grown.size
 simp only [World.size_alloc] at hszG
 refine(zga v1 _ m.e.va w0.heap.size w1 (by omega) HO1.out hl1).mono ?_
 rintro e w2 ⟨v2,rfl,hO2,hG2⟩
 have HG2:Hid (Grew (w.alloc (.cells #[I m.e.op,I m.e.ob,I m.e.va,I m.e.ref.o,I m.e.ref.s,I m.e.ref.i, .slice m.da m.e.dots.length m.dc] 128)) w2 v v2):=HG.out.trans hG2
 have HO2:Hid (OwnB w2 w0.heap.size v2 (l++op2 m.e++Wv.be2 m.e.va)):=hO2
 have HB2:Hid (Below w0.heap.size w0 w2):=HW.out.trans (((Below.refl _ _).alloc hsz _).trans (HG2.out.below (l:=l) (by simp;omega) (HO.out.alloc _)))
 have hsz2:w.heap.size<w2.heap.size:=by have:=hG2.grown.size;omega
 clear x0 x1 x2 x3 x4 x5 x6 HO1 HG hG2 hO2 hl1 hszG
 have x0:w2.cell? ⟨w.heap.size,0,none⟩=some (I m.e.op):=HG2.out.cell HN.out (World.cell?_alloc_mark w _ _ _ 0)
 have x1:w2.cell? ⟨w.heap.size,1,none⟩=some (I m.e.ob):=HG2.out.cell HN.out (World.cell?_alloc_mark w _ _ _ 1)
 have x2:w2.cell? ⟨w.heap.size,2,none⟩=some (I m.e.va):=HG2.out.cell HN.out (World.cell?_alloc_mark w _ _ _ 2)
 have x3:w2.cell? ⟨w.heap.size,3,none⟩=some (I m.e.ref.o):=HG2.out.cell HN.out (World.cell?_alloc_mark w _ _ _ 3)
 have x4:w2.cell? ⟨w.heap.size,4,none⟩=some (I m.e.ref.s):=HG2.out.cell HN.out (World.cell?_alloc_mark w _ _ _ 4)
 have x5:w2.cell? ⟨w.heap.size,5,none⟩=some (I m.e.ref.i):=HG2.out.cell HN.out (World.cell?_alloc_mark w _ _ _ 5)
 have x6:w2.cell? ⟨w.heap.size,6,none⟩=some (.slice m.da m.e.dots.length m.dc):=HG2.out.cell HN.out (World.cell?_alloc_mark w _ _ _ 6)
 go_wp2_with fail
 refine(zbb m.e.op _ eb ef (g'.out.kept HB2.out) HOP.out).mono ?_
 rintro e w3 ⟨rfl,hb3⟩
 have HG3:Hid (Grew (w.alloc (.cells #[I m.e.op,I m.e.ob,I m.e.va,I m.e.ref.o,I m.e.ref.s,I m.e.ref.i, .slice m.da m.e.dots.length m.dc] 128)) w3 v v2):=HG2.out.trans (Grew.of_below hb3 v2)
 have HO3:Hid (OwnB w3 w0.heap.size v2 (l++op2 m.e++Wv.be2 m.e.va)):=HO2.out.kept hb3
 have hsz3:w.heap.size<w3.heap.size:=by have:=hb3.size;omega
 have HB3:Hid (Below w0.heap.size w0 w3):=HB2.out.trans (hb3.mono (by have:=HB2.out.size;omega))
 clear x0 x1 x2 x3 x4 x5 x6 HO2 HG2 hsz2 HB2 hb3
 have x0:w3.cell? ⟨w.heap.size,0,none⟩=some (I m.e.op):=HG3.out.cell HN.out (World.cell?_alloc_mark w _ _ _ 0)
 have x1:w3.cell? ⟨w.heap.size,1,none⟩=some (I m.e.ob):=HG3.out.cell HN.out (World.cell?_alloc_mark w _ _ _ 1)
 have x2:w3.cell? ⟨w.heap.size,2,none⟩=some (I m.e.va):=HG3.out.cell HN.out (World.cell?_alloc_mark w _ _ _ 2)
 have x3:w3.cell? ⟨w.heap.size,3,none⟩=some (I m.e.ref.o):=HG3.out.cell HN.out (World.cell?_alloc_mark w _ _ _ 3)
 have x4:w3.cell? ⟨w.heap.size,4,none⟩=some (I m.e.ref.s):=HG3.out.cell HN.out (World.cell?_alloc_mark w _ _ _ 4)
 have x5:w3.cell? ⟨w.heap.size,5,none⟩=some (I m.e.ref.i):=HG3.out.cell HN.out (World.cell?_alloc_mark w _ _ _ 5)
 have x6:w3.cell? ⟨w.heap.size,6,none⟩=some (.slice m.da m.e.dots.length m.dc):=HG3.out.cell HN.out (World.cell?_alloc_mark w _ _ _ 6)
 unfold ruleV
 go_wp2_with fail
 refine(zcj _ _ _ _ _ (Wv.rRef m.e.op) _).mono ?_
 rintro e w4 ⟨rfl,hb4⟩
 have HX4:Hid (Below w3.heap.size w3 w4):=((Below.refl _ _).alloc (Nat.le_refl _) _).trans (hb4.mono (by simp))
 have HG4:Hid (Grew (w.alloc (.cells #[I m.e.op,I m.e.ob,I m.e.va,I m.e.ref.o,I m.e.ref.s,I m.e.ref.i, .slice m.da m.e.dots.length m.dc] 128)) w4 v v2):=HG3.out.trans (Grew.of_below HX4.out v2)
 have HO4:Hid (OwnB w4 w0.heap.size v2 (l++op2 m.e++Wv.be2 m.e.va)):=HO3.out.kept HX4.out
 have hsz4:w3.heap.size<w4.heap.size:=by have:=hb4.size;simp at this;omega
 have HB4:Hid (Below w0.heap.size w0 w4):=HB3.out.trans (HX4.out.mono (by have:=HB3.out.size;omega))
 have r0:w4.cell? ⟨w3.heap.size,0,none⟩=some (I (Wv.rKind m.e.op)):=(hb4.cell (p:=⟨w3.heap.size,0,none⟩) (by simp)).trans (World.cell?_alloc_mark w3 _ _ _ 0)
 have r1:w4.cell? ⟨w3.heap.size,1,none⟩=some (I (Wv.rLeast m.e.op)):=(hb4.cell (p:=⟨w3.heap.size,1,none⟩) (by simp)).trans (World.cell?_alloc_mark w3 _ _ _ 1)
 have r2:w4.cell? ⟨w3.heap.size,2,none⟩=some (I (Wv.rGreat m.e.op)):=(hb4.cell (p:=⟨w3.heap.size,2,none⟩) (by simp)).trans (World.cell?_alloc_mark w3 _ _ _ 2)
 have r3:w4.cell? ⟨w3.heap.size,3,none⟩=some (I (Wv.rRef m.e.op)):=(hb4.cell (p:=⟨w3.heap.size,3,none⟩) (by simp)).trans (World.cell?_alloc_mark w3 _ _ _ 3)
 have r4:w4.cell? ⟨w3.heap.size,4,none⟩=some (I (Wv.rLeastD m.e.op)):=(hb4.cell (p:=⟨w3.heap.size,4,none⟩) (by simp)).trans (World.cell?_alloc_mark w3 _ _ _ 4)
 have r5:w4.cell? ⟨w3.heap.size,5,none⟩=some (I (Wv.rMostD m.e.op)):=(hb4.cell (p:=⟨w3.heap.size,5,none⟩) (by simp)).trans (World.cell?_alloc_mark w3 _ _ _ 5)
 clear x0 x1 x2 x3 x4 x5 x6 hb4
 have x0:w4.cell? ⟨w.heap.size,0,none⟩=some (I m.e.op):=HG4.out.cell HN.out (World.cell?_alloc_mark w _ _ _ 0)
 have x1:w4.cell? ⟨w.heap.size,1,none⟩=some (I m.e.ob):=HG4.out.cell HN.out (World.cell?_alloc_mark w _ _ _ 1)
 have x2:w4.cell? ⟨w.heap.size,2,none⟩=some (I m.e.va):=HG4.out.cell HN.out (World.cell?_alloc_mark w _ _ _ 2)
 have x3:w4.cell? ⟨w.heap.size,3,none⟩=some (I m.e.ref.o):=HG4.out.cell HN.out (World.cell?_alloc_mark w _ _ _ 3)
 have x4:w4.cell? ⟨w.heap.size,4,none⟩=some (I m.e.ref.s):=HG4.out.cell HN.out (World.cell?_alloc_mark w _ _ _ 4)
 have x5:w4.cell? ⟨w.heap.size,5,none⟩=some (I m.e.ref.i):=HG4.out.cell HN.out (World.cell?_alloc_mark w _ _ _ 5)
 have x6:w4.cell? ⟨w.heap.size,6,none⟩=some (.slice m.da m.e.dots.length m.dc):=HG4.out.cell HN.out (World.cell?_alloc_mark w _ _ _ 6)
 have HN2:Hid (some w3.heap.size ≠ v2.ownBlock):=HO3.out.new_ne (Nat.le_refl _)
 have hB4:w0.heap.size<=w4.heap.size:=HB4.out.size
 have hl4:(l++op2 m.e++Wv.be2 m.e.va).length<=1048100:=by simp [op2,Wv.be1,Wv.be2];omega
 generalize hL:l++op2 m.e++Wv.be2 m.e.va=L at HO4 hl4
 have HL:Hid (l++op2 m.e++Wv.be2 m.e.va=L):=hL
 clear hL
 go_wp2_with fail
 refine(zbt _ _ _ _ _ (Wv.rMostD m.e.op) _).mono ?_
 rintro e w5 ⟨rfl,hb5⟩
 have HG5:Hid (Grew (w.alloc (.cells #[I m.e.op,I m.e.ob,I m.e.va,I m.e.ref.o,I m.e.ref.s,I m.e.ref.i, .slice m.da m.e.dots.length m.dc] 128)) w5 v v2):=HG4.out.trans (Grew.of_below hb5 v2)
 have HO5:Hid (OwnB w5 w0.heap.size v2 L):=HO4.out.kept hb5
 have hsz5:w0.heap.size<=w5.heap.size:=by have:=hb5.size;omega
 replace x6:=zaa hb5 x6
 clear hb5 x0 x1 x2 x3 x4 x5 r0 r1 r2 r3 r4 r5
 go_wp2_with (first | (at_builtin;go_must (refine wpList_append_own_at _ rfl _ _ _ rfl w0.heap.size 5 i (.int .u8 0) 1 1 Tryz.underlying191 hi hz0 hz1 hz2 rfl (by omega) v2 L.length (L.map B8) rfl (HO5.out.alloc _) ⟨w5.heap.size,0,none⟩ 1 1 ((Wv.be1 m.e.dots.length).map B8) rfl rfl (zci w5 _ _ (zhl _ (by omega))) (zcu _) (by unfold maxLen;omega) (by omega) (by simp;omega) ?_;intro v6 w6 hown hgrow hnil hat;have HG6:Hid (Grew (w.alloc (.cells #[I m.e.op,I m.e.ob,I m.e.va,I m.e.ref.o,I m.e.ref.s,I m.e.ref.i, .slice m.da m.e.dots.length m.dc] 128)) w6 v v6):=HG5.out.trans ((Grew.new _ v2).trans (Grew.app hgrow hat));have HO6:Hid (OwnB w6 w0.heap.size v6 (L++Wv.be1 m.e.dots.length)):=OwnB.append rfl hown;clear hown hgrow hnil hat;have x6:w6.cell? ⟨w.heap.size,6,none⟩=some (.slice m.da m.e.dots.length m.dc):=HG6.out.cell HN.out (World.cell?_alloc_mark w _ _ _ 6))))
 go_loopw [0,46] (fun t x wr=>∃k:Nat,k<=m.e.dots.length∧x=I k∧Hid (OwnB wr w0.heap.size t (L++(Wv.be1 m.e.dots.length++(m.e.dots.take k).flatMap Wv.dotB)))∧Hid (Grew (w.alloc (.cells #[I m.e.op,I m.e.ob,I m.e.va,I m.e.ref.o,I m.e.ref.s,I m.e.ref.i, .slice m.da m.e.dots.length m.dc] 128)) wr v t)) (fun _ x _=>m.e.dots.length - (intOf x).toNat)
 case atStart=>exact⟨0,Nat.zero_le _,rfl,by simpa using HO6,HG6⟩
 case round=>
  obtain⟨k,hk,rfl,hok,hgk⟩:=hrel
  clear HG6 HO6 x6
  by_cases hlt:k<m.e.dots.length
  ·exfalso;omega
  ·obtain rfl:k=m.e.dots.length:=by omega
   go_wp2
   go_ret
   refine⟨_,rfl, ?_,(Grew.new _ v).trans hgk.out⟩
   rw [HE.out,HL.out]
   have:=hok.out
   rw [List.take_length] at this
   exact this
theorem zz6(w0 w:World)(v:Value)(l:List UInt8)(m:Em)(eb ef:Addr)(g:Gl w0 eb ef)(hw:Below w0.heap.size w0 w)(ho:OwnB w w0.heap.size v l)(hl:l.length<=1048000)(hop:1<=m.e.op∧m.e.op<=6)
  (hd:At w0 m.da (flat zac m.e.dots)) (hdl:m.e.dots.length<=150):
  Calls Tryz.prog 135 #[v,effV m] w fun e w'=>∃v',e= .returned v'∧OwnB w' w0.heap.size v' (l++Wv.effB m.e)∧Grew w w' v v':=by
 have h:(Wv.rRef m.e.op=0∧Wv.rMostD m.e.op=0)∨(¬Wv.rRef m.e.op=0∧Wv.rMostD m.e.op=0)∨(Wv.rRef m.e.op=0∧0<Wv.rMostD m.e.op):=by
  unfold Wv.rRef Wv.rMostD
  obtain h | h | h | h | h | h:m.e.op=1∨m.e.op=2∨m.e.op=3∨m.e.op=4∨m.e.op=5∨m.e.op=6:=by omega
  all_goals simp [h]
 rcases h with⟨h1,h2⟩ | ⟨h1,h2⟩ | ⟨h1,h2⟩
 ·exact zvc w0 w v l m eb ef g hw ho hl hop h1 h2
 ·exact zz4 w0 w v l m eb ef g hw ho hl hop h1 h2
 ·rcases Nat.eq_zero_or_pos m.e.dots.length with hz | hz
  ·exact zyd w0 w v l m eb ef g hw ho hl hop h1 h2 (by omega)
  ·obtain⟨p,q,e,_,hc⟩:=zgv hd hz
   exact zye w0 w v l m eb ef g hw ho hl hop h1 h2 p q e hdl hc
abbrev FltF (n:Int) (why:Value):Value:= .iface 268 (.agg #[I n,why])
structure Gd(w:World):Prop where
 cut:∃a,w.cell? ⟨7,0,none⟩=some (Sent a)
 len:∃a,w.cell? ⟨5,0,none⟩=some (Sent a)
 sum:∃a,w.cell? ⟨6,0,none⟩=some (Sent a)
 rest:∃a,w.cell? ⟨2,0,none⟩=some (Sent a)
theorem Gd.kept{w w':World}(g:Gd w)(hb:Below w.heap.size w w'):Gd w':=
 ⟨g.cut.imp fun _ h=>zaa hb h,g.len.imp fun _ h=>zaa hb h,g.sum.imp fun _ h=>zaa hb h,g.rest.imp fun _ h=>zaa hb h⟩
def Rd(w:World)(g:Nat)(c:List UInt8):Wv.St->Prop
 | some k=>Blk w g #[.string ⟨c.toArray⟩,I k, .nilIface] 245
 | none=>∃a n why,Blk w g #[.string ⟨c.toArray⟩,I a,FltF n why] 245
theorem Rd.grown{w w':World}{g:Nat}{c:List UInt8}{q:Wv.St}{row:Option Nat}(h:Rd w g c q)(hg:w.grownBy w' row)(hne:some g ≠ row):Rd w' g c q:=by
 cases q with
 | some k=>exact Blk.grown h hg hne
 | none=>obtain⟨a,n,y,h⟩:=h;exact⟨a,n,y,Blk.grown h hg hne⟩
theorem Rd.kept{w w':World}{B g:Nat}{c:List UInt8}{q:Wv.St}(h:Rd w g c q)(hb:Below B w w')(hg:g<B):Rd w' g c q:=by
 cases q with
 | some k=>exact Blk.kept h hb hg
 | none=>obtain⟨a,n,y,h⟩:=h;exact⟨a,n,y,Blk.kept h hb hg⟩
theorem Rd.lt{w:World}{g:Nat}{c:List UInt8}{q:Wv.St}(h:Rd w g c q):g<w.heap.size:=by
 cases q with
 | some k=>exact Blk.lt h
 | none=>obtain⟨a,n,y,h⟩:=h;exact Blk.lt h
theorem zle(w:World)(g j:Nat)(u:Value):w.grownBy (w.setCell ⟨g,j,none⟩ u) (some g):=
 ⟨rfl,rfl,rfl,by simp [World.setCell],fun k _ hk=>heap_setCell_other w ⟨g,j,none⟩ k u (fun e=>hk (by rw [e]))⟩
theorem zb8(w:World)(row:Option Nat):w.grownBy w row:=⟨rfl,rfl,rfl,Nat.le_refl _,fun _ _ _=>rfl⟩
theorem zfb(c:List UInt8)(k:Nat)(g:Nat)(T:TypeId)(x:Value)(w:World)(h:Rd w g c (some k)):
  Calls Tryz.prog 165 #[.pointer (some ⟨g,0,none⟩), .iface T x] w fun e w'=>e= .returned (.tuple #[])∧Rd w' g c none∧w.grownBy w' (some g):=by
 have h':Hid (Blk w g #[.string ⟨c.toArray⟩,I k, .nilIface] 245):=h
 have c0:w.cell? ⟨g,0,none⟩=some (.string ⟨c.toArray⟩):=h'.out.cell 0
 have c1:w.cell? ⟨g,1,none⟩=some (I k):=h'.out.cell 1
 have c2:w.cell? ⟨g,2,none⟩=some .nilIface:=h'.out.cell 2
 have z2:=h'.out.frozen 2
 clear h
 go_enter Tryz.func165,Tryz.ntmps165
 go_wp2
 go_end0
 exact⟨rfl,⟨_,_,_,h'.out.set 2 _⟩,zle _ _ _ _⟩
theorem zfc(c:List UInt8)(g:Nat)(v:Value)(w:World)(h:Rd w g c none):
  Calls Tryz.prog 165 #[.pointer (some ⟨g,0,none⟩),v] w fun e w'=>e= .returned (.tuple #[])∧Rd w' g c none∧w.grownBy w' (some g):=by
 obtain⟨a,n,y,h⟩:=h
 have h':Hid (Blk w g #[.string ⟨c.toArray⟩,I a,FltF n y] 245):=h
 have c2:w.cell? ⟨g,2,none⟩=some (FltF n y):=h'.out.cell 2
 clear h
 go_enter Tryz.func165,Tryz.ntmps165
 go_wp2
 go_end0
 exact⟨rfl,⟨_,_,_,h'.out⟩,zb8 _ _⟩
theorem zx9(c:List UInt8)(k:Nat)(g:Nat)(w:World)(h:Rd w g c (some k)):
  Calls Tryz.prog 165 #[.pointer (some ⟨g,0,none⟩), .nilIface] w fun e w'=>e= .returned (.tuple #[])∧Rd w' g c (some k)∧w.grownBy w' (some g):=by
 have h':Hid (Blk w g #[.string ⟨c.toArray⟩,I k, .nilIface] 245):=h
 have c2:w.cell? ⟨g,2,none⟩=some .nilIface:=h'.out.cell 2
 clear h
 go_enter Tryz.func165,Tryz.ntmps165
 go_wp2
 go_end0
 exact⟨rfl,h'.out,zb8 _ _⟩
end Go.Proofs.YtfmcngncaffloabGreatDoor
namespace Go.Proofs.YtfmcngncaffloabGreatDoor.Wv
theorem zjb{s:List UInt8}{q:St}{k:Nat}(h:nxt s q=some k):k<=s.length:=by
 cases q with
 | none=>cases h
 | some j=>
  simp only [nxt] at h
  split at h
  ·cases h;omega
  ·cases h
theorem zwm{α:Type}{F:St->α×St}{L:Nat}(hF:∀q k,(F q).2=some k->k<=L)(n:Nat)(q:St)(hq:∀k,q=some k->k<=L)(k:Nat)(h:(run F n q).2=some k):k<=L:=by
 cases n with
 | zero=>exact hq k h
 | succ n=>exact hF _ k h
theorem zz9{p:Bool}{s:List UInt8}{q:St}{k:Nat}(h:eff5 p s q=some k):k<=s.length:=by
 unfold eff5 at h
 split at h
 ·cases h
 ·exact zjb h
theorem zz8{p:Bool}{s:List UInt8}{q:St}{k:Nat}(h:eff6 p s q=some k):k<=s.length:=by
 unfold eff6 at h
 split at h
 ·exact zz9 h
 ·exact zjb h
theorem zz7{p:Bool}{s:List UInt8}{q:St}{k:Nat}(h:(effF p s q).2=some k):k<=s.length:=by
 have h':(effD p s q).2=some k:=h
 unfold effD at h'
 split at h'
 ·exact zwm (fun q k h=>zjb h) _ _ (fun k h=>zjb h) k h'
 ·exact zz8 h'
theorem batF_le{p:Bool}{s:List UInt8}{q:St}{k:Nat}(h:(batF p s q).2=some k):k<=s.length:=
 zwm (fun _ _ h=>zz7 h) _ _ (fun _ h=>zjb h) k h
theorem zlu(s:List UInt8):body s++tail4 s=s:=List.take_append_drop _ _
theorem body_len(s:List UInt8):(body s).length=s.length - 4:=by simp [body]
theorem seal_iff(s:List UInt8):body s++be4 (sum (body s):Nat)=s↔tail4 s=be4 (sum (body s):Nat):=
 ⟨fun h=>(List.append_cancel_left (h.trans (zlu s).symm)).symm,fun h=>by rw [←h,zlu]⟩
end Go.Proofs.YtfmcngncaffloabGreatDoor.Wv
namespace Go.Proofs.YtfmcngncaffloabGreatDoor
open Go.RowKit
set_option maxRecDepth 100000
theorem zaw(l:List UInt8):(⟨l.toArray⟩:ByteArray).size=l.length:=by simp [ByteArray.size]
theorem zgc(l:List UInt8)(n:Nat):(⟨l.toArray⟩:ByteArray).extract 0 n=⟨(l.take n).toArray⟩:=by
 apply ByteArray.ext
 simp [ByteArray.data_extract]
theorem zni(l:List UInt8)(w:World)(h:l.length<4):
  Calls Tryz.prog 167 #[.string ⟨l.toArray⟩] w fun e w'=>e= .returned (.tuple #[.string ⟨#[]⟩, .bool false])∧Below w.heap.size w w':=by
 have hs:=zaw l
 go_enter Tryz.func167,Tryz.ntmps167
 go_wp2
 go_ret2
 exact⟨rfl,Below.refl _ _⟩
theorem zkz(l:List UInt8)(w:World)(h:4<=l.length)(h2:l.length<=65535)(ht:Wv.tail4 l=Wv.be4 (Wv.sum (Wv.body l):Nat)):
  Calls Tryz.prog 167 #[.string ⟨l.toArray⟩] w fun e w'=>e= .returned (.tuple #[.string ⟨(Wv.body l).toArray⟩, .bool true])∧Below w.heap.size w w':=by
 have hs:=zaw l
 have hx:(⟨l.toArray⟩:ByteArray).extract 0 (l.length - 4)=⟨(Wv.body l).toArray⟩:=zgc l _
 have HT:Hid _:=ht
 clear ht
 go_enter Tryz.func167,Tryz.ntmps167
 go_wp2_with fail
 rw [hx]
 have hq:=zgg ⟨(Wv.body l).toArray⟩ w (by rw [zaw,Wv.body_len];omega)
 rw [show(⟨(Wv.body l).toArray⟩:ByteArray).data.toList=Wv.body l from rfl] at hq
 refine hq.mono ?_
 rintro e w1 ⟨rfl,hb1⟩
 have HB:Hid (Below w.heap.size w w1):=hb1
 clear hb1 hq
 rw [(Wv.seal_iff l).2 HT.out]
 go_wp2
 go_ret2
 exact⟨rfl,HB.out⟩
theorem znj(l:List UInt8)(w:World)(h:4<=l.length)(h2:l.length<=65535)(ht:¬Wv.tail4 l=Wv.be4 (Wv.sum (Wv.body l):Nat)):
  Calls Tryz.prog 167 #[.string ⟨l.toArray⟩] w fun e w'=>e= .returned (.tuple #[.string ⟨#[]⟩, .bool false])∧Below w.heap.size w w':=by
 have hs:=zaw l
 have hx:(⟨l.toArray⟩:ByteArray).extract 0 (l.length - 4)=⟨(Wv.body l).toArray⟩:=zgc l _
 have HT:Hid _:=ht
 clear ht
 go_enter Tryz.func167,Tryz.ntmps167
 go_wp2_with fail
 rw [hx]
 have hq:=zgg ⟨(Wv.body l).toArray⟩ w (by rw [zaw,Wv.body_len];omega)
 rw [show(⟨(Wv.body l).toArray⟩:ByteArray).data.toList=Wv.body l from rfl] at hq
 refine hq.mono ?_
 rintro e w1 ⟨rfl,hb1⟩
 have HB:Hid (Below w.heap.size w w1):=hb1
 clear hb1 hq
 have h1:¬Wv.body l++Wv.be4 (Wv.sum (Wv.body l):Nat)=l:=fun e=>HT.out ((Wv.seal_iff l).1 e)
 generalize Wv.body l++Wv.be4 (Wv.sum (Wv.body l):Nat)=l2 at *
 have h3:(l2==l)=false:=beq_eq_false_iff_ne.2 h1
 have h4:(l2 !=l)=true:=by rw [bne,h3];rfl
 go_wp2
 go_ret2
 exact⟨rfl,HB.out⟩
end Go.Proofs.YtfmcngncaffloabGreatDoor
