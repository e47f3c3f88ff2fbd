import Derived.Test.YtfmcngncaffloabGreatDoorH13SoL
import Derived.Test.YtfmcngncaffloabGreatDoorH14DecH
set_option maxHeartbeats 3200000
namespace Go.Proofs.YtfmcngncaffloabGreatDoor
open Go.RowKit
set_option maxRecDepth 100000
theorem _root_.Go.Proofs.YtfmcngncaffloabGreatDoor.Wv.effs_len(l:List Wv.Ef)(h:∀e∈l,(Wv.effB e).length<=500):(l.flatMap Wv.effB).length<=500*l.length:=by
 induction l with
 | nil=>simp
 | cons e l ih=>
  have h1:=h e (by simp)
  have h2:=ih (fun x hx=>h x (by simp [hx]))
  simp only [List.flatMap_cons,List.length_append,List.length_cons]
  omega
theorem _root_.Go.Proofs.YtfmcngncaffloabGreatDoor.Wv.headB_len(b:Wv.Bt):(Wv.headB b).length=b.clock.length+5:=by
 have h1:=Wv.flat1_len b.clock
 have h2:(Wv.hd4 b).length=4:=rfl
 simp only [Wv.headB,List.length_append,h1,h2,Wv.be1_len]
 omega
theorem _root_.Go.Proofs.YtfmcngncaffloabGreatDoor.Wv.headB_pos(b:Wv.Bt):1<=(Wv.headB b).length:=by have:=Wv.headB_len b;omega
theorem zhi(b:Wv.Bt):∀(n k:Nat),k<n->Wv.effsTo b n=true->Wv.effOk b k (b.effs.getD k ⟨0,0,0,⟨0,0,0⟩, []⟩)=true
 | n+1,k,hk,h=>by
  rw [Wv.effsTo,Bool.and_eq_true] at h
  rcases Nat.lt_succ_iff_lt_or_eq.1 hk with hk | rfl
  ·exact zhi b n k hk h.1
  ·exact h.2
theorem zxt(b:Wv.Bt)(ms:List Em)(he:b.effs=ms.map (·.e))(hb:Wv.isB b=true):∀m∈ms,(1<=m.e.op∧m.e.op<=6)∧m.e.dots.length<=150:=by
 intro m hm
 obtain⟨k,hk,rfl⟩:=List.mem_iff_getElem.1 hm
 simp only [Wv.isB,Bool.and_eq_true] at hb
 have h:=zhi b b.effs.length k (by rw [he];simpa using hk) hb.2
 have e:b.effs.getD k ⟨0,0,0,⟨0,0,0⟩, []⟩=ms[k].e:=by rw [he];simp [hk]
 rw [e] at h
 simp only [Wv.effOk,Wv.isOp,Bool.and_eq_true,decide_eq_true_eq] at h
 refine⟨h.1.1.1.1.1, ?_⟩
 have h2:=h.1.2.2
 have:Wv.rMostD ms[k].e.op<=150:=by unfold Wv.rMostD;repeat' split<;>omega
 omega
theorem _root_.Go.Proofs.YtfmcngncaffloabGreatDoor.Grew.below0{w w':World}{v':Value}(h:Grew w w' (.slice none 0 0) v'):Below w.heap.size w w':=
 ⟨h.grown.os,h.grown.tape,h.grown.output,h.grown.size,fun k hk=>h.grown.block k hk (by simp [Value.ownBlock])⟩
theorem zi8{w:World}{B g n cap:Nat}{l:List UInt8}(h:OwnB w B (.slice (some ⟨g,0,none⟩) n cap) l):
  (convert 191 9 (.slice (some ⟨g,0,none⟩) n cap)).run Tryz.prog w= .ok (.string ⟨l.toArray⟩) w:=by
 have hn:n=l.length:=by
  rcases h.2 with⟨e,_⟩ | ⟨_,_,_,e,_⟩
  ·cases e
  ·injection e
 subst hn
 exact zf6 w _ _ l (fun j u hu=>h.cells rfl j u hu)
theorem zos(b:Wv.Bt)(ca ea:Option Addr)(cc ec:Nat)(ms:List Em)(w:World)(eb ef:Addr)(hI:zaj)(g:Gl w eb ef)(hp:Pw w)(h:BatAt w b ca ea ms)(hb:Wv.isB b=true):
  Calls Tryz.prog 98 #[bV b ca ea cc ec] w fun e w'=>e= .returned (.tuple #[.string ⟨(Wv.frameB b).toArray⟩, .nilIface])∧Below w.heap.size w w':=by
 have hpw':Hid (Pw w):=hp
 have g':Hid (Gl w eb ef):=g
 have h':Hid (BatAt w b ca ea ms):=h
 have HF:Hid (Wv.isB b=true):=hb
 have hH:Wv.headOk b=true:=by simp only [Wv.isB,Bool.and_eq_true] at hb;exact hb.1
 have hcl:2<=b.clock.length∧b.clock.length<=4:=by
  simp only [Wv.headOk,Bool.and_eq_true,decide_eq_true_eq] at hH
  exact hH.1.1.1.1.1
 have hel:1<=b.effs.length∧b.effs.length<=5:=by
  simp only [Wv.headOk,Bool.and_eq_true,decide_eq_true_eq] at hH
  exact hH.1.2
 have hml:ms.length=b.effs.length:=by rw [h.effs];simp
 have HL:Hid (ms.length=b.effs.length):=hml
 obtain⟨p,q,rfl,hp0,hc0⟩:=h.clock.first (by simp;omega)
 obtain⟨p2,q2,rfl,hp2,hc2⟩:=zif h.cells (by omega)
 have hcc:Hid _:=hc0
 have hce:Hid _:=hc2
 have HOK:Hid (∀m∈ms,(1<=m.e.op∧m.e.op<=6)∧m.e.dots.length<=150):=zxt b ms h.effs hb
 have HB:Hid (Below w.heap.size w (w.alloc (.cells #[I b.o,I b.s,I b.t, .slice (some ⟨p,q,none⟩) b.clock.length cc, .slice (some ⟨p2,q2,none⟩) b.effs.length ec] 134))):=(Below.refl _ _).alloc (Nat.le_refl _) _
 clear g hp h hb hc0 hc2 hH hml
 go_enter Tryz.func98,Tryz.ntmps98
 go_wp2_with fail
 refine(zhj b _ _ cc ec ms _ eb ef hI (g'.out.kept HB.out) (hpw'.out.kept HB.out) (h'.out.kept HB.out) (by omega) (by omega) (fun m hm=>by have:=(HOK.out m hm).2;omega)).mono ?_
 rintro e w1 ⟨he,hb1⟩
 have HB1:Hid (Below w.heap.size w w1):=HB.out.trans (hb1.mono (by simp))
 have hsz1:w.heap.size<w1.heap.size:=by have:=hb1.size;simp at this;omega
 unfold zef at he
 rw [HF.out] at he
 obtain rfl:=he
 have y0:w1.cell? ⟨w.heap.size,0,none⟩=some (I b.o):=(hb1.cell (p:=⟨w.heap.size,0,none⟩) (by simp)).trans (World.cell?_alloc_mark w _ _ _ 0)
 have y1:w1.cell? ⟨w.heap.size,1,none⟩=some (I b.s):=(hb1.cell (p:=⟨w.heap.size,1,none⟩) (by simp)).trans (World.cell?_alloc_mark w _ _ _ 1)
 have y2:w1.cell? ⟨w.heap.size,2,none⟩=some (I b.t):=(hb1.cell (p:=⟨w.heap.size,2,none⟩) (by simp)).trans (World.cell?_alloc_mark w _ _ _ 2)
 have y3:w1.cell? ⟨w.heap.size,3,none⟩=some (.slice (some ⟨p,q,none⟩) b.clock.length cc):=(hb1.cell (p:=⟨w.heap.size,3,none⟩) (by simp)).trans (World.cell?_alloc_mark w _ _ _ 3)
 have y4:w1.cell? ⟨w.heap.size,4,none⟩=some (.slice (some ⟨p2,q2,none⟩) b.effs.length ec):=(hb1.cell (p:=⟨w.heap.size,4,none⟩) (by simp)).trans (World.cell?_alloc_mark w _ _ _ 4)
 clear hb1
 go_wp2_with fail
 refine(zuz w w1 (.slice none 0 0) [] b p q (some ⟨p2,q2,none⟩) cc ec HB1.out hcc (OwnB.nil _ _) (by simp) hcl.2 hel.2).mono ?_
 rintro e w2 ⟨v2,rfl,hO2,hG2⟩
 have HG2:Hid (Grew w1 w2 (.slice none 0 0) v2):=hG2
 have HO2:Hid (OwnB w2 w.heap.size v2 (Wv.headB b)):=hO2
 replace y0:=HG2.out.cell (by simp [Value.ownBlock]) y0
 replace y1:=HG2.out.cell (by simp [Value.ownBlock]) y1
 replace y2:=HG2.out.cell (by simp [Value.ownBlock]) y2
 replace y3:=HG2.out.cell (by simp [Value.ownBlock]) y3
 replace y4:=HG2.out.cell (by simp [Value.ownBlock]) y4
 clear hO2 hG2
 go_wp2_with fail
 clear y0 y1 y2 y3 y4
 have HEL:Hid (∀e∈b.effs,(Wv.effB e).length<=500):=by
  show∀e∈b.effs,_
  rw [h'.out.effs]
  intro e he
  obtain⟨m,hm,rfl⟩:=List.mem_map.1 he
  exact Wv.effB_len _ (HOK.out m hm).2
 go_loopw [5,19] (fun t x wr=>∃k:Nat,k<=b.effs.length∧x=I k∧Hid (OwnB wr w.heap.size t (Wv.headB b++(b.effs.take k).flatMap Wv.effB))∧Hid (Grew w1 wr (.slice none 0 0) t)) (fun _ x _=>b.effs.length - (intOf x).toNat)
 case atStart=>exact⟨0,Nat.zero_le _,rfl,by simpa using HO2,HG2⟩
 case round=>
  obtain⟨k,hk,rfl,hok,hgk⟩:=hrel
  clear HG2 HO2
  have HBr:Hid (Below w.heap.size w wr):=HB1.out.trans (hgk.out.below (l:= []) (by omega) (OwnB.nil _ _))
  have hszr:w.heap.size<=wr.heap.size:=HBr.out.size
  have HLn:Hid ((Wv.headB b++(b.effs.take k).flatMap Wv.effB).length<=10000):=by
   show _<=_
   have h1:=Wv.effs_len (b.effs.take k) (fun e he=>HEL.out e (List.mem_of_mem_take he))
   have h2:=Wv.headB_len b
   simp only [List.length_append,List.length_take] at h1 ⊢
   omega
  by_cases hlt:k<b.effs.length
  ·have hlt':k<ms.length:=by rw [HL.out];exact hlt
   obtain⟨c0,c1,c2,c3,c4,c5,c6⟩:=hce.out k hlt'
   replace c0:=zaa HBr.out c0
   replace c1:=zaa HBr.out c1
   replace c2:=zaa HBr.out c2
   replace c3:=zaa HBr.out c3
   replace c4:=zaa HBr.out c4
   replace c5:=zaa HBr.out c5
   replace c6:=zaa HBr.out c6
   have hpr:=zad c0
   have HM:Hid (ms[k]∈ms∧(b.effs.take (k+1)).flatMap Wv.effB=(b.effs.take k).flatMap Wv.effB++Wv.effB ms[k].e):=by
    refine⟨List.getElem_mem _, ?_⟩
    rw [Wv.take_flat _ _ _ hlt]
    simp [h'.out.effs]
   generalize ms[k]=m at c0 c1 c2 c3 c4 c5 c6 HM
   generalize hL:Wv.headB b++(b.effs.take k).flatMap Wv.effB=L at hok HLn
   have HLL:Hid (Wv.headB b++(b.effs.take k).flatMap Wv.effB=L):=hL
   clear hL
   have HX:Hid (Below w.heap.size w (wr.alloc (.cells #[I m.e.op,I m.e.ob,I m.e.va,I m.e.ref.o,I m.e.ref.s,I m.e.ref.i, .slice m.da m.e.dots.length m.dc] 128))):=HBr.out.alloc hszr _
   go_wp2_with fail
   refine(zz6 w _ u5 L m eb ef g'.out HX.out (hok.out.alloc _) (by have:=HLn.out;omega) (HOK.out m HM.out.1).1 (h'.out.dots m HM.out.1) (HOK.out m HM.out.1).2).mono ?_
   rintro e w7 ⟨v7,rfl,hO7,hG7⟩
   have HO7:Hid (OwnB w7 w.heap.size v7 (L++Wv.effB m.e)):=hO7
   have HG7:Hid (Grew wr w7 u5 v7):=(Grew.new _ u5).trans hG7
   clear hO7 hG7
   go_wp2
   go_roundw
   case rel=>exact⟨k+1,by omega,by go_num,by rw [HM.out.2,←List.append_assoc,HLL.out];exact HO7,hgk.out.trans HG7.out⟩
   case measure=>simp [intOf];omega
  ·obtain rfl:k=b.effs.length:=by omega
   have HC:Hid (OwnB wr w.heap.size u5 (Wv.contentB b)):=by
    have:=hok.out
    rw [List.take_length] at this
    exact this
   have HCn:Hid ((Wv.contentB b).length<=10000∧1<=(Wv.contentB b).length):=by
    have h1:=HLn.out
    rw [List.take_length] at h1
    refine⟨h1, ?_⟩
    have:=Wv.headB_pos b
    simp only [Wv.contentB,List.length_append]
    omega
   obtain⟨gg,cap,hu⟩:=Joins.ownsRow_form HC.out (by have:=HCn.out.2;omega)
   subst hu
   clear hok HLn
   have hcn:=HCn.out
   go_wp2_with fail
   refine(zga (.slice none 0 0) [] _ w.heap.size wr hszr (OwnB.nil _ _) (by simp)).mono ?_
   rintro e w9 ⟨v9,rfl,hO9,hG9⟩
   have HX9:Hid (Below wr.heap.size wr w9):=hG9.below0
   have e9:(2+((Wv.contentB b).length:Int)+4)=((Wv.contentB b).length:Int)+6:=by omega
   rw [e9] at hO9
   have HO9:Hid (OwnB w9 w.heap.size v9 (Wv.be2 (((Wv.contentB b).length:Int)+6))):=hO9
   have HC9:Hid (OwnB w9 w.heap.size (.slice (some ⟨gg,0,none⟩) (Wv.contentB b).length cap) (Wv.contentB b)):=HC.out.kept HX9.out
   have HB9:Hid (Below w.heap.size w w9):=HBr.out.trans (HX9.out.mono hszr)
   obtain⟨g9,cap9,h9⟩:=Joins.ownsRow_form HO9.out (by simp [Wv.be2])
   have h9':v9= .slice (some ⟨g9,0,none⟩) 2 cap9:=h9
   subst h9'
   have hq1:=zi8 HO9.out
   have hq2:=zi8 HC9.out
   have h2:(Wv.be2 (((Wv.contentB b).length:Int)+6)).length=2:=rfl
   have hle:¬9223372036854775807<(Wv.be2 (((Wv.contentB b).length:Int)+6)).length+(Wv.contentB b).length:=by omega
   have hss:((⟨(Wv.be2 (((Wv.contentB b).length:Int)+6)).toArray⟩++⟨(Wv.contentB b).toArray⟩:ByteArray)).size<=1048576:=by
    rw [zfr]
    show(Wv.be2 (((Wv.contentB b).length:Int)+6)++Wv.contentB b).toArray.size<=_
    simp only [List.size_toArray,List.length_append]
    omega
   have HSS:Hid _:=hss
   have HFr:Hid ((⟨(((⟨(Wv.be2 (((Wv.contentB b).length:Int)+6)).toArray⟩++⟨(Wv.contentB b).toArray⟩:ByteArray)).data.toList++Wv.be4 (Wv.sum ((⟨(Wv.be2 (((Wv.contentB b).length:Int)+6)).toArray⟩++⟨(Wv.contentB b).toArray⟩:ByteArray)).data.toList:Nat)).toArray⟩:ByteArray)=⟨(Wv.frameB b).toArray⟩):=by
    show _=_
    rw [zfr]
    rfl
   clear hO9 hG9 e9 h9 h2 hss
   go_wp2_with (first | (go_at_call 131;refine(zgg _ _ HSS.out).mono ?_;rw [HFr.out];rintro e w10 ⟨rfl,hb10⟩))
   go_ret2
   exact⟨rfl,HB9.out.trans (hb10.mono (by have:=HB9.out.size;omega))⟩
theorem zzc(c:List UInt8)(k:Nat)(hk:k<c.length)(h:k<(⟨c.toArray⟩:ByteArray).size):(⟨c.toArray⟩:ByteArray)[k]=c.getD k 0:=by
 simp [ByteArray.getElem_eq_getElem_data,hk]
theorem zhw{w w':World}{row:Option Nat}(h:w.grownBy w' row)(n:Nat):w.grownBy (w'.drewN n) row:=⟨h.os,h.tape,h.output,h.size,h.block⟩
theorem zey{w w':World}{row:Option Nat}{n:Nat}(h:(w.drewN n).grownBy w' row):w.grownBy w' row:=⟨h.os,h.tape,h.output,h.size,h.block⟩
theorem zw8(c:List UInt8)(k:Nat)(g:Nat)(w:World)(h:Rd w g c (some k))(hk:k<c.length)(hc:c.length<=9223372036854775807):
  Calls Tryz.prog 188 #[.pointer (some ⟨g,0,none⟩)] w fun e w'=>e= .returned (I (c.getD k 0).toNat)∧Rd w' g c (some (k+1))∧w.grownBy w' (some g):=by
 have h':Hid (Blk w g #[.string ⟨c.toArray⟩,I k, .nilIface] 245):=h
 have c0:w.cell? ⟨g,0,none⟩=some (.string ⟨c.toArray⟩):=h'.out.cell 0
 have c1:w.cell? ⟨g,1,none⟩=some (I k):=h'.out.cell 1
 have c2:w.cell? ⟨g,2,none⟩=some .nilIface:=h'.out.cell 2
 have z1:=h'.out.frozen 1
 have hs:(⟨c.toArray⟩:ByteArray).size=c.length:=by simp [ByteArray.size]
 have hb:=Wv.byte_lt (c.getD k 0)
 clear h
 go_enter Tryz.func188,Tryz.ntmps188
 go_wp2
 go_quiet (fail)
 go_wp2
 go_quiet (fail)
 go_wp2
 go_ret
 exact⟨zbh (by rw [zzc c k hk];unfold wrap64;omega),h'.out.set 1 _,zhw (zey (zle _ _ _ _)) _⟩
theorem zzp(c:List UInt8)(k:Nat)(g:Nat)(w w0:World)(g0:Gd w0)(hb:Below w0.heap.size w0 w)(h:Rd w g c (some k))(hk:¬k<c.length):
  Calls Tryz.prog 188 #[.pointer (some ⟨g,0,none⟩)] w fun e w'=>e= .returned (I 0)∧Rd w' g c none∧w.grownBy w' (some g):=by
 have h':Hid (Blk w g #[.string ⟨c.toArray⟩,I k, .nilIface] 245):=h
 have c0:w.cell? ⟨g,0,none⟩=some (.string ⟨c.toArray⟩):=h'.out.cell 0
 have c1:w.cell? ⟨g,1,none⟩=some (I k):=h'.out.cell 1
 obtain⟨a,ha⟩:=g0.cut
 have ha:=zaa hb ha
 have hz:=zad ha
 have hs:(⟨c.toArray⟩:ByteArray).size=c.length:=by simp [ByteArray.size]
 clear h g0 hb
 go_enter Tryz.func188,Tryz.ntmps188
 go_wp2
 go_quiet (fail)
 go_wp2_with fail
 refine(zfb c k g _ _ (w.drewN nq) h'.out).mono ?_
 rintro e w1 ⟨rfl,⟨a1,n1,y1,hR⟩,hg⟩
 have HR:Hid (Blk w1 g #[.string ⟨c.toArray⟩,I a1,FltF n1 y1] 245):=hR
 have HG:Hid (w.grownBy w1 (some g)):=zey hg
 have c2:w1.cell? ⟨g,2,none⟩=some (FltF n1 y1):=hR.cell 2
 clear hR hg c0 c1 ha hz
 go_wp2
 go_ret
 exact⟨rfl,⟨_,_,_,HR.out⟩,HG.out⟩
theorem zw9(c:List UInt8)(g:Nat)(w w0:World)(g0:Gd w0)(hb:Below w0.heap.size w0 w)(h:Rd w g c none):
  Calls Tryz.prog 188 #[.pointer (some ⟨g,0,none⟩)] w fun e w'=>e= .returned (I 0)∧Rd w' g c none∧w.grownBy w' (some g):=by
 have HN:Hid (Rd w g c none):=h
 obtain⟨a,n,y,h⟩:=h
 have h':Hid (Blk w g #[.string ⟨c.toArray⟩,I a,FltF n y] 245):=h
 have c0:w.cell? ⟨g,0,none⟩=some (.string ⟨c.toArray⟩):=h'.out.cell 0
 have c1:w.cell? ⟨g,1,none⟩=some (I a):=h'.out.cell 1
 have c2:w.cell? ⟨g,2,none⟩=some (FltF n y):=h'.out.cell 2
 obtain⟨ad,ha⟩:=g0.cut
 have ha:=zaa hb ha
 have hz:=zad ha
 clear h g0 hb
 by_cases hk:(c.length:Int)<=a
 ·go_enter Tryz.func188,Tryz.ntmps188
  go_wp2
  go_quiet (fail)
  go_wp2_with fail
  refine(zfc c g _ (w.drewN nq) HN.out).mono ?_
  rintro e w1 ⟨rfl,⟨a1,n1,y1,hR⟩,hg⟩
  have HR:Hid (Blk w1 g #[.string ⟨c.toArray⟩,I a1,FltF n1 y1] 245):=hR
  have HG:Hid (w.grownBy w1 (some g)):=zey hg
  have c2:w1.cell? ⟨g,2,none⟩=some (FltF n1 y1):=hR.cell 2
  clear hR hg c0 c1 ha hz
  go_wp2
  go_ret
  exact⟨rfl,⟨_,_,_,HR.out⟩,HG.out⟩
 ·go_enter Tryz.func188,Tryz.ntmps188
  go_wp2
  go_quiet (fail)
  go_wp2
  go_ret
  exact⟨rfl,HN.out,zhw (zb8 _ _) _⟩
theorem zbp(c:List UInt8)(q:Wv.St)(g:Nat)(w w0:World)(g0:Gd w0)(hb:Below w0.heap.size w0 w)(h:Rd w g c q)(hc:c.length<=9223372036854775807):
  Calls Tryz.prog 188 #[.pointer (some ⟨g,0,none⟩)] w fun e w'=>e= .returned (I (Wv.one c q))∧Rd w' g c (Wv.nxt c q)∧w.grownBy w' (some g):=by
 cases q with
 | none=>exact zw9 c g w w0 g0 hb h
 | some k=>
  by_cases hk:k<c.length
  ·have:=zw8 c k g w h hk hc
   simp only [Wv.one,Wv.nxt,hk,if_true]
   exact this
  ·have:=zzp c k g w w0 g0 hb h hk
   simp only [Wv.one,Wv.nxt,hk,if_false]
   exact this
theorem zav{w w' w2:World}{row:Option Nat}(h:w.grownBy w' row)(h2:w'.grownBy w2 row):w.grownBy w2 row:=
 ⟨h2.os.trans h.os,h2.tape.trans h.tape,h2.output.trans h.output,Nat.le_trans h.size h2.size,fun k hk hr=>(h2.block k (Nat.lt_of_lt_of_le hk h.size) hr).trans (h.block k hk hr)⟩
theorem za6{w0 w w':World}{g:Nat}(h:Below w0.heap.size w0 w)(hg:w.grownBy w' (some g))(hw:w0.heap.size<=g):Below w0.heap.size w0 w':=
 h.grown hg h.size (fun k e=>by cases e;exact hw)
theorem zzo(a b:Int)(h1:0<=a)(h2:a<=255)(h3:0<=b)(h4:b<=255):bits BinOp.or IntKind.i64 (a*256) b=256*a+b:=by
 obtain⟨x,rfl⟩:=Int.eq_ofNat_of_zero_le h1
 obtain⟨y,rfl⟩:=Int.eq_ofNat_of_zero_le h3
 have e:((x:Int)*256)=((x*256:Nat):Int):=by omega
 have k:x*256 ||| y=x*256+y:=by
  have:=Nat.shiftLeft_add_eq_or_of_lt (b:=y) (i:=8) (by omega) x
  rw [Nat.shiftLeft_eq] at this
  exact this.symm
 rw [e]
 show IntKind.i64.wrap ((BitVec.ofInt 64 ((x*256:Nat):Int) ||| BitVec.ofInt 64 ((y:Nat):Int)).toNat:Int)=_
 rw [BitVec.toNat_or,BitVec.ofInt_natCast,BitVec.ofInt_natCast,BitVec.toNat_ofNat,BitVec.toNat_ofNat,Nat.mod_eq_of_lt (by omega),Nat.mod_eq_of_lt (by omega),k,IntKind.wrap_i64]
 omega
theorem zds(c:List UInt8)(q:Wv.St)(g:Nat)(w w0:World)(g0:Gd w0)(hb:Below w0.heap.size w0 w)(hg:w0.heap.size<=g)(h:Rd w g c q)(hc:c.length<=9223372036854775807):
  Calls Tryz.prog 187 #[.pointer (some ⟨g,0,none⟩)] w fun e w'=>e= .returned (I (Wv.two true c q))∧Rd w' g c (Wv.nxt2 c q)∧w.grownBy w' (some g):=by
 have h':Hid (Rd w g c q):=h
 have HB:Hid (Below w0.heap.size w0 w):=hb
 have G0:Hid (Gd w0):=g0
 have HT:Hid (Wv.two true c q=256*Wv.one c q+Wv.one c (Wv.nxt c q)):=by show _=_;simp [Wv.two]
 obtain⟨a1,a2⟩:=Wv.one_lt c q
 obtain⟨b1,b2⟩:=Wv.one_lt c (Wv.nxt c q)
 have hw:wrap64 (Wv.one c q*256)=Wv.one c q*256:=by unfold wrap64;omega
 have ho:=zzo _ _ a1 a2 b1 b2
 clear h hb g0
 go_enter Tryz.func187,Tryz.ntmps187
 go_wp2_with fail
 refine(zbp c q g _ w0 G0.out HB.out h'.out hc).mono ?_
 rintro e w1 ⟨rfl,hR,hG⟩
 have HR:Hid (Rd w1 g c (Wv.nxt c q)):=hR
 have HG:Hid (w.grownBy w1 (some g)):=hG
 have HB1:Hid (Below w0.heap.size w0 w1):=za6 HB.out hG hg
 clear hR hG
 go_wp2_with fail
 refine(zbp c _ g _ w0 G0.out HB1.out HR.out hc).mono ?_
 rintro e w2 ⟨rfl,hR2,hG2⟩
 have HR2:Hid (Rd w2 g c (Wv.nxt2 c q)):=hR2
 have HG2:Hid (w.grownBy w2 (some g)):=zav HG.out hG2
 clear hR2 hG2
 go_wp2
 go_ret
 exact⟨zbh HT.out.symm,HR2.out,HG2.out⟩
theorem zdz{w w':World}{o:Obj}{row:Option Nat}(h:(w.alloc o).grownBy w' row):w.grownBy w' row:=
 ⟨h.os,h.tape,h.output,Nat.le_trans (by simp) h.size,fun k hk hr=>(h.block k (by simp;omega) hr).trans (Below.heap_alloc w o k hk)⟩
theorem zap{w w':World}{row:Option Nat}(h:w.grownBy w' row){a:Addr}(ha:w.heap.size<=a.block)(u:Value):w.grownBy (w'.setCell a u) row:=
 ⟨h.os,h.tape,h.output,Nat.le_trans h.size (by simp [World.setCell]),fun k hk hr=>(heap_setCell_other w' a k u (by omega)).trans (h.block k hk hr)⟩
theorem Rd.other{w:World}{g:Nat}{c:List UInt8}{q:Wv.St}(h:Rd w g c q){a:Addr}(ha:g ≠ a.block)(u:Value):Rd (w.setCell a u) g c q:=by
 cases q with
 | some k=>exact Blk.other h ha u
 | none=>obtain⟨b,n,y,h⟩:=h;exact⟨b,n,y,Blk.other h ha u⟩
theorem Rd.alloc{w:World}{g:Nat}{c:List UInt8}{q:Wv.St}(h:Rd w g c q)(o:Obj):Rd (w.alloc o) g c q:=by
 cases q with
 | some k=>exact Blk.alloc h o
 | none=>obtain⟨b,n,y,h⟩:=h;exact⟨b,n,y,Blk.alloc h o⟩
theorem zk3(c:List UInt8)(q:Wv.St)(g:Nat)(w w0:World)(g0:Gd w0)(hb:Below w0.heap.size w0 w)(hg:w0.heap.size<=g)(h:Rd w g c q)(hc:c.length<=9223372036854775807):
  Calls Tryz.prog 205 #[.pointer (some ⟨g,0,none⟩)] w fun e w'=>e= .returned (dotV (Wv.dotR c q))∧Rd w' g c (Wv.nxt3 c q)∧w.grownBy w' (some g):=by
 have hlt:=h.lt
 have hne:g ≠ w.heap.size:=by omega
 have h':Hid (Rd (w.alloc (.cells #[.int .i64 0, .int .i64 0, .int .i64 0] 125)) g c q):=h.alloc _
 have HB:Hid (Below w0.heap.size w0 (w.alloc (.cells #[.int .i64 0, .int .i64 0, .int .i64 0] 125))):=hb.alloc hb.size _
 have HK:Hid (Blk (w.alloc (.cells #[.int .i64 0, .int .i64 0, .int .i64 0] 125)) w.heap.size #[.int .i64 0, .int .i64 0, .int .i64 0] 125):=heap_alloc_new w _
 have G0:Hid (Gd w0):=g0
 clear h hb g0
 go_enter Tryz.func205,Tryz.ntmps205
 go_wp2_with fail
 refine(zbp c q g _ w0 G0.out HB.out h'.out hc).mono ?_
 rintro e w1 ⟨rfl,hR,hG⟩
 have HR:Hid (Rd w1 g c (Wv.nxt c q)):=hR
 have HG:Hid ((w.alloc (.cells #[.int .i64 0, .int .i64 0, .int .i64 0] 125)).grownBy w1 (some g)):=hG
 have HB1:Hid (Below w0.heap.size w0 w1):=za6 HB.out hG hg
 clear hR hG
 go_wp2_with fail
 refine(zbp c _ g _ w0 G0.out HB1.out HR.out hc).mono ?_
 rintro e w2 ⟨rfl,hR2,hG2⟩
 have HR2:Hid (Rd w2 g c (Wv.nxt2 c q)):=hR2
 have HG2:Hid ((w.alloc (.cells #[.int .i64 0, .int .i64 0, .int .i64 0] 125)).grownBy w2 (some g)):=zav HG.out hG2
 have HB2:Hid (Below w0.heap.size w0 w2):=za6 HB1.out hG2 hg
 clear hR2 hG2
 go_wp2_with fail
 refine(zbp c _ g _ w0 G0.out HB2.out HR2.out hc).mono ?_
 rintro e w3 ⟨rfl,hR3,hG3⟩
 have HR3:Hid (Rd w3 g c (Wv.nxt3 c q)):=hR3
 have HG3:Hid ((w.alloc (.cells #[.int .i64 0, .int .i64 0, .int .i64 0] 125)).grownBy w3 (some g)):=zav HG2.out hG3
 have HK3:Hid (Blk w3 w.heap.size #[.int .i64 0, .int .i64 0, .int .i64 0] 125):=HK.out.grown HG3.out (by simp;omega)
 have d0:w3.cell? ⟨w.heap.size,0,none⟩=some (.int .i64 0):=HK3.out.cell 0
 have d1:w3.cell? ⟨w.heap.size,1,none⟩=some (.int .i64 0):=HK3.out.cell 1
 have d2:w3.cell? ⟨w.heap.size,2,none⟩=some (.int .i64 0):=HK3.out.cell 2
 have z0:=HK3.out.frozen 0
 have z1:=HK3.out.frozen 1
 have z2:=HK3.out.frozen 2
 clear hR3 hG3
 go_wp2
 have HF:Hid (Blk (((w3.setCell ⟨w.heap.size,0,none⟩ (I (Wv.one c q))).setCell ⟨w.heap.size,1,none⟩ (I (Wv.one c (Wv.nxt c q)))).setCell ⟨w.heap.size,2,none⟩ (I (Wv.one c (Wv.nxt2 c q)))) w.heap.size #[I (Wv.one c q),I (Wv.one c (Wv.nxt c q)),I (Wv.one c (Wv.nxt2 c q))] 125):=((HK3.out.set 0 _).set 1 _).set 2 _
 have HZ:Hid (Rd (((w3.setCell ⟨w.heap.size,0,none⟩ (I (Wv.one c q))).setCell ⟨w.heap.size,1,none⟩ (I (Wv.one c (Wv.nxt c q)))).setCell ⟨w.heap.size,2,none⟩ (I (Wv.one c (Wv.nxt2 c q)))) g c (Wv.nxt3 c q)):=((HR3.out.other hne _).other hne _).other hne _
 have HY:Hid (w.grownBy (((w3.setCell ⟨w.heap.size,0,none⟩ (I (Wv.one c q))).setCell ⟨w.heap.size,1,none⟩ (I (Wv.one c (Wv.nxt c q)))).setCell ⟨w.heap.size,2,none⟩ (I (Wv.one c (Wv.nxt2 c q)))) (some g)):=zap (zap (zap (zdz HG3.out) (Nat.le_refl _) _) (Nat.le_refl _) _) (Nat.le_refl _) _
 generalize (((w3.setCell ⟨w.heap.size,0,none⟩ (I (Wv.one c q))).setCell ⟨w.heap.size,1,none⟩ (I (Wv.one c (Wv.nxt c q)))).setCell ⟨w.heap.size,2,none⟩ (I (Wv.one c (Wv.nxt2 c q))))=wF at *
 have f0:wF.cell? ⟨w.heap.size,0,none⟩=some (I (Wv.one c q)):=HF.out.cell 0
 have f1:wF.cell? ⟨w.heap.size,1,none⟩=some (I (Wv.one c (Wv.nxt c q))):=HF.out.cell 1
 have f2:wF.cell? ⟨w.heap.size,2,none⟩=some (I (Wv.one c (Wv.nxt2 c q))):=HF.out.cell 2
 refine bodyPost_ret (v:=dotV (Wv.dotR c q)) (by simp [results,Tryz.results205,go_sem,f0,f1,f2];exact⟨rfl,rfl,rfl⟩) rfl ⟨rfl,HZ.out,HY.out⟩
theorem zya(c:List UInt8)(q:Wv.St)(g:Nat)(T:TypeId)(x:Value)(w:World)(h:Rd w g c q):
  Calls Tryz.prog 165 #[.pointer (some ⟨g,0,none⟩), .iface T x] w fun e w'=>e= .returned (.tuple #[])∧Rd w' g c none∧w.grownBy w' (some g):=by
 cases q with
 | some k=>exact zfb c k g T x w h
 | none=>exact zfc c g _ w h
theorem zsu(c:List UInt8)(q:Wv.St)(g:Nat)(w:World)(h:Rd w g c q):
  Calls Tryz.prog 165 #[.pointer (some ⟨g,0,none⟩), .nilIface] w fun e w'=>e= .returned (.tuple #[])∧Rd w' g c q∧w.grownBy w' (some g):=by
 cases q with
 | some k=>exact zx9 c k g w h
 | none=>exact zfc c g _ w h
abbrev eff0:Array Value:= #[.int .i64 0, .int .i64 0, .int .i64 0, .int .i64 0, .int .i64 0, .int .i64 0, .slice none 0 0]
structure Ew(w w0 wi:World)(g E:Nat)(c:List UInt8)(q:Wv.St)(es:Array Value):Prop where
 rd:Rd wi g c q
 grown:w.grownBy wi (some g)
 below:Below w0.heap.size w0 wi
 kR:Blk wi w.heap.size eff0 128
 kE:Blk wi E es 128
 lt:w.heap.size<E
 lg:g<w.heap.size
 gg:w0.heap.size<=g
theorem Ew.kept{w w0 wi wj:World}{g E:Nat}{c:List UInt8}{q:Wv.St}{es:Array Value}(h:Ew w w0 wi g E c q es)(hb:Below wi.heap.size wi wj):Ew w w0 wj g E c q es:=
 ⟨h.rd.kept hb h.rd.lt,zav h.grown ⟨hb.os,hb.tape,hb.output,hb.size,fun k hk _=>hb.block k hk⟩,h.below.trans (hb.mono h.below.size),h.kR.kept hb h.kR.lt,h.kE.kept hb h.kE.lt,h.lt,h.lg,h.gg⟩
theorem Ew.alloc{w w0 wi:World}{g E:Nat}{c:List UInt8}{q:Wv.St}{es:Array Value}(h:Ew w w0 wi g E c q es)(o:Obj):Ew w w0 (wi.alloc o) g E c q es:=
 h.kept ((Below.refl _ _).alloc (Nat.le_refl _) _)
theorem Ew.read{w w0 wi wj:World}{g E:Nat}{c:List UInt8}{q q':Wv.St}{es:Array Value}(h:Ew w w0 wi g E c q es)(hg:wi.grownBy wj (some g))(hr:Rd wj g c q'):Ew w w0 wj g E c q' es:=
 ⟨hr,zav h.grown hg,za6 h.below hg h.gg,h.kR.grown hg (by have:=h.lg;simp;omega),h.kE.grown hg (by have:=h.lg;have:=h.lt;simp;omega),h.lt,h.lg,h.gg⟩
theorem Ew.set{w w0 wi:World}{g E:Nat}{c:List UInt8}{q:Wv.St}{es:Array Value}(h:Ew w w0 wi g E c q es)(j:Nat)(u:Value):Ew w w0 (wi.setCell ⟨E,j,none⟩ u) g E c q (es.setIfInBounds j u):=
 ⟨h.rd.other (by have:=h.lg;have:=h.lt;show g ≠ E;omega) u,zap h.grown (by have:=h.lt;show w.heap.size<=E;omega) u,h.below.setCell (by have:=h.lt;have:=h.lg;have:=h.gg;show w0.heap.size<=E;omega) u,h.kR.other (by have:=h.lt;show w.heap.size ≠ E;omega) u,h.kE.set j u,h.lt,h.lg,h.gg⟩
theorem Ew.begin{w w0 w3:World}{g:Nat}{c:List UInt8}{q:Wv.St}(h1:Rd w3 g c q)(h2:w.grownBy w3 (some g))(h3:Below w0.heap.size w0 w3)(h4:Blk w3 w.heap.size eff0 128)(h5:g<w.heap.size)(h6:w0.heap.size<=g)(es:Array Value):
  Ew w w0 (w3.alloc (.cells es 128)) g w3.heap.size c q es:=
 ⟨h1.alloc _,zav h2 (zdz (zb8 _ _)),h3.alloc h3.size _,h4.alloc _,heap_alloc_new w3 _,h4.lt,h5,h6⟩
abbrev put7 (w:World) (R:Nat) (a0 a1 a2 a3 a4 a5 a6:Value):World:=((((((w.setCell ⟨R,0,none⟩ a0).setCell ⟨R,1,none⟩ a1).setCell ⟨R,2,none⟩ a2).setCell ⟨R,3,none⟩ a3).setCell ⟨R,4,none⟩ a4).setCell ⟨R,5,none⟩ a5).setCell ⟨R,6,none⟩ a6
theorem ze5(w:World)(R:Nat)(a0 a1 a2 a3 a4 a5 a6:Value)(k:Nat)(h:k ≠ R):(put7 w R a0 a1 a2 a3 a4 a5 a6).heap[k]?=w.heap[k]?:=by
 unfold put7
 rw [heap_setCell_other _ ⟨R,6,none⟩ k _ h,heap_setCell_other _ ⟨R,5,none⟩ k _ h,heap_setCell_other _ ⟨R,4,none⟩ k _ h,heap_setCell_other _ ⟨R,3,none⟩ k _ h,heap_setCell_other _ ⟨R,2,none⟩ k _ h,heap_setCell_other _ ⟨R,1,none⟩ k _ h,heap_setCell_other _ ⟨R,0,none⟩ k _ h]
theorem zgk{w:World}{R:Nat}(h:Blk w R eff0 128)(a0 a1 a2 a3 a4 a5 a6:Value):Blk (put7 w R a0 a1 a2 a3 a4 a5 a6) R #[a0,a1,a2,a3,a4,a5,a6] 128:=
 ((((((h.set 0 a0).set 1 a1).set 2 a2).set 3 a3).set 4 a4).set 5 a5).set 6 a6
theorem Ew.fin{w w0 wi:World}{g E:Nat}{c:List UInt8}{q:Wv.St}{es:Array Value}(h:Ew w w0 wi g E c q es)(a0 a1 a2 a3 a4 a5 a6:Value):
  Rd (put7 wi w.heap.size a0 a1 a2 a3 a4 a5 a6) g c q∧w.grownBy (put7 wi w.heap.size a0 a1 a2 a3 a4 a5 a6) (some g):=by
 have hl:=h.lg
 refine⟨?_, ?_⟩
 ·unfold put7
  exact((((((h.rd.other (by show g ≠ w.heap.size;omega) _).other (by show g ≠ w.heap.size;omega) _).other (by show g ≠ w.heap.size;omega) _).other (by show g ≠ w.heap.size;omega) _).other (by show g ≠ w.heap.size;omega) _).other (by show g ≠ w.heap.size;omega) _).other (by show g ≠ w.heap.size;omega) _
 ·unfold put7
  exact zap (zap (zap (zap (zap (zap (zap h.grown (Nat.le_refl _) _) (Nat.le_refl _) _) (Nat.le_refl _) _) (Nat.le_refl _) _) (Nat.le_refl _) _) (Nat.le_refl _) _) (Nat.le_refl _) _
theorem Rd.drew{w:World}{g:Nat}{c:List UInt8}{q:Wv.St}(h:Rd w g c q):Rd w.drew g c q:=by
 cases q with
 | some k=>exact Blk.drew h
 | none=>obtain⟨b,n,y,h⟩:=h;exact⟨b,n,y,Blk.drew h⟩
theorem Ew.drew{w w0 wi:World}{g E:Nat}{c:List UInt8}{q:Wv.St}{es:Array Value}(h:Ew w w0 wi g E c q es):Ew w w0 wi.drew g E c q es:=
 ⟨h.rd.drew,⟨h.grown.os,h.grown.tape,h.grown.output,h.grown.size,h.grown.block⟩,h.below.drew,h.kR.drew,h.kE.drew,h.lt,h.lg,h.gg⟩
theorem Ew.grow{w w0 wi wj:World}{g E:Nat}{c:List UInt8}{q:Wv.St}{es:Array Value}{row:Option Nat}(h:Ew w w0 wi g E c q es)(hg:wi.grownBy wj row)(hr:∀b,row=some b->E<b):Ew w w0 wj g E c q es:=by
 have h1:=h.lt
 have h2:=h.lg
 have h3:=h.gg
 have ne:∀k,k<=E->some k ≠ row:=fun k hk e=>by have:=hr k e.symm;omega
 exact⟨h.rd.grown hg (ne _ (by omega)),⟨hg.os.trans h.grown.os,hg.tape.trans h.grown.tape,hg.output.trans h.grown.output,Nat.le_trans h.grown.size hg.size,fun k hk hk2=>(hg.block k (Nat.lt_of_lt_of_le hk h.grown.size) (ne _ (by omega))).trans (h.grown.block k hk hk2)⟩,
  h.below.grown hg h.below.size (fun k e=>by have:=hr k e;omega),h.kR.grown hg (ne _ (by omega)),h.kE.grown hg (ne _ (by omega)),h.lt,h.lg,h.gg⟩
theorem zev{w:World}{base base':Nat}{e:TypeId}{size n:Nat}{v:Value}{xs:List Value}(h:w.ownsRow base e size v n xs)(hb:base'<=base):w.ownsRow base' e size v n xs:=by
 refine⟨h.1, ?_⟩
 rcases h.2 with h2 | ⟨g,cap,cur,rfl,hbg,r⟩
 ·exact .inl h2
 ·exact .inr ⟨g,cap,cur,rfl,Nat.le_trans hb hbg,r⟩
theorem infoDt:(Tryz.prog.info? 125).map (fun i=>(i.zero,i.size,i.bytes))=some (some (.agg #[.int .i64 0, .int .i64 0, .int .i64 0]),3,24):=by kernel_rfl
theorem dot_one(d:Wv.Dt):∀u∈ [I d.o,I d.s,I d.i],u.oneCell'=true:=by
 intro u hu
 simp only [List.mem_cons,List.mem_nil_iff,or_false] at hu
 rcases hu with rfl | rfl | rfl<;>rfl
theorem zli{α:Type}(f:α->List Value)(l:List α)(x:α):flat f (l++ [x])=flat f l++f x:=by
 induction l with
 | nil=>simp [flat]
 | cons y l ih=>simp only [List.cons_append,flat,ih,List.append_assoc]
theorem zv9(n:Int)(h1:0<=n)(h2:n<=65535):wrap64 (IntKind.i16.wrap n)=Wv.v16 n:=by
 simp only [IntKind.wrap,IntKind.bits,IntKind.signed,wrap64,Wv.v16]
 simp
 split<;>split<;>omega
end Go.Proofs.YtfmcngncaffloabGreatDoor
