import Derived.Test.YtfmcngncaffloaaGreatDoorG39REnc
import Derived.Deep.RegionWith
set_option maxHeartbeats 6400000
namespace Go.Proofs.YtfmcngncaffloaaGreatDoor
open Go.RowKit
set_option maxRecDepth 100000
theorem zpc(b:Wv.Bt)(cc ec p q p2 q2:Nat)(ms:List Em)(w:World)(h:BatAt w b (some ⟨p,q,none⟩) (some ⟨p2,q2,none⟩) ms)(hb:Wv.isB b=true)(hcl:b.clock.length<=4)(hel:1<=b.effs.length∧b.effs.length<=5)
  (hcc:Hid (∀j u,(b.clock.map I)[j]?=some u->w.cell? ⟨p,q+j,none⟩=some u)) (hce:Hid (zzp w p2 q2 ms)):
  Calls Tryz.prog 173 #[bV b (some ⟨p,q,none⟩) (some ⟨p2,q2,none⟩) cc ec] w fun e w'=>e= .returned (.tuple #[.string ⟨(Wv.frameB b).toArray⟩,I 0])∧Below w.heap.size w w':=by
 have h':Hid (BatAt w b (some ⟨p,q,none⟩) (some ⟨p2,q2,none⟩) ms):=h
 have HF:Hid (Wv.isB b=true):=hb
 have HOK:Hid (∀m∈ms,(1<=m.e.op∧m.e.op<=6)∧m.e.dots.length<=150):=znk b ms h.effs hb
 have HML:Hid (ms.length=b.effs.length):=by show ms.length=b.effs.length;rw [h.effs];simp
 have HB:Hid (Below w.heap.size w (w.alloc (.cells #[I b.o,I b.s,I b.t, .slice (some ⟨p,q,none⟩) b.clock.length cc, .slice (some ⟨p2,q2,none⟩) b.effs.length ec] 124))):=(Below.refl _ _).alloc (Nat.le_refl _) _
 have l1:∀n,(Wv.be1 n).length=1:=Wv.be1_len
 obtain⟨hel0,hel1⟩:=hel
 have hcl':(b.clock.length:Int)<=4:=by omega
 clear h hb
 go_enter Tryz.func173,Tryz.ntmps173
 go_wp2_with fail
 refine(znj b (some ⟨p,q,none⟩) (some ⟨p2,q2,none⟩) cc ec ms _ (h'.out.kept HB.out) (by omega)).mono ?_
 rw [HF.out]
 rintro e w1 ⟨rfl,hb1⟩
 have HC0:Hid (Below (w.heap.size+1) (w.alloc (.cells #[I b.o,I b.s,I b.t, .slice (some ⟨p,q,none⟩) b.clock.length cc, .slice (some ⟨p2,q2,none⟩) b.effs.length ec] 124)) w1):=hb1.mono (by simp)
 have hszw1:w.heap.size<w1.heap.size:=by have:=hb1.size;simp at this;omega
 have y0:w1.cell? ⟨w.heap.size,0,none⟩=some (I b.o):=(HC0.out.cell (p:=⟨w.heap.size,0,none⟩) (by simp)).trans (World.cell?_alloc_mark w _ _ _ 0)
 have y1:w1.cell? ⟨w.heap.size,1,none⟩=some (I b.s):=(HC0.out.cell (p:=⟨w.heap.size,1,none⟩) (by simp)).trans (World.cell?_alloc_mark w _ _ _ 1)
 have y2:w1.cell? ⟨w.heap.size,2,none⟩=some (I b.t):=(HC0.out.cell (p:=⟨w.heap.size,2,none⟩) (by simp)).trans (World.cell?_alloc_mark w _ _ _ 2)
 have y3:w1.cell? ⟨w.heap.size,3,none⟩=some (.slice (some ⟨p,q,none⟩) b.clock.length cc):=(HC0.out.cell (p:=⟨w.heap.size,3,none⟩) (by simp)).trans (World.cell?_alloc_mark w _ _ _ 3)
 have y4:w1.cell? ⟨w.heap.size,4,none⟩=some (.slice (some ⟨p2,q2,none⟩) b.effs.length ec):=(HC0.out.cell (p:=⟨w.heap.size,4,none⟩) (by simp)).trans (World.cell?_alloc_mark w _ _ _ 4)
 clear hb1
 go_wp2_with fail
 go_region_held3 (fun w'=>w'.cell? ⟨w.heap.size,0,none⟩=some (I b.o)∧w'.cell? ⟨w.heap.size,1,none⟩=some (I b.s)∧w'.cell? ⟨w.heap.size,2,none⟩=some (I b.t)∧w'.cell? ⟨w.heap.size,3,none⟩=some (.slice (some ⟨p,q,none⟩) b.clock.length cc)) (first | go_keep | (refine⟨zaa hb ?_,zaa hb ?_,zaa hb ?_,zaa hb ?_⟩<;>go_keep))
  (first | (go_at_call_of 145 (Value.int IntKind.i64 1);refine(zf9 _ _).mono ?_;rintro e w' ⟨rfl,hb⟩;have HC:Hid (Below (w.heap.size+1) (w.alloc (.cells #[I b.o,I b.s,I b.t, .slice (some ⟨p,q,none⟩) b.clock.length cc, .slice (some ⟨p2,q2,none⟩) b.effs.length ec] 124)) w'):=(by first | exact HC.out.trans (hb.mono (by have:=HC.out.size;simp at this;omega)) | exact(Below.drew HC0.out).trans (hb.mono (by have:=(Below.drew HC0.out).size;simp at this;simp;omega)))))
 go_wp2_with fail
 generalize hS:((⟨(Wv.be1 b.o).toArray⟩++⟨(Wv.be1 b.s).toArray⟩++⟨(Wv.be1 b.t).toArray⟩++⟨(Wv.be1 b.clock.length).toArray⟩:ByteArray))=S
 have HS:Hid (S=⟨(Wv.hd4 b).toArray⟩):=by
  show S=_
  rw [←hS,zap,zap,zap];rfl
 clear hS
 generalize ((⟨(Wv.be1 b.o).toArray⟩++⟨(Wv.be1 b.s).toArray⟩++⟨(Wv.be1 b.t).toArray⟩:ByteArray))=s3
 generalize ((⟨(Wv.be1 b.o).toArray⟩++⟨(Wv.be1 b.s).toArray⟩:ByteArray))=s2
 generalize ((⟨(Wv.be1 b.o).toArray⟩:ByteArray))=t1
 generalize ((⟨(Wv.be1 b.s).toArray⟩:ByteArray))=t2
 generalize ((⟨(Wv.be1 b.t).toArray⟩:ByteArray))=t3
 generalize ((⟨(Wv.be1 b.clock.length).toArray⟩:ByteArray))=t4
 clear y0 y1 y2 y3 y4
 go_loopw [5,6] (fun t x wr=>∃k:Nat,k<=b.clock.length∧x=I k∧t= .string ⟨(Wv.hd4 b++(b.clock.take k).flatMap Wv.be1).toArray⟩∧Hid (Below (w.heap.size+1) (w.alloc (.cells #[I b.o,I b.s,I b.t, .slice (some ⟨p,q,none⟩) b.clock.length cc, .slice (some ⟨p2,q2,none⟩) b.effs.length ec] 124)) wr)) (fun _ x _=>b.clock.length - (intOf x).toNat)
 case atStart=>exact⟨0,Nat.zero_le _,rfl,by rw [HS.out];simp,HC⟩
 case round=>
  obtain⟨k,hk,rfl,rfl,hbk⟩:=hrel
  clear HC HC0
  have HBr:Hid (Below w.heap.size w wr):=((Below.refl _ _).alloc (Nat.le_refl _) _).trans (hbk.out.mono (by omega))
  have hszr:w.heap.size<wr.heap.size:=by have:=hbk.out.size;simp at this;omega
  have y0:wr.cell? ⟨w.heap.size,0,none⟩=some (I b.o):=(hbk.out.cell (p:=⟨w.heap.size,0,none⟩) (by simp)).trans (World.cell?_alloc_mark w _ _ _ 0)
  have y1:wr.cell? ⟨w.heap.size,1,none⟩=some (I b.s):=(hbk.out.cell (p:=⟨w.heap.size,1,none⟩) (by simp)).trans (World.cell?_alloc_mark w _ _ _ 1)
  have y2:wr.cell? ⟨w.heap.size,2,none⟩=some (I b.t):=(hbk.out.cell (p:=⟨w.heap.size,2,none⟩) (by simp)).trans (World.cell?_alloc_mark w _ _ _ 2)
  have y3:wr.cell? ⟨w.heap.size,3,none⟩=some (.slice (some ⟨p,q,none⟩) b.clock.length cc):=(hbk.out.cell (p:=⟨w.heap.size,3,none⟩) (by simp)).trans (World.cell?_alloc_mark w _ _ _ 3)
  have y4:wr.cell? ⟨w.heap.size,4,none⟩=some (.slice (some ⟨p2,q2,none⟩) b.effs.length ec):=(hbk.out.cell (p:=⟨w.heap.size,4,none⟩) (by simp)).trans (World.cell?_alloc_mark w _ _ _ 4)
  have hLn:(Wv.hd4 b++(b.clock.take k).flatMap Wv.be1).length<=100:=by
   have h1:=Wv.flat1_len (b.clock.take k)
   have h2:(Wv.hd4 b).length=4:=rfl
   simp only [List.length_append,h1,h2,List.length_take]
   omega
  by_cases hlt:k<b.clock.length
  ·have c1:wr.cell? ⟨p,q+k,none⟩=some (I (b.clock.getD k 0)):=zaa HBr.out (hcc.out _ _ (zh5 b.clock _ hlt))
   have hki:(k:Int)<(b.clock.length:Int):=by omega
   have HT:Hid ((b.clock.take (k+1)).flatMap Wv.be1=(b.clock.take k).flatMap Wv.be1++Wv.be1 (b.clock.getD k 0)):=by
    show _=_
    rw [Wv.take_flat _ _ _ hlt];simp [hlt]
   generalize b.clock.getD k 0=z at c1 HT
   have HL:Hid (Wv.hd4 b++(b.clock.take (k+1)).flatMap Wv.be1=(Wv.hd4 b++(b.clock.take k).flatMap Wv.be1)++Wv.be1 z):=by show _=_;rw [HT.out,List.append_assoc]
   generalize Wv.hd4 b++(b.clock.take k).flatMap Wv.be1=L at hLn HL ⊢
   have hcat:¬9223372036854775807<L.length+(Wv.be1 z).length:=by rw [Wv.be1_len];omega
   go_wp2_with (first | (go_at_call 145;refine(zf9 _ _).mono ?_;rintro e w2 ⟨rfl,hb2⟩))
   go_roundw
   case rel=>exact⟨k+1,by omega,by go_num,by rw [HL.out,zap],hbk.out.trans (hb2.mono (by omega))⟩
   case measure=>simp [intOf];omega
  ·obtain rfl:k=b.clock.length:=by omega
   have HH:Hid (Wv.headB b=(Wv.hd4 b++(b.clock.take b.clock.length).flatMap Wv.be1)++Wv.be1 b.effs.length):=by show _=_;rw [List.take_length];rfl
   generalize Wv.hd4 b++(b.clock.take b.clock.length).flatMap Wv.be1=L at hLn HH ⊢
   have hcat:¬9223372036854775807<L.length+(Wv.be1 b.effs.length).length:=by rw [Wv.be1_len];omega
   go_wp2_with fail
   refine(zf9 _ _).mono ?_
   rintro e w2 ⟨rfl,hb2⟩
   have HC2:Hid (Below (w.heap.size+1) (w.alloc (.cells #[I b.o,I b.s,I b.t, .slice (some ⟨p,q,none⟩) b.clock.length cc, .slice (some ⟨p2,q2,none⟩) b.effs.length ec] 124)) w2):=hbk.out.trans (hb2.mono (by omega))
   clear hb2 hbk HBr hszr y0 y1 y2 y3 y4
   have y0:w2.cell? ⟨w.heap.size,0,none⟩=some (I b.o):=(HC2.out.cell (p:=⟨w.heap.size,0,none⟩) (by simp)).trans (World.cell?_alloc_mark w _ _ _ 0)
   have y1:w2.cell? ⟨w.heap.size,1,none⟩=some (I b.s):=(HC2.out.cell (p:=⟨w.heap.size,1,none⟩) (by simp)).trans (World.cell?_alloc_mark w _ _ _ 1)
   have y2:w2.cell? ⟨w.heap.size,2,none⟩=some (I b.t):=(HC2.out.cell (p:=⟨w.heap.size,2,none⟩) (by simp)).trans (World.cell?_alloc_mark w _ _ _ 2)
   have y3:w2.cell? ⟨w.heap.size,3,none⟩=some (.slice (some ⟨p,q,none⟩) b.clock.length cc):=(HC2.out.cell (p:=⟨w.heap.size,3,none⟩) (by simp)).trans (World.cell?_alloc_mark w _ _ _ 3)
   have y4:w2.cell? ⟨w.heap.size,4,none⟩=some (.slice (some ⟨p2,q2,none⟩) b.effs.length ec):=(HC2.out.cell (p:=⟨w.heap.size,4,none⟩) (by simp)).trans (World.cell?_alloc_mark w _ _ _ 4)
   go_wp2_with fail
   rw [zap,←HH.out]
   clear HH hcat hLn y0 y1 y2 y3 y4
   generalize ((⟨L.toArray⟩:ByteArray))=sL
   generalize ((⟨(Wv.be1 b.effs.length).toArray⟩:ByteArray))=sE
   have HEL:Hid (∀e∈b.effs,(Wv.effB e).length<=500):=by
    show∀e∈b.effs,_
    rw [h'.out.effs]
    intro e he
    obtain⟨m,hm,rfl⟩:=List.mem_map.1 he
    exact Wv.effB_len _ (HOK.out m hm).2
   go_loopw [5,7] (fun t x wr=>∃k:Nat,k<=b.effs.length∧x=I k∧t= .string ⟨(Wv.headB b++(b.effs.take k).flatMap Wv.effB).toArray⟩∧Hid (Below (w.heap.size+1) (w.alloc (.cells #[I b.o,I b.s,I b.t, .slice (some ⟨p,q,none⟩) b.clock.length cc, .slice (some ⟨p2,q2,none⟩) b.effs.length ec] 124)) wr)) (fun _ x _=>b.effs.length - (intOf x).toNat)
   case atStart=>exact⟨0,Nat.zero_le _,rfl,by simp,HC2⟩
   case round=>
    obtain⟨k,hk,rfl,rfl,hbk⟩:=hrel
    clear HC2
    obtain⟨wq,hwq⟩:∃z,z=wr:=⟨_,rfl⟩
    subst hwq
    have HBr:Hid (Below w.heap.size w wq):=((Below.refl _ _).alloc (Nat.le_refl _) _).trans (hbk.out.mono (by omega))
    have hszr:w.heap.size<wq.heap.size:=by have:=hbk.out.size;simp at this;omega
    have y0:wq.cell? ⟨w.heap.size,0,none⟩=some (I b.o):=(hbk.out.cell (p:=⟨w.heap.size,0,none⟩) (by simp)).trans (World.cell?_alloc_mark w _ _ _ 0)
    have y1:wq.cell? ⟨w.heap.size,1,none⟩=some (I b.s):=(hbk.out.cell (p:=⟨w.heap.size,1,none⟩) (by simp)).trans (World.cell?_alloc_mark w _ _ _ 1)
    have y2:wq.cell? ⟨w.heap.size,2,none⟩=some (I b.t):=(hbk.out.cell (p:=⟨w.heap.size,2,none⟩) (by simp)).trans (World.cell?_alloc_mark w _ _ _ 2)
    have y3:wq.cell? ⟨w.heap.size,3,none⟩=some (.slice (some ⟨p,q,none⟩) b.clock.length cc):=(hbk.out.cell (p:=⟨w.heap.size,3,none⟩) (by simp)).trans (World.cell?_alloc_mark w _ _ _ 3)
    have y4:wq.cell? ⟨w.heap.size,4,none⟩=some (.slice (some ⟨p2,q2,none⟩) b.effs.length ec):=(hbk.out.cell (p:=⟨w.heap.size,4,none⟩) (by simp)).trans (World.cell?_alloc_mark w _ _ _ 4)
    have hLn:(Wv.headB b++(b.effs.take k).flatMap Wv.effB).length<=10000:=by
     have h1:=Wv.effs_len (b.effs.take k) (fun e he=>HEL.out e (List.mem_of_mem_take he))
     have h2:=Wv.headB_len b
     simp only [List.length_append,List.length_take] at h1 ⊢
     omega
    by_cases hlt:k<b.effs.length
    ·have hlt':k<ms.length:=by rw [HML.out];exact hlt
     obtain⟨c0,c1,c2,c3,c4,c5,c6⟩:=hce.out k hlt'
     replace c0:=zaa HBr.out c0
     replace c1:=zaa HBr.out c1
     replace c2:=zaa HBr.out c2
     replace c3:=zaa HBr.out c3
     replace c4:=zaa HBr.out c4
     replace c5:=zaa HBr.out c5
     replace c6:=zaa HBr.out c6
     have hpr:=zag c0
     have hki:(k:Int)<(b.effs.length:Int):=by omega
     have HM:Hid (ms[k]∈ms∧(b.effs.take (k+1)).flatMap Wv.effB=(b.effs.take k).flatMap Wv.effB++Wv.effB ms[k].e):=by
      refine⟨List.getElem_mem _, ?_⟩
      rw [Wv.take_flat _ _ _ hlt]
      simp [h'.out.effs]
     generalize ms[k]=m at c0 c1 c2 c3 c4 c5 c6 HM
     generalize hL:Wv.headB b++(b.effs.take k).flatMap Wv.effB=L at hLn ⊢
     have HLL:Hid (Wv.headB b++(b.effs.take k).flatMap Wv.effB=L):=hL
     clear hL
     have l2:∀n,(Wv.be2 n).length=2:=fun _=>rfl
     have n1:¬9223372036854775807<L.length+1:=by omega
     have n2:¬9223372036854775807<L.length+1+1:=by omega
     have n3:¬9223372036854775807<L.length+1+1+2:=by omega
     have n4:¬9223372036854775807<L.length+2:=by omega
     have n5:¬9223372036854775807<L.length+2+2:=by omega
     have n6:¬9223372036854775807<L.length+4:=by omega
     go_wp2_with fail
     go_region_held3 (fun w'=>w'.cell? ⟨wq.heap.size,0,none⟩=some (I m.e.op)∧w'.cell? ⟨wq.heap.size,1,none⟩=some (I m.e.ob)∧w'.cell? ⟨wq.heap.size,2,none⟩=some (I m.e.va)) (first | go_keep | (refine⟨zaa hb ?_,zaa hb ?_,zaa hb ?_⟩<;>go_keep))
      (first | (go_at_call_of 145 (Value.int IntKind.i64 1);refine(zf9 _ _).mono ?_;rintro e w' ⟨rfl,hb⟩;have HC:Hid (Below (wq.heap.size+1) (wq.alloc (.cells #[I m.e.op,I m.e.ob,I m.e.va,I m.e.ref.o,I m.e.ref.s,I m.e.ref.i, .slice m.da m.e.dots.length m.dc] 149)) w'):=(by first | exact HC.out.trans (hb.mono (by have:=HC.out.size;simp at this;omega)) | exact(Below.refl _ _).drew.trans (hb.mono (by simp)))) | (go_at_call_of 145 (Value.int IntKind.i64 2);refine(zx8 _ _).mono ?_;rintro e w' ⟨rfl,hb⟩;have HC:Hid (Below (wq.heap.size+1) (wq.alloc (.cells #[I m.e.op,I m.e.ob,I m.e.va,I m.e.ref.o,I m.e.ref.s,I m.e.ref.i, .slice m.da m.e.dots.length m.dc] 149)) w'):=(by first | exact HC.out.trans (hb.mono (by have:=HC.out.size;simp at this;omega)) | exact(Below.refl _ _).drew.trans (hb.mono (by simp)))))
     have HCW:Hid (Below (w.heap.size+1) wq w'):=((Below.refl _ _).alloc (by omega) _).trans (HC.out.mono (by omega))
     have x0:w'.cell? ⟨wq.heap.size,0,none⟩=some (I m.e.op):=(HC.out.cell (p:=⟨wq.heap.size,0,none⟩) (by simp)).trans (World.cell?_alloc_mark wq _ _ _ 0)
     have x1:w'.cell? ⟨wq.heap.size,1,none⟩=some (I m.e.ob):=(HC.out.cell (p:=⟨wq.heap.size,1,none⟩) (by simp)).trans (World.cell?_alloc_mark wq _ _ _ 1)
     have x2:w'.cell? ⟨wq.heap.size,2,none⟩=some (I m.e.va):=(HC.out.cell (p:=⟨wq.heap.size,2,none⟩) (by simp)).trans (World.cell?_alloc_mark wq _ _ _ 2)
     have x3:w'.cell? ⟨wq.heap.size,3,none⟩=some (I m.e.ref.o):=(HC.out.cell (p:=⟨wq.heap.size,3,none⟩) (by simp)).trans (World.cell?_alloc_mark wq _ _ _ 3)
     have x4:w'.cell? ⟨wq.heap.size,4,none⟩=some (I m.e.ref.s):=(HC.out.cell (p:=⟨wq.heap.size,4,none⟩) (by simp)).trans (World.cell?_alloc_mark wq _ _ _ 4)
     have x5:w'.cell? ⟨wq.heap.size,5,none⟩=some (I m.e.ref.i):=(HC.out.cell (p:=⟨wq.heap.size,5,none⟩) (by simp)).trans (World.cell?_alloc_mark wq _ _ _ 5)
     have x6:w'.cell? ⟨wq.heap.size,6,none⟩=some (.slice m.da m.e.dots.length m.dc):=(HC.out.cell (p:=⟨wq.heap.size,6,none⟩) (by simp)).trans (World.cell?_alloc_mark wq _ _ _ 6)
     clear c0 c1 c2 c3 c4 c5 c6 y0 y1 y2 y3 y4 n1 n2 n3 n4 n5 n6
     have hop:=(HOK.out m HM.out.1).1
     have hdl:=(HOK.out m HM.out.1).2
     clear hop
     generalize hS:((⟨L.toArray⟩++⟨(Wv.be1 m.e.op).toArray⟩++⟨(Wv.be1 m.e.ob).toArray⟩++⟨(Wv.be2 m.e.va).toArray⟩:ByteArray))=S
     have HS:Hid (S=⟨(L++(Wv.be1 m.e.op++Wv.be1 m.e.ob++Wv.be2 m.e.va)).toArray⟩):=by
      show S=_
      rw [←hS,zap,zap,zap];simp only [List.append_assoc]
     have hSz:S.size<=11000:=by
      rw [HS.out]
      show(L++(Wv.be1 m.e.op++Wv.be1 m.e.ob++Wv.be2 m.e.va)).toArray.size<=_
      simp only [List.size_toArray,List.length_append,l1,l2]
      omega
     clear hS
     generalize ((⟨L.toArray⟩++⟨(Wv.be1 m.e.op).toArray⟩++⟨(Wv.be1 m.e.ob).toArray⟩:ByteArray))=sb2
     generalize ((⟨L.toArray⟩++⟨(Wv.be1 m.e.op).toArray⟩:ByteArray))=sb1
     generalize ((⟨(Wv.be1 m.e.op).toArray⟩:ByteArray))=sb3
     generalize ((⟨(Wv.be1 m.e.ob).toArray⟩:ByteArray))=sb4
     generalize ((⟨(Wv.be2 m.e.va).toArray⟩:ByteArray))=sb5
     generalize ((⟨L.toArray⟩:ByteArray))=sb0
     have hcls:m.e.op=1∨m.e.op=2∨m.e.op=3∨m.e.op=4∨m.e.op=5∨m.e.op=6:=by have:=(HOK.out m HM.out.1).1;omega
     rcases hcls with hop | hop | hop | hop | hop | hop
     ·have f5:(m.e.op==5)=false:=by rw [hop];rfl
      have f6:(m.e.op==6)=false:=by rw [hop];rfl
      have f3:(m.e.op==3)=false:=by rw [hop];rfl
      have f4:(m.e.op==4)=false:=by rw [hop];rfl
      have hR:Wv.rRef m.e.op=0:=by rw [hop];decide
      have hM:¬0<Wv.rMostD m.e.op:=by rw [hop];decide
      have HE:Hid (L++Wv.effB m.e=L++(Wv.be1 m.e.op++Wv.be1 m.e.ob++Wv.be2 m.e.va)):=by show _=_;simp [Wv.effB,hR,hM]
      clear hR hM hop
      go_wp2_with fail
      go_roundw
      case rel=>exact⟨k+1,by omega,by go_num,by rw [HM.out.2,←List.append_assoc,HLL.out];exact congrArg Value.string (by rw [HS.out,HE.out]),hbk.out.trans HCW.out⟩
      case measure=>simp [intOf];omega
     ·have f5:(m.e.op==5)=false:=by rw [hop];rfl
      have f6:(m.e.op==6)=false:=by rw [hop];rfl
      have f3:(m.e.op==3)=false:=by rw [hop];rfl
      have f4:(m.e.op==4)=false:=by rw [hop];rfl
      have hR:Wv.rRef m.e.op=0:=by rw [hop];decide
      have hM:¬0<Wv.rMostD m.e.op:=by rw [hop];decide
      have HE:Hid (L++Wv.effB m.e=L++(Wv.be1 m.e.op++Wv.be1 m.e.ob++Wv.be2 m.e.va)):=by show _=_;simp [Wv.effB,hR,hM]
      clear hR hM hop
      go_wp2_with fail
      go_roundw
      case rel=>exact⟨k+1,by omega,by go_num,by rw [HM.out.2,←List.append_assoc,HLL.out];exact congrArg Value.string (by rw [HS.out,HE.out]),hbk.out.trans HCW.out⟩
      case measure=>simp [intOf];omega
     ·have f5:(m.e.op==5)=false:=by rw [hop];rfl
      have f6:(m.e.op==6)=false:=by rw [hop];rfl
      have f3:(m.e.op==3)=true:=by rw [hop];rfl
      have hR:Wv.rRef m.e.op=0:=by rw [hop];decide
      have hM:0<Wv.rMostD m.e.op:=by rw [hop];decide
      have HE:Hid (L++Wv.effB m.e=L++(Wv.be1 m.e.op++Wv.be1 m.e.ob++Wv.be2 m.e.va)++(Wv.be1 m.e.dots.length++m.e.dots.flatMap Wv.dotB)):=by show _=_;simp [Wv.effB,hR,hM]
      have hcat:¬9223372036854775807<S.size+(Wv.be1 m.e.dots.length).length:=by rw [Wv.be1_len];omega
      clear hR hM hop
      go_wp2_with fail
      refine(zf9 _ _).mono ?_
      rintro e w5 ⟨rfl,hb5⟩
      have HC5:Hid (Below (wq.heap.size+1) (wq.alloc (.cells #[I m.e.op,I m.e.ob,I m.e.va,I m.e.ref.o,I m.e.ref.s,I m.e.ref.i, .slice m.da m.e.dots.length m.dc] 149)) w5):=HC.out.trans (hb5.mono (by have:=HC.out.size;simp at this;omega))
      clear hb5 x0 x1 x2 x3 x4 x5 x6
      go_wp2_with fail
      generalize hS2:(S++⟨(Wv.be1 m.e.dots.length).toArray⟩:ByteArray)=S2
      have HS2:Hid (S2=⟨(L++(Wv.be1 m.e.op++Wv.be1 m.e.ob++Wv.be2 m.e.va)++Wv.be1 m.e.dots.length).toArray⟩):=by
       show S2=_
       rw [←hS2,HS.out,zap]
      clear hS2
      generalize ((⟨(Wv.be1 m.e.dots.length).toArray⟩:ByteArray))=u1
      generalize hM2:L++(Wv.be1 m.e.op++Wv.be1 m.e.ob++Wv.be2 m.e.va)++Wv.be1 m.e.dots.length=M at HS2
      have HM2:Hid (L++(Wv.be1 m.e.op++Wv.be1 m.e.ob++Wv.be2 m.e.va)++Wv.be1 m.e.dots.length=M):=hM2
      have hMl:M.length<=20000:=by rw [←hM2];simp [Wv.be1,Wv.be2];omega
      clear hM2 hcat
      go_loopw [5,9] (fun t x w4=>∃j:Nat,j<=m.e.dots.length∧x=I j∧t= .string ⟨(M++(m.e.dots.take j).flatMap Wv.dotB).toArray⟩∧Hid (Below (wq.heap.size+1) (wq.alloc (.cells #[I m.e.op,I m.e.ob,I m.e.va,I m.e.ref.o,I m.e.ref.s,I m.e.ref.i, .slice m.da m.e.dots.length m.dc] 149)) w4)) (fun _ x _=>m.e.dots.length - (intOf x).toNat)
      case atStart=>exact⟨0,Nat.zero_le _,rfl,by rw [HS2.out];simp,HC5⟩
      case round=>
       obtain⟨j,hj,rfl,rfl,hb4⟩:=hrel
       obtain⟨w4,hw4⟩:∃z,z=wr:=⟨_,rfl⟩
       subst hw4
       clear HC5
       have HB4:Hid (Below w.heap.size w w4):=HBr.out.trans (((Below.refl _ _).alloc (by omega) _).trans (hb4.out.mono (by omega)))
       have hsz4:wq.heap.size<w4.heap.size:=by have:=hb4.out.size;simp at this;omega
       have hMn:(M++(m.e.dots.take j).flatMap Wv.dotB).length<=30000:=by
        have h1:=Wv.dots_len (m.e.dots.take j)
        simp only [List.length_append,h1,List.length_take]
        omega
       by_cases hjl:j<m.e.dots.length
       ·obtain⟨p3,q3,hda,hp3,hd3⟩:=zdd (h'.out.dots m HM.out.1) (by omega)
        have x6:w4.cell? ⟨wq.heap.size,6,none⟩=some (.slice (some ⟨p3,q3,none⟩) m.e.dots.length m.dc):=by
         rw [←hda]
         exact(hb4.out.cell (p:=⟨wq.heap.size,6,none⟩) (by simp)).trans (World.cell?_alloc_mark wq _ _ _ 6)
        obtain⟨z0,z1,z2⟩:=hd3 j hjl
        replace z0:=zaa HB4.out z0
        replace z1:=zaa HB4.out z1
        replace z2:=zaa HB4.out z2
        have hji:(j:Int)<(m.e.dots.length:Int):=by omega
        have HT:Hid ((m.e.dots.take (j+1)).flatMap Wv.dotB=(m.e.dots.take j).flatMap Wv.dotB++Wv.dotB m.e.dots[j]):=Wv.take_flat _ _ _ hjl
        have hpz:=zag z0
        clear hda hd3
        generalize m.e.dots[j]=d at z0 z1 z2 HT
        have HL2:Hid (M++(m.e.dots.take (j+1)).flatMap Wv.dotB=(M++(m.e.dots.take j).flatMap Wv.dotB)++Wv.dotB d):=by show _=_;rw [HT.out,List.append_assoc]
        generalize M++(m.e.dots.take j).flatMap Wv.dotB=N at hMn HL2 ⊢
        have hcat:¬9223372036854775807<N.length+(Wv.dotB d).length:=by rw [Wv.dotB_len];omega
        go_wp2_with (first | (go_at_call 198;refine(zgh _ _).mono ?_;rintro e w5 ⟨rfl,hb5⟩))
        go_roundw
        case rel=>exact⟨j+1,by omega,by go_num,by rw [HL2.out,zap],hb4.out.trans (hb5.mono (by omega))⟩
        case measure=>simp [intOf];omega
       ·obtain rfl:j=m.e.dots.length:=by omega
        have x6:w4.cell? ⟨wq.heap.size,6,none⟩=some (.slice m.da m.e.dots.length m.dc):=(hb4.out.cell (p:=⟨wq.heap.size,6,none⟩) (by simp)).trans (World.cell?_alloc_mark wq _ _ _ 6)
        have HN:Hid (M++(m.e.dots.take m.e.dots.length).flatMap Wv.dotB=L++Wv.effB m.e):=by
         show _=_
         rw [HE.out,←HM2.out,List.take_length];simp only [List.append_assoc]
        generalize M++(m.e.dots.take m.e.dots.length).flatMap Wv.dotB=N at hMn HN ⊢
        go_wp2_with fail
        go_roundw
        case rel=>exact⟨k+1,by omega,by go_num,by rw [HM.out.2,←List.append_assoc,HLL.out,HN.out],hbk.out.trans (((Below.refl _ _).alloc (by omega) _).trans (hb4.out.mono (by omega)))⟩
        case measure=>simp [intOf];omega
     ·have f5:(m.e.op==5)=false:=by rw [hop];rfl
      have f6:(m.e.op==6)=false:=by rw [hop];rfl
      have f3:(m.e.op==3)=false:=by rw [hop];rfl
      have f4:(m.e.op==4)=true:=by rw [hop];rfl
      have hR:Wv.rRef m.e.op=0:=by rw [hop];decide
      have hM:0<Wv.rMostD m.e.op:=by rw [hop];decide
      have HE:Hid (L++Wv.effB m.e=L++(Wv.be1 m.e.op++Wv.be1 m.e.ob++Wv.be2 m.e.va)++(Wv.be1 m.e.dots.length++m.e.dots.flatMap Wv.dotB)):=by show _=_;simp [Wv.effB,hR,hM]
      have hcat:¬9223372036854775807<S.size+(Wv.be1 m.e.dots.length).length:=by rw [Wv.be1_len];omega
      clear hR hM hop
      go_wp2_with fail
      refine(zf9 _ _).mono ?_
      rintro e w5 ⟨rfl,hb5⟩
      have HC5:Hid (Below (wq.heap.size+1) (wq.alloc (.cells #[I m.e.op,I m.e.ob,I m.e.va,I m.e.ref.o,I m.e.ref.s,I m.e.ref.i, .slice m.da m.e.dots.length m.dc] 149)) w5):=HC.out.trans (hb5.mono (by have:=HC.out.size;simp at this;omega))
      clear hb5 x0 x1 x2 x3 x4 x5 x6
      go_wp2_with fail
      generalize hS2:(S++⟨(Wv.be1 m.e.dots.length).toArray⟩:ByteArray)=S2
      have HS2:Hid (S2=⟨(L++(Wv.be1 m.e.op++Wv.be1 m.e.ob++Wv.be2 m.e.va)++Wv.be1 m.e.dots.length).toArray⟩):=by
       show S2=_
       rw [←hS2,HS.out,zap]
      clear hS2
      generalize ((⟨(Wv.be1 m.e.dots.length).toArray⟩:ByteArray))=u1
      generalize hM2:L++(Wv.be1 m.e.op++Wv.be1 m.e.ob++Wv.be2 m.e.va)++Wv.be1 m.e.dots.length=M at HS2
      have HM2:Hid (L++(Wv.be1 m.e.op++Wv.be1 m.e.ob++Wv.be2 m.e.va)++Wv.be1 m.e.dots.length=M):=hM2
      have hMl:M.length<=20000:=by rw [←hM2];simp [Wv.be1,Wv.be2];omega
      clear hM2 hcat
      go_loopw [5,9] (fun t x w4=>∃j:Nat,j<=m.e.dots.length∧x=I j∧t= .string ⟨(M++(m.e.dots.take j).flatMap Wv.dotB).toArray⟩∧Hid (Below (wq.heap.size+1) (wq.alloc (.cells #[I m.e.op,I m.e.ob,I m.e.va,I m.e.ref.o,I m.e.ref.s,I m.e.ref.i, .slice m.da m.e.dots.length m.dc] 149)) w4)) (fun _ x _=>m.e.dots.length - (intOf x).toNat)
      case atStart=>exact⟨0,Nat.zero_le _,rfl,by rw [HS2.out];simp,HC5⟩
      case round=>
       obtain⟨j,hj,rfl,rfl,hb4⟩:=hrel
       obtain⟨w4,hw4⟩:∃z,z=wr:=⟨_,rfl⟩
       subst hw4
       clear HC5
       have HB4:Hid (Below w.heap.size w w4):=HBr.out.trans (((Below.refl _ _).alloc (by omega) _).trans (hb4.out.mono (by omega)))
       have hsz4:wq.heap.size<w4.heap.size:=by have:=hb4.out.size;simp at this;omega
       have hMn:(M++(m.e.dots.take j).flatMap Wv.dotB).length<=30000:=by
        have h1:=Wv.dots_len (m.e.dots.take j)
        simp only [List.length_append,h1,List.length_take]
        omega
       by_cases hjl:j<m.e.dots.length
       ·obtain⟨p3,q3,hda,hp3,hd3⟩:=zdd (h'.out.dots m HM.out.1) (by omega)
        have x6:w4.cell? ⟨wq.heap.size,6,none⟩=some (.slice (some ⟨p3,q3,none⟩) m.e.dots.length m.dc):=by
         rw [←hda]
         exact(hb4.out.cell (p:=⟨wq.heap.size,6,none⟩) (by simp)).trans (World.cell?_alloc_mark wq _ _ _ 6)
        obtain⟨z0,z1,z2⟩:=hd3 j hjl
        replace z0:=zaa HB4.out z0
        replace z1:=zaa HB4.out z1
        replace z2:=zaa HB4.out z2
        have hji:(j:Int)<(m.e.dots.length:Int):=by omega
        have HT:Hid ((m.e.dots.take (j+1)).flatMap Wv.dotB=(m.e.dots.take j).flatMap Wv.dotB++Wv.dotB m.e.dots[j]):=Wv.take_flat _ _ _ hjl
        have hpz:=zag z0
        clear hda hd3
        generalize m.e.dots[j]=d at z0 z1 z2 HT
        have HL2:Hid (M++(m.e.dots.take (j+1)).flatMap Wv.dotB=(M++(m.e.dots.take j).flatMap Wv.dotB)++Wv.dotB d):=by show _=_;rw [HT.out,List.append_assoc]
        generalize M++(m.e.dots.take j).flatMap Wv.dotB=N at hMn HL2 ⊢
        have hcat:¬9223372036854775807<N.length+(Wv.dotB d).length:=by rw [Wv.dotB_len];omega
        go_wp2_with (first | (go_at_call 198;refine(zgh _ _).mono ?_;rintro e w5 ⟨rfl,hb5⟩))
        go_roundw
        case rel=>exact⟨j+1,by omega,by go_num,by rw [HL2.out,zap],hb4.out.trans (hb5.mono (by omega))⟩
        case measure=>simp [intOf];omega
       ·obtain rfl:j=m.e.dots.length:=by omega
        have x6:w4.cell? ⟨wq.heap.size,6,none⟩=some (.slice m.da m.e.dots.length m.dc):=(hb4.out.cell (p:=⟨wq.heap.size,6,none⟩) (by simp)).trans (World.cell?_alloc_mark wq _ _ _ 6)
        have HN:Hid (M++(m.e.dots.take m.e.dots.length).flatMap Wv.dotB=L++Wv.effB m.e):=by
         show _=_
         rw [HE.out,←HM2.out,List.take_length];simp only [List.append_assoc]
        generalize M++(m.e.dots.take m.e.dots.length).flatMap Wv.dotB=N at hMn HN ⊢
        go_wp2_with fail
        go_roundw
        case rel=>exact⟨k+1,by omega,by go_num,by rw [HM.out.2,←List.append_assoc,HLL.out,HN.out],hbk.out.trans (((Below.refl _ _).alloc (by omega) _).trans (hb4.out.mono (by omega)))⟩
        case measure=>simp [intOf];omega
     ·have f5:(m.e.op==5)=true:=by rw [hop];rfl
      have hR:¬Wv.rRef m.e.op=0:=by rw [hop];decide
      have hM:¬0<Wv.rMostD m.e.op:=by rw [hop];decide
      have HE:Hid (L++Wv.effB m.e=L++(Wv.be1 m.e.op++Wv.be1 m.e.ob++Wv.be2 m.e.va)++Wv.dotB m.e.ref):=by show _=_;simp [Wv.effB,hR,hM]
      have hcat:¬9223372036854775807<S.size+(Wv.dotB m.e.ref).length:=by rw [Wv.dotB_len];omega
      clear hR hM hop
      go_wp2_with fail
      refine(zgh m.e.ref _).mono ?_
      rintro e w5 ⟨rfl,hb5⟩
      go_wp2_with fail
      go_roundw
      case rel=>exact⟨k+1,by omega,by go_num,by rw [HM.out.2,←List.append_assoc,HLL.out];exact congrArg Value.string (by rw [HS.out,zap,HE.out]),(hbk.out.trans HCW.out).trans (hb5.mono (by have:=HCW.out.size;omega))⟩
      case measure=>simp [intOf];omega
     ·have f5:(m.e.op==5)=false:=by rw [hop];rfl
      have f6:(m.e.op==6)=true:=by rw [hop];rfl
      have hR:¬Wv.rRef m.e.op=0:=by rw [hop];decide
      have hM:¬0<Wv.rMostD m.e.op:=by rw [hop];decide
      have HE:Hid (L++Wv.effB m.e=L++(Wv.be1 m.e.op++Wv.be1 m.e.ob++Wv.be2 m.e.va)++Wv.dotB m.e.ref):=by show _=_;simp [Wv.effB,hR,hM]
      have hcat:¬9223372036854775807<S.size+(Wv.dotB m.e.ref).length:=by rw [Wv.dotB_len];omega
      clear hR hM hop
      go_wp2_with fail
      refine(zgh m.e.ref _).mono ?_
      rintro e w5 ⟨rfl,hb5⟩
      go_wp2_with fail
      go_roundw
      case rel=>exact⟨k+1,by omega,by go_num,by rw [HM.out.2,←List.append_assoc,HLL.out];exact congrArg Value.string (by rw [HS.out,zap,HE.out]),(hbk.out.trans HCW.out).trans (hb5.mono (by have:=HCW.out.size;omega))⟩
      case measure=>simp [intOf];omega
    ·obtain rfl:k=b.effs.length:=by omega
     have HCt:Hid (Wv.headB b++(b.effs.take b.effs.length).flatMap Wv.effB=Wv.contentB b):=by show _=_;rw [List.take_length];rfl
     rw [HCt.out] at hLn ⊢
     have l2:∀n,(Wv.be2 n).length=2:=fun _=>rfl
     have hcat:¬9223372036854775807<2+(Wv.contentB b).length:=by omega
     go_wp2_with fail
     refine(zx8 _ _).mono ?_
     rintro e w5 ⟨rfl,hb5⟩
     have HC5:Hid (Below w.heap.size w w5):=HBr.out.trans (hb5.mono (by have:=HBr.out.size;omega))
     clear hb5 hbk HBr hszr y0 y1 y2 y3 y4
     go_wp2_with fail
     rw [zap]
     have HBd:Hid (Wv.be2 (↑(Wv.contentB b).length+6)++Wv.contentB b=Wv.bodyB b):=rfl
     rw [HBd.out]
     have hbl:(Wv.bodyB b).length<=10002:=by rw [←HBd.out];simp only [List.length_append,l2];omega
     have hcat2:¬9223372036854775807<(Wv.bodyB b).length+4:=by omega
     have l4:∀n,(Wv.be4 n).length=4:=fun _=>rfl
     refine(zo9 _ _ (by show(Wv.bodyB b).toArray.size<=maxLen;unfold maxLen;simp;omega)).mono ?_
     rintro e w6 ⟨rfl,h6⟩
     subst h6
     go_wp2_with fail
     refine(bytes4 _ _).mono ?_
     rintro e w7 ⟨rfl,hb7⟩
     go_wp2_with fail
     go_ret2
     refine⟨?_,HC5.out.trans (hb7.mono (by have:=HC5.out.size;omega))⟩
     rw [zap]
     rfl
end Go.Proofs.YtfmcngncaffloaaGreatDoor
