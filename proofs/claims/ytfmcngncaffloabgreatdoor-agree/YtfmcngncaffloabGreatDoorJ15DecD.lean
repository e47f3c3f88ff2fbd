import Derived.Test.YtfmcngncaffloabGreatDoorJ13SoL
import Derived.Test.YtfmcngncaffloabGreatDoorJ14DecH
set_option maxHeartbeats 3200000
namespace Go.Proofs.YtfmcngncaffloabGreatDoor
open Go.RowKit Go.Proofs.Tryz Wv
set_option maxRecDepth 100000
theorem _root_.Go.Proofs.YtfmcngncaffloabGreatDoor.Wv.effs_len(l:List Ef)(h:∀e∈l,(effB e).length<=500):(l.flatMap effB).length<=500*l.length:=by
 induction l with
 | nil=>simp
 | cons e l ih=>
  have h1:=h e (by simp);have h2:=ih (fun x hx=>h x (by simp [hx]));simp only [List.flatMap_cons,ah,aJ];omega
theorem _root_.Go.Proofs.YtfmcngncaffloabGreatDoor.Wv.headB_len(b:Bt):(headB b).length=b.clock.length+5:=by
 have h1:=flat1_len b.clock;have h2:(Wv.hd4 b).length=4:=rfl;simp only [headB,ah,h1,h2,be1_len];omega
theorem _root_.Go.Proofs.YtfmcngncaffloabGreatDoor.Wv.headB_pos(b:Bt):1<=(headB b).length:=by have:=headB_len b;omega
theorem zga(b:Bt):∀(n k:Nat),k<n->effsTo b n=true->effOk b k (b.effs.getD k ⟨0,0,0,⟨0,0,0⟩, []⟩)=true
 | n+1,k,hk,h=>by
  rw [effsTo,ak] at h;rcases Nat.lt_succ_iff_lt_or_eq.1 hk with hk | rfl
  ·exact zga b n k hk h.1
  ·exact h.2
theorem zz5(b:Bt)(ms:List Em)(he:b.effs=ms.map (·.e))(hb:Wv.isB b=true):∀m∈ms,(1<=m.e.op∧m.e.op<=6)∧m.e.dots.length<=150:=by
 intro m hm;obtain⟨k,hk,rfl⟩:=aI.1 hm;simp only [Wv.isB,ak] at hb;have h:=zga b b.effs.length k (by rw [he];simpa using hk) hb.2;have e:b.effs.getD k ⟨0,0,0,⟨0,0,0⟩, []⟩=ms[k].e:=by rw [he];simp [hk]
 rw [e] at h;simp only [effOk,isOp,ak,aq] at h;refine⟨h.1.1.1.1.1, ?_⟩;have h2:=h.1.2.2;have:rMostD ms[k].e.op<=150:=by unfold rMostD;repeat' split<;>omega
 omega
theorem _root_.Go.Proofs.YtfmcngncaffloabGreatDoor.Grew.below0{w w':World}{v':Value}(h:Grew w w' (.slice none 0 0) v'):Below w.heap.size w w':=
 ⟨h.grown.os,h.grown.tape,h.grown.output,h.grown.size,fun k hk=>h.grown.block k hk (by simp [Value.ownBlock])⟩
theorem zkb{w:World}{B g n cap:Nat}{l:List UInt8}(h:OwnB w B (.slice (some ⟨g,0,none⟩) n cap) l):
  (convert 191 9 (.slice (some ⟨g,0,none⟩) n cap)).run prog w= .ok (.string ⟨l.toArray⟩) w:=by
 have hn:n=l.length:=by
  rcases h.2 with⟨e,_⟩ | ⟨_,_,_,e,_⟩
  ·cases e
  ·injection e
 subst hn;exact zg3 w _ _ l (fun j u hu=>h.cells rfl j u hu)
theorem zqg(b:Bt)(ca ea:Option Addr)(cc ec:Nat)(ms:List Em)(w:World)(eb ef:Addr)(hI:zaj)(g:Gl w eb ef)(hp:Pw w)(h:BatAt w b ca ea ms)(hb:Wv.isB b=true):
  Calls prog 98 #[bV b ca ea cc ec] w fun e w'=>e= .returned (.tuple #[.string ⟨(frameB b).toArray⟩, .nilIface])∧Below w.heap.size w w':=by
 have hpw':Hid (Pw w):=hp;have g':Hid (Gl w eb ef):=g;have h':Hid (BatAt w b ca ea ms):=h;have HF:Hid (Wv.isB b=true):=hb;have hH:headOk b=true:=by simp only [Wv.isB,ak] at hb;exact hb.1
 have hcl:2<=b.clock.length∧b.clock.length<=4:=by
  simp only [headOk,ak,aq] at hH;exact hH.1.1.1.1.1
 have hel:1<=b.effs.length∧b.effs.length<=5:=by
  simp only [headOk,ak,aq] at hH;exact hH.1.2
 have hml:ms.length=b.effs.length:=by rw [h.effs];simp
 have HL:Hid (ms.length=b.effs.length):=hml;obtain⟨p,q,rfl,hp0,hc0⟩:=h.clock.first (by simp;omega);obtain⟨p2,q2,rfl,hp2,hc2⟩:=zjj h.cells (by omega);have hcc:Hid _:=hc0;have hce:Hid _:=hc2;have HOK:Hid (∀m∈ms,(1<=m.e.op∧m.e.op<=6)∧m.e.dots.length<=150):=zz5 b ms h.effs hb;have HB:Hid (Below w.heap.size w (w.alloc (.cells #[I b.o,I b.s,I b.t, .slice (some ⟨p,q,none⟩) b.clock.length cc, .slice (some ⟨p2,q2,none⟩) b.effs.length ec] 134))):=(Below.refl _ _).alloc (ac _) _;clear g hp h hb hc0 hc2 hH hml;go_enter func98,ntmps98;go_wp2_with fail
 refine(zin b _ _ cc ec ms _ eb ef hI (g'.out.kept HB.out) (hpw'.out.kept HB.out) (h'.out.kept HB.out) (by omega) (by omega) (fun m hm=>by have:=(HOK.out m hm).2;omega)).mono ?_;rintro e w1 ⟨he,hb1⟩;have HB1:Hid (Below w.heap.size w w1):=HB.out.trans (hb1.mono (by simp));have hsz1:w.heap.size<w1.heap.size:=by have:=hb1.size;simp at this;omega
 unfold zfb at he;rw [HF.out] at he;obtain rfl:=he;have y0:w1.cell? ⟨w.heap.size,0,none⟩=some (I b.o):=(hb1.cell (p:=⟨w.heap.size,0,none⟩) (by simp)).trans (World.cell?_alloc_mark w _ _ _ 0);have y1:w1.cell? ⟨w.heap.size,1,none⟩=some (I b.s):=(hb1.cell (p:=⟨w.heap.size,1,none⟩) (by simp)).trans (World.cell?_alloc_mark w _ _ _ 1);have y2:w1.cell? ⟨w.heap.size,2,none⟩=some (I b.t):=(hb1.cell (p:=⟨w.heap.size,2,none⟩) (by simp)).trans (World.cell?_alloc_mark w _ _ _ 2);have y3:w1.cell? ⟨w.heap.size,3,none⟩=some (.slice (some ⟨p,q,none⟩) b.clock.length cc):=(hb1.cell (p:=⟨w.heap.size,3,none⟩) (by simp)).trans (World.cell?_alloc_mark w _ _ _ 3);have y4:w1.cell? ⟨w.heap.size,4,none⟩=some (.slice (some ⟨p2,q2,none⟩) b.effs.length ec):=(hb1.cell (p:=⟨w.heap.size,4,none⟩) (by simp)).trans (World.cell?_alloc_mark w _ _ _ 4);clear hb1;go_wp2_with fail
 refine(zw2 w w1 (.slice none 0 0) [] b p q (some ⟨p2,q2,none⟩) cc ec HB1.out hcc (OwnB.nil _ _) (by simp) hcl.2 hel.2).mono ?_;rintro e w2 ⟨v2,rfl,hO2,hG2⟩;have HG2:Hid (Grew w1 w2 (.slice none 0 0) v2):=hG2;have HO2:Hid (OwnB w2 w.heap.size v2 (headB b)):=hO2;replace y0:=HG2.out.cell (by simp [Value.ownBlock]) y0;replace y1:=HG2.out.cell (by simp [Value.ownBlock]) y1;replace y2:=HG2.out.cell (by simp [Value.ownBlock]) y2;replace y3:=HG2.out.cell (by simp [Value.ownBlock]) y3;replace y4:=HG2.out.cell (by simp [Value.ownBlock]) y4;clear hO2 hG2;go_wp2_with fail
 clear y0 y1 y2 y3 y4
 have HEL:Hid (∀e∈b.effs,(effB e).length<=500):=by
  show∀e∈b.effs,_;rw [h'.out.effs];intro e he;obtain⟨m,hm,rfl⟩:=aG.1 he;exact effB_len _ (HOK.out m hm).2
 go_loopw [5,19] (fun t x wr=>∃k:Nat,k<=b.effs.length∧x=I k∧Hid (OwnB wr w.heap.size t (headB b++(b.effs.take k).flatMap effB))∧Hid (Grew w1 wr (.slice none 0 0) t)) (fun _ x _=>b.effs.length - (intOf x).toNat)
 case atStart=>exact⟨0,az _,rfl,by simpa using HO2,HG2⟩
 case round=>
  obtain⟨k,hk,rfl,hok,hgk⟩:=hrel;clear HG2 HO2;have HBr:Hid (Below w.heap.size w wr):=HB1.out.trans (hgk.out.below (l:= []) (by omega) (OwnB.nil _ _));have hszr:w.heap.size<=wr.heap.size:=HBr.out.size
  have HLn:Hid ((headB b++(b.effs.take k).flatMap effB).length<=10000):=by
   show _<=_;have h1:=effs_len (b.effs.take k) (fun e he=>HEL.out e (List.mem_of_mem_take he));have h2:=headB_len b;simp only [ah,al] at h1 ⊢;omega
  by_cases hlt:k<b.effs.length
  ·have hlt':k<ms.length:=by rw [HL.out];exact hlt
   obtain⟨c0,c1,c2,c3,c4,c5,c6⟩:=hce.out k hlt';replace c0:=zaa HBr.out c0;replace c1:=zaa HBr.out c1;replace c2:=zaa HBr.out c2;replace c3:=zaa HBr.out c3;replace c4:=zaa HBr.out c4;replace c5:=zaa HBr.out c5;replace c6:=zaa HBr.out c6;have hpr:=zad c0
   have HM:Hid (ms[k]∈ms∧(b.effs.take (k+1)).flatMap effB=(b.effs.take k).flatMap effB++effB ms[k].e):=by
    refine⟨aU _, ?_⟩;rw [take_flat _ _ _ hlt];simp [h'.out.effs]
   generalize ms[k]=m at c0 c1 c2 c3 c4 c5 c6 HM;generalize hL:headB b++(b.effs.take k).flatMap effB=L at hok HLn;have HLL:Hid (headB b++(b.effs.take k).flatMap effB=L):=hL;clear hL;have HX:Hid (Below w.heap.size w (wr.alloc (.cells #[I m.e.op,I m.e.ob,I m.e.va,I m.e.ref.o,I m.e.ref.s,I m.e.ref.i, .slice m.da m.e.dots.length m.dc] 128))):=HBr.out.alloc hszr _;go_wp2_with fail
   refine(eff_any w _ u5 L m eb ef g'.out HX.out (hok.out.alloc _) (by have:=HLn.out;omega) (HOK.out m HM.out.1).1 (h'.out.dots m HM.out.1) (HOK.out m HM.out.1).2).mono ?_;rintro e w7 ⟨v7,rfl,hO7,hG7⟩;have HO7:Hid (OwnB w7 w.heap.size v7 (L++effB m.e)):=hO7;have HG7:Hid (Grew wr w7 u5 v7):=(Grew.new _ u5).trans hG7;clear hO7 hG7;go_wp2;go_roundw
   case rel=>exact⟨k+1,by omega,by go_num,by rw [HM.out.2,←au,HLL.out];exact HO7,hgk.out.trans HG7.out⟩
   case measure=>simp [intOf];omega
  ·obtain rfl:k=b.effs.length:=by omega
   have HC:Hid (OwnB wr w.heap.size u5 (contentB b)):=by
    have:=hok.out;rw [List.take_length] at this;exact this
   have HCn:Hid ((contentB b).length<=10000∧1<=(contentB b).length):=by
    have h1:=HLn.out;rw [List.take_length] at h1;refine⟨h1, ?_⟩;have:=headB_pos b;simp only [contentB,ah];omega
   obtain⟨gg,cap,hu⟩:=Joins.ownsRow_form HC.out (by have:=HCn.out.2;omega);subst hu;clear hok HLn;have hcn:=HCn.out;go_wp2_with fail
   refine(zg8 (.slice none 0 0) [] _ w.heap.size wr hszr (OwnB.nil _ _) (by simp)).mono ?_;rintro e w9 ⟨v9,rfl,hO9,hG9⟩;have HX9:Hid (Below wr.heap.size wr w9):=hG9.below0;have e9:(2+((contentB b).length:Int)+4)=((contentB b).length:Int)+6:=by omega
   rw [e9] at hO9;have HO9:Hid (OwnB w9 w.heap.size v9 (be2 (((contentB b).length:Int)+6))):=hO9;have HC9:Hid (OwnB w9 w.heap.size (.slice (some ⟨gg,0,none⟩) (contentB b).length cap) (contentB b)):=HC.out.kept HX9.out;have HB9:Hid (Below w.heap.size w w9):=HBr.out.trans (HX9.out.mono hszr);obtain⟨g9,cap9,h9⟩:=Joins.ownsRow_form HO9.out (by simp [be2]);have h9':v9= .slice (some ⟨g9,0,none⟩) 2 cap9:=h9;subst h9';have hq1:=zkb HO9.out;have hq2:=zkb HC9.out;have h2:(be2 (((contentB b).length:Int)+6)).length=2:=rfl;have hle:¬9223372036854775807<(be2 (((contentB b).length:Int)+6)).length+(contentB b).length:=by omega
   have hss:((⟨(be2 (((contentB b).length:Int)+6)).toArray⟩++⟨(contentB b).toArray⟩:ByteArray)).size<=1048576:=by
    rw [zgs];show(be2 (((contentB b).length:Int)+6)++contentB b).toArray.size<=_;simp only [List.size_toArray,ah];omega
   have HSS:Hid _:=hss
   have HFr:Hid ((⟨(((⟨(be2 (((contentB b).length:Int)+6)).toArray⟩++⟨(contentB b).toArray⟩:ByteArray)).data.toList++be4 (Wv.sum ((⟨(be2 (((contentB b).length:Int)+6)).toArray⟩++⟨(contentB b).toArray⟩:ByteArray)).data.toList:Nat)).toArray⟩:ByteArray)=⟨(frameB b).toArray⟩):=by
    show _=_;rw [zgs];rfl
   clear hO9 hG9 e9 h9 h2 hss;go_wp2_with (first | (go_at_call 131;refine(zhd _ _ HSS.out).mono ?_;rw [HFr.out];rintro e w10 ⟨rfl,hb10⟩))
   go_ret2;exact⟨rfl,HB9.out.trans (hb10.mono (by have:=HB9.out.size;omega))⟩
theorem str_get(c:List UInt8)(k:Nat)(hk:k<c.length)(h:k<(⟨c.toArray⟩:ByteArray).size):(⟨c.toArray⟩:ByteArray)[k]=c.getD k 0:=by
 simp [ByteArray.getElem_eq_getElem_data,hk]
theorem zi1{w w':World}{row:Option Nat}(h:w.grownBy w' row)(n:Nat):w.grownBy (w'.drewN n) row:=⟨h.os,h.tape,h.output,h.size,h.block⟩
theorem zfu{w w':World}{row:Option Nat}{n:Nat}(h:(w.drewN n).grownBy w' row):w.grownBy w' row:=⟨h.os,h.tape,h.output,h.size,h.block⟩
theorem zzh(c:List UInt8)(k:Nat)(g:Nat)(w:World)(h:Rd w g c (some k))(hk:k<c.length)(hc:c.length<=9223372036854775807):
  Calls prog 188 #[.pointer (some ⟨g,0,none⟩)] w fun e w'=>e= .returned (I (c.getD k 0).toNat)∧Rd w' g c (some (k+1))∧w.grownBy w' (some g):=by
 have h':Hid (Blk w g #[.string ⟨c.toArray⟩,I k, .nilIface] 245):=h;have c0:w.cell? ⟨g,0,none⟩=some (.string ⟨c.toArray⟩):=h'.out.cell 0;have c1:w.cell? ⟨g,1,none⟩=some (I k):=h'.out.cell 1;have c2:w.cell? ⟨g,2,none⟩=some .nilIface:=h'.out.cell 2;have z1:=h'.out.frozen 1;have hs:(⟨c.toArray⟩:ByteArray).size=c.length:=by simp [ByteArray.size]
 have hb:=byte_lt (c.getD k 0);clear h;go_enter func188,ntmps188;go_wp2;go_quiet (fail)
 go_wp2;go_quiet (fail)
 go_wp2;go_ret;exact⟨zbo (by rw [str_get c k hk];unfold wrap64;omega),h'.out.set 1 _,zi1 (zfu (zmo _ _ _ _)) _⟩
theorem one_end(c:List UInt8)(k:Nat)(g:Nat)(w w0:World)(g0:Gd w0)(hb:Below w0.heap.size w0 w)(h:Rd w g c (some k))(hk:¬k<c.length):
  Calls prog 188 #[.pointer (some ⟨g,0,none⟩)] w fun e w'=>e= .returned (I 0)∧Rd w' g c none∧w.grownBy w' (some g):=by
 have h':Hid (Blk w g #[.string ⟨c.toArray⟩,I k, .nilIface] 245):=h;have c0:w.cell? ⟨g,0,none⟩=some (.string ⟨c.toArray⟩):=h'.out.cell 0;have c1:w.cell? ⟨g,1,none⟩=some (I k):=h'.out.cell 1;obtain⟨a,ha⟩:=g0.cut;have ha:=zaa hb ha;have hz:=zad ha;have hs:(⟨c.toArray⟩:ByteArray).size=c.length:=by simp [ByteArray.size]
 clear h g0 hb;go_enter func188,ntmps188;go_wp2;go_quiet (fail)
 go_wp2_with fail
 refine(zf8 c k g _ _ (w.drewN nq) h'.out).mono ?_;rintro e w1 ⟨rfl,⟨a1,n1,y1,hR⟩,hg⟩;have HR:Hid (Blk w1 g #[.string ⟨c.toArray⟩,I a1,FltF n1 y1] 245):=hR;have HG:Hid (w.grownBy w1 (some g)):=zfu hg;have c2:w1.cell? ⟨g,2,none⟩=some (FltF n1 y1):=hR.cell 2;clear hR hg c0 c1 ha hz;go_wp2;go_ret;exact⟨rfl,⟨_,_,_,HR.out⟩,HG.out⟩
theorem zzi(c:List UInt8)(g:Nat)(w w0:World)(g0:Gd w0)(hb:Below w0.heap.size w0 w)(h:Rd w g c none):
  Calls prog 188 #[.pointer (some ⟨g,0,none⟩)] w fun e w'=>e= .returned (I 0)∧Rd w' g c none∧w.grownBy w' (some g):=by
 have HN:Hid (Rd w g c none):=h;obtain⟨a,n,y,h⟩:=h;have h':Hid (Blk w g #[.string ⟨c.toArray⟩,I a,FltF n y] 245):=h;have c0:w.cell? ⟨g,0,none⟩=some (.string ⟨c.toArray⟩):=h'.out.cell 0;have c1:w.cell? ⟨g,1,none⟩=some (I a):=h'.out.cell 1;have c2:w.cell? ⟨g,2,none⟩=some (FltF n y):=h'.out.cell 2;obtain⟨ad,ha⟩:=g0.cut;have ha:=zaa hb ha;have hz:=zad ha;clear h g0 hb;by_cases hk:(c.length:Int)<=a
 ·go_enter func188,ntmps188
  go_wp2;go_quiet (fail)
  go_wp2_with fail
  refine(zf9 c g _ (w.drewN nq) HN.out).mono ?_;rintro e w1 ⟨rfl,⟨a1,n1,y1,hR⟩,hg⟩;have HR:Hid (Blk w1 g #[.string ⟨c.toArray⟩,I a1,FltF n1 y1] 245):=hR;have HG:Hid (w.grownBy w1 (some g)):=zfu hg;have c2:w1.cell? ⟨g,2,none⟩=some (FltF n1 y1):=hR.cell 2;clear hR hg c0 c1 ha hz;go_wp2;go_ret;exact⟨rfl,⟨_,_,_,HR.out⟩,HG.out⟩
 ·go_enter func188,ntmps188
  go_wp2;go_quiet (fail)
  go_wp2;go_ret;exact⟨rfl,HN.out,zi1 (zco _ _) _⟩
theorem zb3(c:List UInt8)(q:St)(g:Nat)(w w0:World)(g0:Gd w0)(hb:Below w0.heap.size w0 w)(h:Rd w g c q)(hc:c.length<=9223372036854775807):
  Calls prog 188 #[.pointer (some ⟨g,0,none⟩)] w fun e w'=>e= .returned (I (Wv.one c q))∧Rd w' g c (nxt c q)∧w.grownBy w' (some g):=by
 cases q with
 | none=>exact zzi c g w w0 g0 hb h
 | some k=>
  by_cases hk:k<c.length
  ·have:=zzh c k g w h hk hc
   simp only [Wv.one,nxt,hk,if_true];exact this
  ·have:=one_end c k g w w0 g0 hb h hk
   simp only [Wv.one,nxt,hk,if_false];exact this
theorem zaw{w w' w2:World}{row:Option Nat}(h:w.grownBy w' row)(h2:w'.grownBy w2 row):w.grownBy w2 row:=
 ⟨h2.os.trans h.os,h2.tape.trans h.tape,h2.output.trans h.output,aQ h.size h2.size,fun k hk hr=>(h2.block k (Nat.lt_of_lt_of_le hk h.size) hr).trans (h.block k hk hr)⟩
theorem za8{w0 w w':World}{g:Nat}(h:Below w0.heap.size w0 w)(hg:w.grownBy w' (some g))(hw:w0.heap.size<=g):Below w0.heap.size w0 w':=
 h.grown hg h.size (fun k e=>by cases e;exact hw)
theorem or_byte(a b:Int)(h1:0<=a)(h2:a<=255)(h3:0<=b)(h4:b<=255):bits BinOp.or IntKind.i64 (a*256) b=256*a+b:=by
 obtain⟨x,rfl⟩:=aN h1;obtain⟨y,rfl⟩:=aN h3;have e:((x:Int)*256)=((x*256:Nat):Int):=by omega
 have k:x*256 ||| y=x*256+y:=by
  have:=Nat.shiftLeft_add_eq_or_of_lt (b:=y) (i:=8) (by omega) x;rw [Nat.shiftLeft_eq] at this;exact this.symm
 rw [e];show IntKind.i64.wrap ((BitVec.ofInt 64 ((x*256:Nat):Int) ||| BitVec.ofInt 64 ((y:Nat):Int)).toNat:Int)=_;rw [BitVec.toNat_or,BitVec.ofInt_natCast,BitVec.ofInt_natCast,BitVec.toNat_ofNat,BitVec.toNat_ofNat,Nat.mod_eq_of_lt (by omega),Nat.mod_eq_of_lt (by omega),k,IntKind.wrap_i64];omega
theorem zel(c:List UInt8)(q:St)(g:Nat)(w w0:World)(g0:Gd w0)(hb:Below w0.heap.size w0 w)(hg:w0.heap.size<=g)(h:Rd w g c q)(hc:c.length<=9223372036854775807):
  Calls prog 187 #[.pointer (some ⟨g,0,none⟩)] w fun e w'=>e= .returned (I (two true c q))∧Rd w' g c (nxt2 c q)∧w.grownBy w' (some g):=by
 have h':Hid (Rd w g c q):=h;have HB:Hid (Below w0.heap.size w0 w):=hb;have G0:Hid (Gd w0):=g0;have HT:Hid (two true c q=256*Wv.one c q+Wv.one c (nxt c q)):=by show _=_;simp [two]
 obtain⟨a1,a2⟩:=one_lt c q;obtain⟨b1,b2⟩:=one_lt c (nxt c q);have hw:wrap64 (Wv.one c q*256)=Wv.one c q*256:=by unfold wrap64;omega
 have ho:=or_byte _ _ a1 a2 b1 b2;clear h hb g0;go_enter func187,ntmps187;go_wp2_with fail
 refine(zb3 c q g _ w0 G0.out HB.out h'.out hc).mono ?_;rintro e w1 ⟨rfl,hR,hG⟩;have HR:Hid (Rd w1 g c (nxt c q)):=hR;have HG:Hid (w.grownBy w1 (some g)):=hG;have HB1:Hid (Below w0.heap.size w0 w1):=za8 HB.out hG hg;clear hR hG;go_wp2_with fail
 refine(zb3 c _ g _ w0 G0.out HB1.out HR.out hc).mono ?_;rintro e w2 ⟨rfl,hR2,hG2⟩;have HR2:Hid (Rd w2 g c (nxt2 c q)):=hR2;have HG2:Hid (w.grownBy w2 (some g)):=zaw HG.out hG2;clear hR2 hG2;go_wp2;go_ret;exact⟨zbo HT.out.symm,HR2.out,HG2.out⟩
theorem zev{w w':World}{o:Obj}{row:Option Nat}(h:(w.alloc o).grownBy w' row):w.grownBy w' row:=
 ⟨h.os,h.tape,h.output,aQ (by simp) h.size,fun k hk hr=>(h.block k (by simp;omega) hr).trans (Below.heap_alloc w o k hk)⟩
theorem zap{w w':World}{row:Option Nat}(h:w.grownBy w' row){a:Addr}(ha:w.heap.size<=a.block)(u:Value):w.grownBy (w'.setCell a u) row:=
 ⟨h.os,h.tape,h.output,aQ h.size (by simp [World.setCell]),fun k hk hr=>(heap_setCell_other w' a k u (by omega)).trans (h.block k hk hr)⟩
theorem Rd.other{w:World}{g:Nat}{c:List UInt8}{q:St}(h:Rd w g c q){a:Addr}(ha:g ≠ a.block)(u:Value):Rd (w.setCell a u) g c q:=by
 cases q with
 | some k=>exact Blk.other h ha u
 | none=>obtain⟨b,n,y,h⟩:=h;exact⟨b,n,y,Blk.other h ha u⟩
theorem Rd.alloc{w:World}{g:Nat}{c:List UInt8}{q:St}(h:Rd w g c q)(o:Obj):Rd (w.alloc o) g c q:=by
 cases q with
 | some k=>exact Blk.alloc h o
 | none=>obtain⟨b,n,y,h⟩:=h;exact⟨b,n,y,Blk.alloc h o⟩
theorem zl9(c:List UInt8)(q:St)(g:Nat)(w w0:World)(g0:Gd w0)(hb:Below w0.heap.size w0 w)(hg:w0.heap.size<=g)(h:Rd w g c q)(hc:c.length<=9223372036854775807):
  Calls prog 205 #[.pointer (some ⟨g,0,none⟩)] w fun e w'=>e= .returned (dotV (dotR c q))∧Rd w' g c (nxt3 c q)∧w.grownBy w' (some g):=by
 have hlt:=h.lt;have hne:g ≠ w.heap.size:=by omega
 have h':Hid (Rd (w.alloc (.cells #[.int .i64 0, .int .i64 0, .int .i64 0] 125)) g c q):=h.alloc _;have HB:Hid (Below w0.heap.size w0 (w.alloc (.cells #[.int .i64 0, .int .i64 0, .int .i64 0] 125))):=hb.alloc hb.size _;have HK:Hid (Blk (w.alloc (.cells #[.int .i64 0, .int .i64 0, .int .i64 0] 125)) w.heap.size #[.int .i64 0, .int .i64 0, .int .i64 0] 125):=heap_alloc_new w _;have G0:Hid (Gd w0):=g0;clear h hb g0;go_enter func205,ntmps205;go_wp2_with fail
 refine(zb3 c q g _ w0 G0.out HB.out h'.out hc).mono ?_;rintro e w1 ⟨rfl,hR,hG⟩;have HR:Hid (Rd w1 g c (nxt c q)):=hR;have HG:Hid ((w.alloc (.cells #[.int .i64 0, .int .i64 0, .int .i64 0] 125)).grownBy w1 (some g)):=hG;have HB1:Hid (Below w0.heap.size w0 w1):=za8 HB.out hG hg;clear hR hG;go_wp2_with fail
 refine(zb3 c _ g _ w0 G0.out HB1.out HR.out hc).mono ?_;rintro e w2 ⟨rfl,hR2,hG2⟩;have HR2:Hid (Rd w2 g c (nxt2 c q)):=hR2;have HG2:Hid ((w.alloc (.cells #[.int .i64 0, .int .i64 0, .int .i64 0] 125)).grownBy w2 (some g)):=zaw HG.out hG2;have HB2:Hid (Below w0.heap.size w0 w2):=za8 HB1.out hG2 hg;clear hR2 hG2;go_wp2_with fail
 refine(zb3 c _ g _ w0 G0.out HB2.out HR2.out hc).mono ?_;rintro e w3 ⟨rfl,hR3,hG3⟩;have HR3:Hid (Rd w3 g c (nxt3 c q)):=hR3;have HG3:Hid ((w.alloc (.cells #[.int .i64 0, .int .i64 0, .int .i64 0] 125)).grownBy w3 (some g)):=zaw HG2.out hG3;have HK3:Hid (Blk w3 w.heap.size #[.int .i64 0, .int .i64 0, .int .i64 0] 125):=HK.out.grown HG3.out (by simp;omega);have d0:w3.cell? ⟨w.heap.size,0,none⟩=some (.int .i64 0):=HK3.out.cell 0;have d1:w3.cell? ⟨w.heap.size,1,none⟩=some (.int .i64 0):=HK3.out.cell 1;have d2:w3.cell? ⟨w.heap.size,2,none⟩=some (.int .i64 0):=HK3.out.cell 2;have z0:=HK3.out.frozen 0;have z1:=HK3.out.frozen 1;have z2:=HK3.out.frozen 2;clear hR3 hG3;go_wp2;have HF:Hid (Blk (((w3.setCell ⟨w.heap.size,0,none⟩ (I (Wv.one c q))).setCell ⟨w.heap.size,1,none⟩ (I (Wv.one c (nxt c q)))).setCell ⟨w.heap.size,2,none⟩ (I (Wv.one c (nxt2 c q)))) w.heap.size #[I (Wv.one c q),I (Wv.one c (nxt c q)),I (Wv.one c (nxt2 c q))] 125):=((HK3.out.set 0 _).set 1 _).set 2 _;have HZ:Hid (Rd (((w3.setCell ⟨w.heap.size,0,none⟩ (I (Wv.one c q))).setCell ⟨w.heap.size,1,none⟩ (I (Wv.one c (nxt c q)))).setCell ⟨w.heap.size,2,none⟩ (I (Wv.one c (nxt2 c q)))) g c (nxt3 c q)):=((HR3.out.other hne _).other hne _).other hne _;have HY:Hid (w.grownBy (((w3.setCell ⟨w.heap.size,0,none⟩ (I (Wv.one c q))).setCell ⟨w.heap.size,1,none⟩ (I (Wv.one c (nxt c q)))).setCell ⟨w.heap.size,2,none⟩ (I (Wv.one c (nxt2 c q)))) (some g)):=zap (zap (zap (zev HG3.out) (ac _) _) (ac _) _) (ac _) _;generalize (((w3.setCell ⟨w.heap.size,0,none⟩ (I (Wv.one c q))).setCell ⟨w.heap.size,1,none⟩ (I (Wv.one c (nxt c q)))).setCell ⟨w.heap.size,2,none⟩ (I (Wv.one c (nxt2 c q))))=wF at *
 have f0:wF.cell? ⟨w.heap.size,0,none⟩=some (I (Wv.one c q)):=HF.out.cell 0;have f1:wF.cell? ⟨w.heap.size,1,none⟩=some (I (Wv.one c (nxt c q))):=HF.out.cell 1;have f2:wF.cell? ⟨w.heap.size,2,none⟩=some (I (Wv.one c (nxt2 c q))):=HF.out.cell 2;refine bodyPost_ret (v:=dotV (dotR c q)) (by simp [results,Tryz.results205,go_sem,f0,f1,f2];exact⟨rfl,rfl,rfl⟩) rfl ⟨rfl,HZ.out,HY.out⟩
theorem fail_err(c:List UInt8)(q:St)(g:Nat)(T:TypeId)(x:Value)(w:World)(h:Rd w g c q):
  Calls prog 165 #[.pointer (some ⟨g,0,none⟩), .iface T x] w fun e w'=>e= .returned (.tuple #[])∧Rd w' g c none∧w.grownBy w' (some g):=by
 cases q with
 | some k=>exact zf8 c k g T x w h
 | none=>exact zf9 c g _ w h
theorem zup(c:List UInt8)(q:St)(g:Nat)(w:World)(h:Rd w g c q):
  Calls prog 165 #[.pointer (some ⟨g,0,none⟩), .nilIface] w fun e w'=>e= .returned (.tuple #[])∧Rd w' g c q∧w.grownBy w' (some g):=by
 cases q with
 | some k=>exact fail_nil c k g w h
 | none=>exact zf9 c g _ w h
abbrev eff0:Array Value:= #[.int .i64 0, .int .i64 0, .int .i64 0, .int .i64 0, .int .i64 0, .int .i64 0, .slice none 0 0]
structure Ew(w w0 wi:World)(g E:Nat)(c:List UInt8)(q:St)(es:Array Value):Prop where
 rd:Rd wi g c q
 grown:w.grownBy wi (some g)
 below:Below w0.heap.size w0 wi
 kR:Blk wi w.heap.size eff0 128
 kE:Blk wi E es 128
 lt:w.heap.size<E
 lg:g<w.heap.size
 gg:w0.heap.size<=g
theorem Ew.kept{w w0 wi wj:World}{g E:Nat}{c:List UInt8}{q:St}{es:Array Value}(h:Ew w w0 wi g E c q es)(hb:Below wi.heap.size wi wj):Ew w w0 wj g E c q es:=
 ⟨h.rd.kept hb h.rd.lt,zaw h.grown ⟨hb.os,hb.tape,hb.output,hb.size,fun k hk _=>hb.block k hk⟩,h.below.trans (hb.mono h.below.size),h.kR.kept hb h.kR.lt,h.kE.kept hb h.kE.lt,h.lt,h.lg,h.gg⟩
theorem Ew.alloc{w w0 wi:World}{g E:Nat}{c:List UInt8}{q:St}{es:Array Value}(h:Ew w w0 wi g E c q es)(o:Obj):Ew w w0 (wi.alloc o) g E c q es:=
 h.kept ((Below.refl _ _).alloc (ac _) _)
theorem Ew.read{w w0 wi wj:World}{g E:Nat}{c:List UInt8}{q q':St}{es:Array Value}(h:Ew w w0 wi g E c q es)(hg:wi.grownBy wj (some g))(hr:Rd wj g c q'):Ew w w0 wj g E c q' es:=
 ⟨hr,zaw h.grown hg,za8 h.below hg h.gg,h.kR.grown hg (by have:=h.lg;simp;omega),h.kE.grown hg (by have:=h.lg;have:=h.lt;simp;omega),h.lt,h.lg,h.gg⟩
theorem Ew.set{w w0 wi:World}{g E:Nat}{c:List UInt8}{q:St}{es:Array Value}(h:Ew w w0 wi g E c q es)(j:Nat)(u:Value):Ew w w0 (wi.setCell ⟨E,j,none⟩ u) g E c q (es.setIfInBounds j u):=
 ⟨h.rd.other (by have:=h.lg;have:=h.lt;show g ≠ E;omega) u,zap h.grown (by have:=h.lt;show w.heap.size<=E;omega) u,h.below.setCell (by have:=h.lt;have:=h.lg;have:=h.gg;show w0.heap.size<=E;omega) u,h.kR.other (by have:=h.lt;show w.heap.size ≠ E;omega) u,h.kE.set j u,h.lt,h.lg,h.gg⟩
theorem Ew.begin{w w0 w3:World}{g:Nat}{c:List UInt8}{q:St}(h1:Rd w3 g c q)(h2:w.grownBy w3 (some g))(h3:Below w0.heap.size w0 w3)(h4:Blk w3 w.heap.size eff0 128)(h5:g<w.heap.size)(h6:w0.heap.size<=g)(es:Array Value):
  Ew w w0 (w3.alloc (.cells es 128)) g w3.heap.size c q es:=
 ⟨h1.alloc _,zaw h2 (zev (zco _ _)),h3.alloc h3.size _,h4.alloc _,heap_alloc_new w3 _,h4.lt,h5,h6⟩
abbrev put7 (w:World) (R:Nat) (a0 a1 a2 a3 a4 a5 a6:Value):World:=((((((w.setCell ⟨R,0,none⟩ a0).setCell ⟨R,1,none⟩ a1).setCell ⟨R,2,none⟩ a2).setCell ⟨R,3,none⟩ a3).setCell ⟨R,4,none⟩ a4).setCell ⟨R,5,none⟩ a5).setCell ⟨R,6,none⟩ a6
theorem zf2(w:World)(R:Nat)(a0 a1 a2 a3 a4 a5 a6:Value)(k:Nat)(h:k ≠ R):(put7 w R a0 a1 a2 a3 a4 a5 a6).heap[k]?=w.heap[k]?:=by
 unfold put7;rw [heap_setCell_other _ ⟨R,6,none⟩ k _ h,heap_setCell_other _ ⟨R,5,none⟩ k _ h,heap_setCell_other _ ⟨R,4,none⟩ k _ h,heap_setCell_other _ ⟨R,3,none⟩ k _ h,heap_setCell_other _ ⟨R,2,none⟩ k _ h,heap_setCell_other _ ⟨R,1,none⟩ k _ h,heap_setCell_other _ ⟨R,0,none⟩ k _ h]
theorem zhh{w:World}{R:Nat}(h:Blk w R eff0 128)(a0 a1 a2 a3 a4 a5 a6:Value):Blk (put7 w R a0 a1 a2 a3 a4 a5 a6) R #[a0,a1,a2,a3,a4,a5,a6] 128:=
 ((((((h.set 0 a0).set 1 a1).set 2 a2).set 3 a3).set 4 a4).set 5 a5).set 6 a6
theorem Ew.fin{w w0 wi:World}{g E:Nat}{c:List UInt8}{q:St}{es:Array Value}(h:Ew w w0 wi g E c q es)(a0 a1 a2 a3 a4 a5 a6:Value):
  Rd (put7 wi w.heap.size a0 a1 a2 a3 a4 a5 a6) g c q∧w.grownBy (put7 wi w.heap.size a0 a1 a2 a3 a4 a5 a6) (some g):=by
 have hl:=h.lg;refine⟨?_, ?_⟩
 ·unfold put7
  exact((((((h.rd.other (by show g ≠ w.heap.size;omega) _).other (by show g ≠ w.heap.size;omega) _).other (by show g ≠ w.heap.size;omega) _).other (by show g ≠ w.heap.size;omega) _).other (by show g ≠ w.heap.size;omega) _).other (by show g ≠ w.heap.size;omega) _).other (by show g ≠ w.heap.size;omega) _
 ·unfold put7
  exact zap (zap (zap (zap (zap (zap (zap h.grown (ac _) _) (ac _) _) (ac _) _) (ac _) _) (ac _) _) (ac _) _) (ac _) _
theorem Rd.drew{w:World}{g:Nat}{c:List UInt8}{q:St}(h:Rd w g c q):Rd w.drew g c q:=by
 cases q with
 | some k=>exact Blk.drew h
 | none=>obtain⟨b,n,y,h⟩:=h;exact⟨b,n,y,Blk.drew h⟩
theorem Ew.drew{w w0 wi:World}{g E:Nat}{c:List UInt8}{q:St}{es:Array Value}(h:Ew w w0 wi g E c q es):Ew w w0 wi.drew g E c q es:=
 ⟨h.rd.drew,⟨h.grown.os,h.grown.tape,h.grown.output,h.grown.size,h.grown.block⟩,h.below.drew,h.kR.drew,h.kE.drew,h.lt,h.lg,h.gg⟩
theorem Ew.grow{w w0 wi wj:World}{g E:Nat}{c:List UInt8}{q:St}{es:Array Value}{row:Option Nat}(h:Ew w w0 wi g E c q es)(hg:wi.grownBy wj row)(hr:∀b,row=some b->E<b):Ew w w0 wj g E c q es:=by
 have h1:=h.lt;have h2:=h.lg;have h3:=h.gg;have ne:∀k,k<=E->some k ≠ row:=fun k hk e=>by have:=hr k e.symm;omega
 exact⟨h.rd.grown hg (ne _ (by omega)),⟨hg.os.trans h.grown.os,hg.tape.trans h.grown.tape,hg.output.trans h.grown.output,aQ h.grown.size hg.size,fun k hk hk2=>(hg.block k (Nat.lt_of_lt_of_le hk h.grown.size) (ne _ (by omega))).trans (h.grown.block k hk hk2)⟩,
  h.below.grown hg h.below.size (fun k e=>by have:=hr k e;omega),h.kR.grown hg (ne _ (by omega)),h.kE.grown hg (ne _ (by omega)),h.lt,h.lg,h.gg⟩
theorem zfo{w:World}{base base':Nat}{e:TypeId}{size n:Nat}{v:Value}{xs:List Value}(h:w.ownsRow base e size v n xs)(hb:base'<=base):w.ownsRow base' e size v n xs:=by
 refine⟨h.1, ?_⟩;rcases h.2 with h2 | ⟨g,cap,cur,rfl,hbg,r⟩
 ·exact .inl h2
 ·exact .inr ⟨g,cap,cur,rfl,aQ hb hbg,r⟩
theorem infoDt:(prog.info? 125).map (fun i=>(i.zero,i.size,i.bytes))=some (some (.agg #[.int .i64 0, .int .i64 0, .int .i64 0]),3,24):=by kernel_rfl
theorem dot_one(d:Dt):∀u∈ [I d.o,I d.s,I d.i],u.oneCell'=true:=by
 intro u hu;simp only [ar,List.mem_nil_iff,or_false] at hu;rcases hu with rfl | rfl | rfl<;>rfl
theorem zms{α:Type}(f:α->List Value)(l:List α)(x:α):flat f (l++ [x])=flat f l++f x:=by
 induction l with
 | nil=>simp [flat]
 | cons y l ih=>simp only [aR,flat,ih,au]
theorem zyf(n:Int)(h1:0<=n)(h2:n<=65535):wrap64 (IntKind.i16.wrap n)=v16 n:=by
 simp only [IntKind.wrap,IntKind.bits,IntKind.signed,wrap64,v16];simp;split<;>split<;>omega
