import Derived.Test.YtfmcngncaffloabGreatDoorH15DecD
set_option maxHeartbeats 3200000
namespace Go.Proofs.YtfmcngncaffloabGreatDoor
open Go.RowKit
set_option maxRecDepth 100000
theorem zww(c:List UInt8)(q:Wv.St)(g:Nat)(w w0:World)(eb ef:Addr)(gl:Gl w0 eb ef)(g0:Gd w0)(hb:Below w0.heap.size w0 w)(hg:w0.heap.size<=g)(h:Rd w g c q)(hc:c.length<=9223372036854775807):
  Calls Tryz.prog 189 #[.pointer (some ⟨g,0,none⟩)] w fun e w'=>∃m:Em,e= .returned (effV m)∧m.e=(Wv.effF true c q).1∧w'.ownsRow w.heap.size 125 3 m.dv m.e.dots.length (flat zac m.e.dots)∧Rd w' g c (Wv.effF true c q).2∧w.grownBy w' (some g):=by
 have hlt:=h.lt
 have hne:g ≠ w.heap.size:=by omega
 have G0:Hid (Gd w0):=g0
 have GL:Hid (Gl w0 eb ef):=gl
 have HA1:Hid (Rd (w.alloc (.cells #[.int .i64 0, .int .i64 0, .int .i64 0, .int .i64 0, .int .i64 0, .int .i64 0, .slice none 0 0] 128)) g c q):=h.alloc _
 have HA2:Hid (Below w0.heap.size w0 (w.alloc (.cells #[.int .i64 0, .int .i64 0, .int .i64 0, .int .i64 0, .int .i64 0, .int .i64 0, .slice none 0 0] 128))):=hb.alloc hb.size _
 have HA3:Hid (Blk (w.alloc (.cells #[.int .i64 0, .int .i64 0, .int .i64 0, .int .i64 0, .int .i64 0, .int .i64 0, .slice none 0 0] 128)) w.heap.size #[.int .i64 0, .int .i64 0, .int .i64 0, .int .i64 0, .int .i64 0, .int .i64 0, .slice none 0 0] 128):=heap_alloc_new w _
 have HA4:Hid (w.grownBy (w.alloc (.cells #[.int .i64 0, .int .i64 0, .int .i64 0, .int .i64 0, .int .i64 0, .int .i64 0, .slice none 0 0] 128)) (some g)):=zdz (zb8 _ _)
 have hsA:w.heap.size<(w.alloc (.cells #[.int .i64 0, .int .i64 0, .int .i64 0, .int .i64 0, .int .i64 0, .int .i64 0, .slice none 0 0] 128)).heap.size:=by simp
 have hv:=zv9 _ (Wv.two_lt true c (Wv.nxt2 c q)).1 (Wv.two_lt true c (Wv.nxt2 c q)).2
 clear h hb g0 gl
 go_enter Tryz.func189,Tryz.ntmps189
 go_wp2_with fail
 generalize w.alloc (.cells #[.int .i64 0, .int .i64 0, .int .i64 0, .int .i64 0, .int .i64 0, .int .i64 0, .slice none 0 0] 128)=wA at *
 refine(zbp c q g _ w0 G0.out HA2.out HA1.out hc).mono ?_
 rintro e w1 ⟨rfl,hR,hG⟩
 have HR1:Hid (Rd w1 g c (Wv.nxt c q)):=hR
 have HG1:Hid (w.grownBy w1 (some g)):=zav HA4.out hG
 have HB1:Hid (Below w0.heap.size w0 w1):=za6 HA2.out hG hg
 have HK1:Hid (Blk w1 w.heap.size #[.int .i64 0, .int .i64 0, .int .i64 0, .int .i64 0, .int .i64 0, .int .i64 0, .slice none 0 0] 128):=HA3.out.grown hG (by simp;omega)
 clear hR hG HA1 HA2 HA3 HA4 hsA
 go_wp2_with fail
 refine(zbp c _ g _ w0 G0.out HB1.out HR1.out hc).mono ?_
 rintro e w2 ⟨rfl,hR,hG⟩
 have HR2:Hid (Rd w2 g c (Wv.nxt2 c q)):=hR
 have HG2:Hid (w.grownBy w2 (some g)):=zav HG1.out hG
 have HB2:Hid (Below w0.heap.size w0 w2):=za6 HB1.out hG hg
 have HK2:Hid (Blk w2 w.heap.size #[.int .i64 0, .int .i64 0, .int .i64 0, .int .i64 0, .int .i64 0, .int .i64 0, .slice none 0 0] 128):=HK1.out.grown hG (by simp;omega)
 clear hR hG HR1 HG1 HB1 HK1
 go_wp2_with fail
 refine(zds c _ g _ w0 G0.out HB2.out hg HR2.out hc).mono ?_
 rintro e w3 ⟨rfl,hR,hG⟩
 have HR3:Hid (Rd w3 g c (Wv.nxt2 c (Wv.nxt2 c q))):=hR
 have HG3:Hid (w.grownBy w3 (some g)):=zav HG2.out hG
 have HB3:Hid (Below w0.heap.size w0 w3):=za6 HB2.out hG hg
 have HK3:Hid (Blk w3 w.heap.size #[.int .i64 0, .int .i64 0, .int .i64 0, .int .i64 0, .int .i64 0, .int .i64 0, .slice none 0 0] 128):=HK2.out.grown hG (by simp;omega)
 clear hR hG HR2 HG2 HB2 HK2
 have EW:Hid (Ew w w0 (w3.alloc (.cells #[I (Wv.one c q),I (Wv.one c (Wv.nxt c q)),I (Wv.v16 (Wv.two true c (Wv.nxt2 c q))),I 0,I 0,I 0, .slice none 0 0] 128)) g w3.heap.size c (Wv.nxt2 c (Wv.nxt2 c q)) #[I (Wv.one c q),I (Wv.one c (Wv.nxt c q)),I (Wv.v16 (Wv.two true c (Wv.nxt2 c q))),I 0,I 0,I 0, .slice none 0 0]):=Ew.begin HR3.out HG3.out HB3.out HK3.out hlt hg _
 clear HR3 HG3 HB3 HK3
 have HE1:Hid (Wv.effF true c q=(⟨Wv.one c q,Wv.one c (Wv.nxt c q),Wv.v16 (Wv.two true c (Wv.nxt2 c q)),if Wv.rRef (Wv.one c q)=0 then⟨0,0,0⟩ else Wv.dotR c (Wv.eff5 true c q),(Wv.effD true c q).1⟩,(Wv.effD true c q).2)):=rfl
 have HE5:Hid (Wv.eff5 true c q=if !Wv.isOp (Wv.one c q) then none else Wv.nxt2 c (Wv.nxt2 c q)):=rfl
 have HE6:Hid (Wv.eff6 true c q=if Wv.rRef (Wv.one c q)=0 then Wv.eff5 true c q else Wv.nxt3 c (Wv.eff5 true c q)):=rfl
 have HED:Hid (Wv.effD true c q=if 0<Wv.rMostD (Wv.one c q) then Wv.run (Wv.dotF c) (Wv.one c (Wv.eff6 true c q)).toNat (Wv.nxt c (Wv.eff6 true c q)) else([],Wv.eff6 true c q)):=rfl
 go_wp2_with fail
 generalize hop:Wv.one c q=op at *
 generalize hob:Wv.one c (Wv.nxt c q)=ob at *
 generalize hva:Wv.v16 (Wv.two true c (Wv.nxt2 c q))=va at *
 generalize hq4:Wv.nxt2 c (Wv.nxt2 c q)=q4 at *
 clear hop hob hva hq4 hv
 by_cases ho:1<=op∧op<=6
 ·have HO:Hid (Wv.isOp op=true):=by show Wv.isOp op=true;simp [Wv.isOp,ho]
  refine(zbb op _ eb ef (GL.out.kept EW.out.below) ho).mono ?_
  rintro e w4 ⟨rfl,hb4⟩
  have EW4:Hid (Ew w w0 w4 g w3.heap.size c q4 #[I op,I ob,I va,I 0,I 0,I 0, .slice none 0 0]):=EW.out.kept hb4
  clear EW hb4 ho
  have EW5:Hid (Ew w w0 (w4.alloc (.cells #[I (Wv.rKind op),I (Wv.rLeast op),I (Wv.rGreat op),I (Wv.rRef op),I (Wv.rLeastD op),I (Wv.rMostD op)] 118)) g w3.heap.size c q4 #[I op,I ob,I va,I 0,I 0,I 0, .slice none 0 0]):=EW4.out.alloc _
  have RB5:Hid (Blk (w4.alloc (.cells #[I (Wv.rKind op),I (Wv.rLeast op),I (Wv.rGreat op),I (Wv.rRef op),I (Wv.rLeastD op),I (Wv.rMostD op)] 118)) w4.heap.size #[I (Wv.rKind op),I (Wv.rLeast op),I (Wv.rGreat op),I (Wv.rRef op),I (Wv.rLeastD op),I (Wv.rMostD op)] 118):=heap_alloc_new w4 _
  have hgw:g<w4.heap.size:=EW4.out.rd.lt
  have hEw:w3.heap.size<w4.heap.size:=EW4.out.kE.lt
  unfold ruleV
  go_wp2_with fail
  refine(zsu c q4 g _ EW5.out.rd).mono ?_
  rintro e w6 ⟨rfl,hR6,hG6⟩
  have EW6:Hid (Ew w w0 w6 g w3.heap.size c q4 #[I op,I ob,I va,I 0,I 0,I 0, .slice none 0 0]):=EW5.out.read hG6 hR6
  have RB6:Hid (Blk w6 w4.heap.size #[I (Wv.rKind op),I (Wv.rLeast op),I (Wv.rGreat op),I (Wv.rRef op),I (Wv.rLeastD op),I (Wv.rMostD op)] 118):=RB5.out.grown hG6 (by simp;omega)
  clear EW5 RB5 hR6 hG6 EW4
  have r0:w6.cell? ⟨w4.heap.size,0,none⟩=some (I (Wv.rKind op)):=RB6.out.cell 0
  have r1:w6.cell? ⟨w4.heap.size,1,none⟩=some (I (Wv.rLeast op)):=RB6.out.cell 1
  have r2:w6.cell? ⟨w4.heap.size,2,none⟩=some (I (Wv.rGreat op)):=RB6.out.cell 2
  have r3:w6.cell? ⟨w4.heap.size,3,none⟩=some (I (Wv.rRef op)):=RB6.out.cell 3
  have r4:w6.cell? ⟨w4.heap.size,4,none⟩=some (I (Wv.rLeastD op)):=RB6.out.cell 4
  have r5:w6.cell? ⟨w4.heap.size,5,none⟩=some (I (Wv.rMostD op)):=RB6.out.cell 5
  go_wp2_with fail
  refine(zcj _ _ _ _ _ (Wv.rRef op) _).mono ?_
  rintro e w7 ⟨rfl,hb7⟩
  have EW7:Hid (Ew w w0 w7 g w3.heap.size c q4 #[I op,I ob,I va,I 0,I 0,I 0, .slice none 0 0]):=EW6.out.kept hb7
  have RB7:Hid (Blk w7 w4.heap.size #[I (Wv.rKind op),I (Wv.rLeast op),I (Wv.rGreat op),I (Wv.rRef op),I (Wv.rLeastD op),I (Wv.rMostD op)] 118):=RB6.out.kept hb7 RB6.out.lt
  clear EW6 RB6 r0 r1 r2 r3 r4 r5 hb7
  have H5:Hid (Wv.eff5 true c q=q4):=by show _=_;rw [HE5.out,HO.out];rfl
  have r0:w7.cell? ⟨w4.heap.size,0,none⟩=some (I (Wv.rKind op)):=RB7.out.cell 0
  have r1:w7.cell? ⟨w4.heap.size,1,none⟩=some (I (Wv.rLeast op)):=RB7.out.cell 1
  have r2:w7.cell? ⟨w4.heap.size,2,none⟩=some (I (Wv.rGreat op)):=RB7.out.cell 2
  have r3:w7.cell? ⟨w4.heap.size,3,none⟩=some (I (Wv.rRef op)):=RB7.out.cell 3
  have r4:w7.cell? ⟨w4.heap.size,4,none⟩=some (I (Wv.rLeastD op)):=RB7.out.cell 4
  have r5:w7.cell? ⟨w4.heap.size,5,none⟩=some (I (Wv.rMostD op)):=RB7.out.cell 5
  by_cases hr:Wv.rRef op=0
  ·have hr1:(Wv.rRef op !=0)=false:=by rw [hr];rfl
   have H6:Hid (Wv.eff6 true c q=q4):=by show _=_;rw [HE6.out,if_pos hr,H5.out]
   have HREF:Hid ((Wv.effF true c q).1.ref=⟨0,0,0⟩):=by show _=_;rw [HE1.out];exact if_pos hr
   clear hr
   go_wp2_with fail
   refine(zbt _ _ _ _ _ (Wv.rMostD op) _).mono ?_
   rintro e w8 ⟨rfl,hb8⟩
   have EW8:Hid (Ew w w0 w8 g w3.heap.size c q4 #[I op,I ob,I va,I 0,I 0,I 0, .slice none 0 0]):=EW7.out.kept hb8
   clear EW7 RB7 r0 r1 r2 r3 r4 r5 hb8
   by_cases hm:0<Wv.rMostD op
   ·have hm1:decide (0<Wv.rMostD op)=true:=by simpa using hm
    have HD:Hid (Wv.effD true c q=Wv.run (Wv.dotF c) (Wv.one c q4).toNat (Wv.nxt c q4)):=by show _=_;rw [HED.out,if_pos hm,H6.out]
    clear hm
    go_wp2_with fail
    refine(zbp c q4 g _ w0 G0.out EW8.out.below EW8.out.rd hc).mono ?_
    rintro e w9 ⟨rfl,hR9,hG9⟩
    have EW9:Hid (Ew w w0 w9 g w3.heap.size c (Wv.nxt c q4) #[I op,I ob,I va,I 0,I 0,I 0, .slice none 0 0]):=EW8.out.read hG9 hR9
    clear EW8 hR9 hG9
    obtain⟨n1,n2⟩:=Wv.one_lt c q4
    obtain⟨N,hN⟩:=Int.eq_ofNat_of_zero_le n1
    have HNN:Hid ((Wv.one c q4).toNat=N):=by show _=_;omega
    rw [hN] at n2 ⊢
    clear hN n1
    have O9:Hid (w9.ownsRow (w3.heap.size+1) 125 3 (.slice none 0 0) 0 (flat zac [])):=⟨rfl, .inl ⟨rfl,rfl⟩⟩
    obtain⟨i,hi,hz0,hz1,hz2⟩:=info_parts infoDt
    go_wp2_with fail
    go_loopw [33] (fun x wr=>∃(k:Nat) (da:Option Addr) (dc:Nat),k<=N∧x=I k∧Hid (Ew w w0 wr g w3.heap.size c (Wv.run (Wv.dotF c) k (Wv.nxt c q4)).2 #[I op,I ob,I va,I 0,I 0,I 0, .slice da k dc])∧Hid (wr.ownsRow (w3.heap.size+1) 125 3 (.slice da k dc) k (flat zac (Wv.run (Wv.dotF c) k (Wv.nxt c q4)).1))) (fun x _=>N - (intOf x).toNat)
    case atStart=>exact⟨0,none,0,Nat.zero_le _,rfl,EW9,O9⟩
    case round=>
     obtain⟨k,da,dc,hk,rfl,HE,HO2⟩:=hrel
     clear EW9 O9
     by_cases hlt2:k<N
     ·have e6:wr.cell? ⟨w3.heap.size,6,none⟩=some (.slice da k dc):=HE.out.kE.cell 6
      have hEl:w3.heap.size<wr.heap.size:=HE.out.kE.lt
      have HRN:Hid ((Wv.run (Wv.dotF c) (k+1) (Wv.nxt c q4))=((Wv.run (Wv.dotF c) k (Wv.nxt c q4)).1++ [Wv.dotR c (Wv.run (Wv.dotF c) k (Wv.nxt c q4)).2],Wv.nxt3 c (Wv.run (Wv.dotF c) k (Wv.nxt c q4)).2)):=rfl
      generalize (Wv.run (Wv.dotF c) k (Wv.nxt c q4))=rr at *
      generalize hdd:Wv.dotR c rr.2=d at *
      go_wp2_with fail
      go_region_law ((first
       | (go_simp;go_at_call 205;refine(zk3 c rr.2 g _ w0 G0.out (by first | exact HE.out.below | exact HE.out.below.drew) hg (by first | exact HE.out.rd | exact HE.out.rd.drew) hc).mono ?_;rintro e w10 ⟨rfl,hR10,hG10⟩;rw [hdd];have E10:Hid (Ew w w0 w10 g w3.heap.size c (Wv.nxt3 c rr.2) #[I op,I ob,I va,I 0,I 0,I 0, .slice da k dc]):=(by first | exact HE.out.read hG10 hR10 | exact HE.out.drew.read hG10 hR10);have O10:Hid (w10.ownsRow (w3.heap.size+1) 125 3 (.slice da k dc) k (flat zac rr.1)):=zag HO2.out (fun b hb=>hG10.block b (HO2.out.lt b hb).2 (fun e=>by cases e;have:=(HO2.out.lt _ hb).1;have:=HE.out.lt;have:=HE.out.lg;omega));have e6a:w10.cell? ⟨w3.heap.size,6,none⟩=some (.slice da k dc):=E10.out.kE.cell 6;have e6c:(w10.alloc (.cells #[I d.o,I d.s,I d.i] 125)).cell? ⟨w3.heap.size,6,none⟩=some (.slice da k dc):=(E10.out.alloc _).kE.cell 6;clear hR10 hG10;dsimp only)
       | (refine step_append_lies _ (by rfl) _ _ _ (by rfl) (w3.heap.size+1) 125 i (.agg #[.int .i64 0, .int .i64 0, .int .i64 0]) 3 24 Tryz.underlying126 hi hz0 hz1 hz2 (by rfl) (by omega) (.slice da k dc) k (flat zac rr.1) (by rfl) (by first | exact O10.out.alloc _ | exact(O10.out.alloc _).drew | exact(O10.out.drew).alloc _) ⟨w10.heap.size,0,none⟩ 1 1 [I d.o,I d.s,I d.i] (by rfl) (by rfl) (by first | exact zb6 w10 _ _ | exact zcq w10 _ _) (dot_one d) (by omega) (by unfold maxLen;omega) (by omega) (by have:=E10.out.kE.lt;simp;omega) (w10.heap.size+1) (by simp) ?_;intro g5 cap5 w11 hown5 hgrow5 hat5 hlt5;have E11:Hid (Ew w w0 w11 g w3.heap.size c (Wv.nxt3 c rr.2) #[I op,I ob,I va,I 0,I 0,I 0, .slice da k dc]):=(E10.out.alloc _).grow hgrow5 (fun b hb=>by have:=(O10.out.lt b hb).1;omega);have e6b:w11.cell? ⟨w3.heap.size,6,none⟩=some (.slice da k dc):=E11.out.kE.cell 6;have x6b:=E11.out.kE.frozen 6)))
      all_goals
       (have LF:Hid (Ew w w0 (w11.setCell ⟨w3.heap.size,6,none⟩ (.slice (some ⟨g5,0,none⟩) (k+1) cap5)) g w3.heap.size c (Wv.nxt3 c rr.2) #[I op,I ob,I va,I 0,I 0,I 0, .slice (some ⟨g5,0,none⟩) (k+1) cap5]):=E11.out.set 6 _
        have LO:Hid ((w11.setCell ⟨w3.heap.size,6,none⟩ (.slice (some ⟨g5,0,none⟩) (k+1) cap5)).ownsRow (w3.heap.size+1) 125 3 (.slice (some ⟨g5,0,none⟩) (k+1) cap5) (k+1) (flat zac (rr.1++ [d]))):=by
         rw [zli]
         refine zag hown5 fun b hb=>heap_setCell_other _ ⟨w3.heap.size,6,none⟩ _ _ ?_
         have:=(hown5.lt b hb).1
         show b ≠ w3.heap.size
         omega
        clear E11 E10 O10 e6 e6a e6b e6c x6b hown5 hgrow5 hat5 hlt5 HE HO2
        go_wp2_with fail
        go_roundw
        case rel=>
         refine⟨k+1,some ⟨g5,0,none⟩,cap5,by omega,by go_num, ?_, ?_⟩
         ·rw [HRN.out];exact LF
         ·rw [HRN.out];exact LO
        case measure=>simp [intOf];omega)
     ·obtain rfl:k=N:=by omega
      have hlen:(Wv.run (Wv.dotF c) k (Wv.nxt c q4)).1.length=k:=Wv.run_len _ _ _
      have hE3:=HE.out.lt
      have HD2:Hid (Wv.effD true c q=(Wv.run (Wv.dotF c) k (Wv.nxt c q4))):=by show _=_;rw [HD.out,HNN.out]
      clear HNN HD
      generalize (Wv.run (Wv.dotF c) k (Wv.nxt c q4))=rr at *
      have e0:wr.cell? ⟨w3.heap.size,0,none⟩=some (I op):=HE.out.kE.cell 0
      have e1:wr.cell? ⟨w3.heap.size,1,none⟩=some (I ob):=HE.out.kE.cell 1
      have e2:wr.cell? ⟨w3.heap.size,2,none⟩=some (I va):=HE.out.kE.cell 2
      have e3:wr.cell? ⟨w3.heap.size,3,none⟩=some (I 0):=HE.out.kE.cell 3
      have e4:wr.cell? ⟨w3.heap.size,4,none⟩=some (I 0):=HE.out.kE.cell 4
      have e5:wr.cell? ⟨w3.heap.size,5,none⟩=some (I 0):=HE.out.kE.cell 5
      have e6:wr.cell? ⟨w3.heap.size,6,none⟩=some (.slice da k dc):=HE.out.kE.cell 6
      have k0:wr.cell? ⟨w.heap.size,0,none⟩=some (.int .i64 0):=HE.out.kR.cell 0
      have z0:=HE.out.kR.frozen 0
      have k1:wr.cell? ⟨w.heap.size,1,none⟩=some (.int .i64 0):=HE.out.kR.cell 1
      have z1:=HE.out.kR.frozen 1
      have k2:wr.cell? ⟨w.heap.size,2,none⟩=some (.int .i64 0):=HE.out.kR.cell 2
      have z2:=HE.out.kR.frozen 2
      have k3:wr.cell? ⟨w.heap.size,3,none⟩=some (.int .i64 0):=HE.out.kR.cell 3
      have z3:=HE.out.kR.frozen 3
      have k4:wr.cell? ⟨w.heap.size,4,none⟩=some (.int .i64 0):=HE.out.kR.cell 4
      have z4:=HE.out.kR.frozen 4
      have k5:wr.cell? ⟨w.heap.size,5,none⟩=some (.int .i64 0):=HE.out.kR.cell 5
      have z5:=HE.out.kR.frozen 5
      have k6:wr.cell? ⟨w.heap.size,6,none⟩=some (.slice none 0 0):=HE.out.kR.cell 6
      have z6:=HE.out.kR.frozen 6
      go_wp2
      have HF:Hid (Blk (put7 wr w.heap.size (I op) (I ob) (I va) (I 0) (I 0) (I 0) (.slice da k dc)) w.heap.size #[I op,I ob,I va,I 0,I 0,I 0, .slice da k dc] 128):=zgk HE.out.kR _ _ _ _ _ _ _
      have HY:Hid (Rd (put7 wr w.heap.size (I op) (I ob) (I va) (I 0) (I 0) (I 0) (.slice da k dc)) g c _∧w.grownBy (put7 wr w.heap.size (I op) (I ob) (I va) (I 0) (I 0) (I 0) (.slice da k dc)) (some g)):=HE.out.fin _ _ _ _ _ _ _
      have HP:Hid (∀bb,bb ≠ w.heap.size->(put7 wr w.heap.size (I op) (I ob) (I va) (I 0) (I 0) (I 0) (.slice da k dc)).heap[bb]?=wr.heap[bb]?):=fun bb hk=>ze5 _ _ _ _ _ _ _ _ _ bb hk
      unfold put7 at HF HY HP
      generalize (((((((wr.setCell ⟨w.heap.size,0,none⟩ (I op)).setCell ⟨w.heap.size,1,none⟩ (I ob)).setCell ⟨w.heap.size,2,none⟩ (I va)).setCell ⟨w.heap.size,3,none⟩ (I 0)).setCell ⟨w.heap.size,4,none⟩ (I 0)).setCell ⟨w.heap.size,5,none⟩ (I 0)).setCell ⟨w.heap.size,6,none⟩ (.slice da k dc))=wF at *
      have f0:wF.cell? ⟨w.heap.size,0,none⟩=some (I op):=HF.out.cell 0
      have f1:wF.cell? ⟨w.heap.size,1,none⟩=some (I ob):=HF.out.cell 1
      have f2:wF.cell? ⟨w.heap.size,2,none⟩=some (I va):=HF.out.cell 2
      have f3:wF.cell? ⟨w.heap.size,3,none⟩=some (I 0):=HF.out.cell 3
      have f4:wF.cell? ⟨w.heap.size,4,none⟩=some (I 0):=HF.out.cell 4
      have f5:wF.cell? ⟨w.heap.size,5,none⟩=some (I 0):=HF.out.cell 5
      have f6:wF.cell? ⟨w.heap.size,6,none⟩=some (.slice da k dc):=HF.out.cell 6
      refine bodyPost_ret (v:=effV ⟨⟨op,ob,va,⟨0,0,0⟩,rr.1⟩,da,dc⟩) (by simp [results,Tryz.results189,go_sem,f0,f1,f2,f3,f4,f5,f6,hlen]) rfl ⟨⟨⟨op,ob,va,⟨0,0,0⟩,rr.1⟩,da,dc⟩,rfl, ?_, ?_, ?_,HY.out.2⟩
      ·have:=HREF.out
       rw [HE1.out] at this ⊢
       rw [HD2.out] at this ⊢
       exact(congrArg (fun r=>(⟨op,ob,va,r,rr.1⟩:Wv.Ef)) this).symm
      ·have hp2:∀b,b ≠ w.heap.size->wF.heap[b]?=wr.heap[b]?:=HP.out
       have:=zag (w':=wF) HO2.out (fun b hb=>hp2 b (fun e=>by have h1:=(HO2.out.lt b hb).1;omega))
       refine zev (base:=w3.heap.size+1) ?_ (by omega)
       show wF.ownsRow _ _ _ (.slice da rr.1.length dc) rr.1.length _
       rw [hlen]
       exact this
      ·rw [HE1.out,HD2.out];exact HY.out.1
   ·have hm1:decide (0<Wv.rMostD op)=false:=by simpa using hm
    have HD:Hid (Wv.effD true c q=([],q4)):=by show _=_;rw [HED.out,if_neg hm,H6.out]
    clear hm
    have e0:w8.cell? ⟨w3.heap.size,0,none⟩=some (I op):=EW8.out.kE.cell 0
    have e1:w8.cell? ⟨w3.heap.size,1,none⟩=some (I ob):=EW8.out.kE.cell 1
    have e2:w8.cell? ⟨w3.heap.size,2,none⟩=some (I va):=EW8.out.kE.cell 2
    have e3:w8.cell? ⟨w3.heap.size,3,none⟩=some (I 0):=EW8.out.kE.cell 3
    have e4:w8.cell? ⟨w3.heap.size,4,none⟩=some (I 0):=EW8.out.kE.cell 4
    have e5:w8.cell? ⟨w3.heap.size,5,none⟩=some (I 0):=EW8.out.kE.cell 5
    have e6:w8.cell? ⟨w3.heap.size,6,none⟩=some (.slice none 0 0):=EW8.out.kE.cell 6
    have k0:w8.cell? ⟨w.heap.size,0,none⟩=some (.int .i64 0):=EW8.out.kR.cell 0
    have z0:=EW8.out.kR.frozen 0
    have k1:w8.cell? ⟨w.heap.size,1,none⟩=some (.int .i64 0):=EW8.out.kR.cell 1
    have z1:=EW8.out.kR.frozen 1
    have k2:w8.cell? ⟨w.heap.size,2,none⟩=some (.int .i64 0):=EW8.out.kR.cell 2
    have z2:=EW8.out.kR.frozen 2
    have k3:w8.cell? ⟨w.heap.size,3,none⟩=some (.int .i64 0):=EW8.out.kR.cell 3
    have z3:=EW8.out.kR.frozen 3
    have k4:w8.cell? ⟨w.heap.size,4,none⟩=some (.int .i64 0):=EW8.out.kR.cell 4
    have z4:=EW8.out.kR.frozen 4
    have k5:w8.cell? ⟨w.heap.size,5,none⟩=some (.int .i64 0):=EW8.out.kR.cell 5
    have z5:=EW8.out.kR.frozen 5
    have k6:w8.cell? ⟨w.heap.size,6,none⟩=some (.slice none 0 0):=EW8.out.kR.cell 6
    have z6:=EW8.out.kR.frozen 6
    go_wp2
    have HF:Hid (Blk (put7 w8 w.heap.size (I op) (I ob) (I va) (I 0) (I 0) (I 0) (.slice none 0 0)) w.heap.size #[I op,I ob,I va,I 0,I 0,I 0, .slice none 0 0] 128):=zgk EW8.out.kR _ _ _ _ _ _ _
    have HY:Hid (Rd (put7 w8 w.heap.size (I op) (I ob) (I va) (I 0) (I 0) (I 0) (.slice none 0 0)) g c _∧w.grownBy (put7 w8 w.heap.size (I op) (I ob) (I va) (I 0) (I 0) (I 0) (.slice none 0 0)) (some g)):=EW8.out.fin _ _ _ _ _ _ _
    have HP:Hid (∀bb,bb ≠ w.heap.size->(put7 w8 w.heap.size (I op) (I ob) (I va) (I 0) (I 0) (I 0) (.slice none 0 0)).heap[bb]?=w8.heap[bb]?):=fun bb hk=>ze5 _ _ _ _ _ _ _ _ _ bb hk
    unfold put7 at HF HY HP
    generalize (((((((w8.setCell ⟨w.heap.size,0,none⟩ (I op)).setCell ⟨w.heap.size,1,none⟩ (I ob)).setCell ⟨w.heap.size,2,none⟩ (I va)).setCell ⟨w.heap.size,3,none⟩ (I 0)).setCell ⟨w.heap.size,4,none⟩ (I 0)).setCell ⟨w.heap.size,5,none⟩ (I 0)).setCell ⟨w.heap.size,6,none⟩ (.slice none 0 0))=wF at *
    have f0:wF.cell? ⟨w.heap.size,0,none⟩=some (I op):=HF.out.cell 0
    have f1:wF.cell? ⟨w.heap.size,1,none⟩=some (I ob):=HF.out.cell 1
    have f2:wF.cell? ⟨w.heap.size,2,none⟩=some (I va):=HF.out.cell 2
    have f3:wF.cell? ⟨w.heap.size,3,none⟩=some (I 0):=HF.out.cell 3
    have f4:wF.cell? ⟨w.heap.size,4,none⟩=some (I 0):=HF.out.cell 4
    have f5:wF.cell? ⟨w.heap.size,5,none⟩=some (I 0):=HF.out.cell 5
    have f6:wF.cell? ⟨w.heap.size,6,none⟩=some (.slice none 0 0):=HF.out.cell 6
    refine bodyPost_ret (v:=effV ⟨⟨op,ob,va,⟨0,0,0⟩, []⟩,none,0⟩) (by simp [results,Tryz.results189,go_sem,f0,f1,f2,f3,f4,f5,f6]) rfl ⟨⟨⟨op,ob,va,⟨0,0,0⟩, []⟩,none,0⟩,rfl, ?_, ?_, ?_,HY.out.2⟩
    ·have:=HREF.out
     rw [HE1.out] at this ⊢
     rw [HD.out] at this ⊢
     exact(congrArg (fun r=>(⟨op,ob,va,r, []⟩:Wv.Ef)) this).symm
    ·exact⟨rfl, .inl ⟨rfl,rfl⟩⟩
    ·rw [HE1.out,HD.out];exact HY.out.1
  ·have hr1:(Wv.rRef op !=0)=true:=by simpa using hr
   have hm0:Wv.rMostD op=0:=by
    unfold Wv.rRef at hr
    unfold Wv.rMostD
    repeat' split at hr
    all_goals first | omega | simp_all
   have hm1:decide (0<Wv.rMostD op)=false:=by rw [hm0];rfl
   have H6:Hid (Wv.eff6 true c q=Wv.nxt3 c q4):=by show _=_;rw [HE6.out,if_neg hr,H5.out]
   have HREF:Hid ((Wv.effF true c q).1.ref=Wv.dotR c q4):=by show _=_;rw [HE1.out];exact(if_neg hr).trans (by rw [H5.out])
   have HD:Hid (Wv.effD true c q=([],Wv.nxt3 c q4)):=by show _=_;rw [HED.out,if_neg (by omega),H6.out]
   clear hr hm0
   go_wp2_with fail
   refine(zk3 c q4 g _ w0 G0.out EW7.out.below hg EW7.out.rd hc).mono ?_
   rintro e w8 ⟨rfl,hR8,hG8⟩
   have EW8:Hid (Ew w w0 w8 g w3.heap.size c (Wv.nxt3 c q4) #[I op,I ob,I va,I 0,I 0,I 0, .slice none 0 0]):=EW7.out.read hG8 hR8
   have RB8:Hid (Blk w8 w4.heap.size #[I (Wv.rKind op),I (Wv.rLeast op),I (Wv.rGreat op),I (Wv.rRef op),I (Wv.rLeastD op),I (Wv.rMostD op)] 118):=RB7.out.grown hG8 (by simp;omega)
   clear EW7 RB7 r0 r1 r2 r3 r4 r5 hR8 hG8
   generalize Wv.dotR c q4=d at *
   have y3:w8.cell? ⟨w3.heap.size,3,none⟩=some (.int .i64 0):=EW8.out.kE.cell 3
   have x3:=EW8.out.kE.frozen 3
   have y4:w8.cell? ⟨w3.heap.size,4,none⟩=some (.int .i64 0):=EW8.out.kE.cell 4
   have x4:=EW8.out.kE.frozen 4
   have y5:w8.cell? ⟨w3.heap.size,5,none⟩=some (.int .i64 0):=EW8.out.kE.cell 5
   have x5:=EW8.out.kE.frozen 5
   have r0:w8.cell? ⟨w4.heap.size,0,none⟩=some (I (Wv.rKind op)):=RB8.out.cell 0
   have r1:w8.cell? ⟨w4.heap.size,1,none⟩=some (I (Wv.rLeast op)):=RB8.out.cell 1
   have r2:w8.cell? ⟨w4.heap.size,2,none⟩=some (I (Wv.rGreat op)):=RB8.out.cell 2
   have r3:w8.cell? ⟨w4.heap.size,3,none⟩=some (I (Wv.rRef op)):=RB8.out.cell 3
   have r4:w8.cell? ⟨w4.heap.size,4,none⟩=some (I (Wv.rLeastD op)):=RB8.out.cell 4
   have r5:w8.cell? ⟨w4.heap.size,5,none⟩=some (I (Wv.rMostD op)):=RB8.out.cell 5
   go_wp2_with fail
   have EW9:Hid (Ew w w0 (((w8.setCell ⟨w3.heap.size,3,none⟩ (I d.o)).setCell ⟨w3.heap.size,4,none⟩ (I d.s)).setCell ⟨w3.heap.size,5,none⟩ (I d.i)) g w3.heap.size c (Wv.nxt3 c q4) #[I op,I ob,I va,I d.o,I d.s,I d.i, .slice none 0 0]):=((EW8.out.set 3 _).set 4 _).set 5 _
   clear EW8 RB8 r0 r1 r2 r3 r4 r5 y3 y4 y5 x3 x4 x5
   generalize (((w8.setCell ⟨w3.heap.size,3,none⟩ (I d.o)).setCell ⟨w3.heap.size,4,none⟩ (I d.s)).setCell ⟨w3.heap.size,5,none⟩ (I d.i))=w9 at *
   refine(zbt _ _ _ _ _ (Wv.rMostD op) _).mono ?_
   rintro e w10 ⟨rfl,hb10⟩
   have EW10:Hid (Ew w w0 w10 g w3.heap.size c (Wv.nxt3 c q4) #[I op,I ob,I va,I d.o,I d.s,I d.i, .slice none 0 0]):=EW9.out.kept hb10
   clear EW9 hb10
   have e0:w10.cell? ⟨w3.heap.size,0,none⟩=some (I op):=EW10.out.kE.cell 0
   have e1:w10.cell? ⟨w3.heap.size,1,none⟩=some (I ob):=EW10.out.kE.cell 1
   have e2:w10.cell? ⟨w3.heap.size,2,none⟩=some (I va):=EW10.out.kE.cell 2
   have e3:w10.cell? ⟨w3.heap.size,3,none⟩=some (I d.o):=EW10.out.kE.cell 3
   have e4:w10.cell? ⟨w3.heap.size,4,none⟩=some (I d.s):=EW10.out.kE.cell 4
   have e5:w10.cell? ⟨w3.heap.size,5,none⟩=some (I d.i):=EW10.out.kE.cell 5
   have e6:w10.cell? ⟨w3.heap.size,6,none⟩=some (.slice none 0 0):=EW10.out.kE.cell 6
   have k0:w10.cell? ⟨w.heap.size,0,none⟩=some (.int .i64 0):=EW10.out.kR.cell 0
   have z0:=EW10.out.kR.frozen 0
   have k1:w10.cell? ⟨w.heap.size,1,none⟩=some (.int .i64 0):=EW10.out.kR.cell 1
   have z1:=EW10.out.kR.frozen 1
   have k2:w10.cell? ⟨w.heap.size,2,none⟩=some (.int .i64 0):=EW10.out.kR.cell 2
   have z2:=EW10.out.kR.frozen 2
   have k3:w10.cell? ⟨w.heap.size,3,none⟩=some (.int .i64 0):=EW10.out.kR.cell 3
   have z3:=EW10.out.kR.frozen 3
   have k4:w10.cell? ⟨w.heap.size,4,none⟩=some (.int .i64 0):=EW10.out.kR.cell 4
   have z4:=EW10.out.kR.frozen 4
   have k5:w10.cell? ⟨w.heap.size,5,none⟩=some (.int .i64 0):=EW10.out.kR.cell 5
   have z5:=EW10.out.kR.frozen 5
   have k6:w10.cell? ⟨w.heap.size,6,none⟩=some (.slice none 0 0):=EW10.out.kR.cell 6
   have z6:=EW10.out.kR.frozen 6
   go_wp2
   have HF:Hid (Blk (put7 w10 w.heap.size (I op) (I ob) (I va) (I d.o) (I d.s) (I d.i) (.slice none 0 0)) w.heap.size #[I op,I ob,I va,I d.o,I d.s,I d.i, .slice none 0 0] 128):=zgk EW10.out.kR _ _ _ _ _ _ _
   have HY:Hid (Rd (put7 w10 w.heap.size (I op) (I ob) (I va) (I d.o) (I d.s) (I d.i) (.slice none 0 0)) g c _∧w.grownBy (put7 w10 w.heap.size (I op) (I ob) (I va) (I d.o) (I d.s) (I d.i) (.slice none 0 0)) (some g)):=EW10.out.fin _ _ _ _ _ _ _
   have HP:Hid (∀bb,bb ≠ w.heap.size->(put7 w10 w.heap.size (I op) (I ob) (I va) (I d.o) (I d.s) (I d.i) (.slice none 0 0)).heap[bb]?=w10.heap[bb]?):=fun bb hk=>ze5 _ _ _ _ _ _ _ _ _ bb hk
   unfold put7 at HF HY HP
   generalize (((((((w10.setCell ⟨w.heap.size,0,none⟩ (I op)).setCell ⟨w.heap.size,1,none⟩ (I ob)).setCell ⟨w.heap.size,2,none⟩ (I va)).setCell ⟨w.heap.size,3,none⟩ (I d.o)).setCell ⟨w.heap.size,4,none⟩ (I d.s)).setCell ⟨w.heap.size,5,none⟩ (I d.i)).setCell ⟨w.heap.size,6,none⟩ (.slice none 0 0))=wF at *
   have f0:wF.cell? ⟨w.heap.size,0,none⟩=some (I op):=HF.out.cell 0
   have f1:wF.cell? ⟨w.heap.size,1,none⟩=some (I ob):=HF.out.cell 1
   have f2:wF.cell? ⟨w.heap.size,2,none⟩=some (I va):=HF.out.cell 2
   have f3:wF.cell? ⟨w.heap.size,3,none⟩=some (I d.o):=HF.out.cell 3
   have f4:wF.cell? ⟨w.heap.size,4,none⟩=some (I d.s):=HF.out.cell 4
   have f5:wF.cell? ⟨w.heap.size,5,none⟩=some (I d.i):=HF.out.cell 5
   have f6:wF.cell? ⟨w.heap.size,6,none⟩=some (.slice none 0 0):=HF.out.cell 6
   refine bodyPost_ret (v:=effV ⟨⟨op,ob,va,d, []⟩,none,0⟩) (by simp [results,Tryz.results189,go_sem,f0,f1,f2,f3,f4,f5,f6]) rfl ⟨⟨⟨op,ob,va,d, []⟩,none,0⟩,rfl, ?_, ?_, ?_,HY.out.2⟩
   ·have:=HREF.out
    rw [HE1.out] at this ⊢
    rw [HD.out] at this ⊢
    exact(congrArg (fun r=>(⟨op,ob,va,r, []⟩:Wv.Ef)) this).symm
   ·exact⟨rfl, .inl ⟨rfl,rfl⟩⟩
   ·rw [HE1.out,HD.out];exact HY.out.1
 ·have HO:Hid (Wv.isOp op=false):=by show Wv.isOp op=false;simp [Wv.isOp];omega
  have hr:Wv.rRef op=0:=by unfold Wv.rRef;repeat' split<;>omega
  have hm:Wv.rMostD op=0:=by unfold Wv.rMostD;repeat' split<;>omega
  have H5:Hid (Wv.eff5 true c q=none):=by show _=_;rw [HE5.out,HO.out];rfl
  have H6:Hid (Wv.eff6 true c q=none):=by show _=_;rw [HE6.out,if_pos hr,H5.out]
  have HREF:Hid ((Wv.effF true c q).1.ref=⟨0,0,0⟩):=by show _=_;rw [HE1.out];exact if_pos hr
  have HD:Hid (Wv.effD true c q=([],none)):=by show _=_;rw [HED.out,if_neg (by omega),H6.out]
  refine(zg3 op _ eb ef (GL.out.kept EW.out.below) ho).mono ?_
  rintro e w4 ⟨⟨st,rfl⟩,hb4⟩
  have EW4:Hid (Ew w w0 w4 g w3.heap.size c q4 #[I op,I ob,I va,I 0,I 0,I 0, .slice none 0 0]):=EW.out.kept hb4
  clear EW hb4 ho hr hm
  have EW5:Hid (Ew w w0 (w4.alloc (.cells #[I 0,I 0,I 0,I 0,I 0,I 0] 118)) g w3.heap.size c q4 #[I op,I ob,I va,I 0,I 0,I 0, .slice none 0 0]):=EW4.out.alloc _
  have RB5:Hid (Blk (w4.alloc (.cells #[I 0,I 0,I 0,I 0,I 0,I 0] 118)) w4.heap.size #[I 0,I 0,I 0,I 0,I 0,I 0] 118):=heap_alloc_new w4 _
  have hgw:g<w4.heap.size:=EW4.out.rd.lt
  go_wp2_with fail
  refine(zya c q4 g _ _ _ EW5.out.rd).mono ?_
  rintro e w6 ⟨rfl,hR6,hG6⟩
  have EW6:Hid (Ew w w0 w6 g w3.heap.size c none #[I op,I ob,I va,I 0,I 0,I 0, .slice none 0 0]):=EW5.out.read hG6 hR6
  have RB6:Hid (Blk w6 w4.heap.size #[I 0,I 0,I 0,I 0,I 0,I 0] 118):=RB5.out.grown hG6 (by simp;omega)
  clear EW5 RB5 hR6 hG6 EW4
  have r0:w6.cell? ⟨w4.heap.size,0,none⟩=some (I 0):=RB6.out.cell 0
  have r1:w6.cell? ⟨w4.heap.size,1,none⟩=some (I 0):=RB6.out.cell 1
  have r2:w6.cell? ⟨w4.heap.size,2,none⟩=some (I 0):=RB6.out.cell 2
  have r3:w6.cell? ⟨w4.heap.size,3,none⟩=some (I 0):=RB6.out.cell 3
  have r4:w6.cell? ⟨w4.heap.size,4,none⟩=some (I 0):=RB6.out.cell 4
  have r5:w6.cell? ⟨w4.heap.size,5,none⟩=some (I 0):=RB6.out.cell 5
  go_wp2_with fail
  refine(zcj _ _ _ _ _ 0 _).mono ?_
  rintro e w7 ⟨rfl,hb7⟩
  have EW7:Hid (Ew w w0 w7 g w3.heap.size c none #[I op,I ob,I va,I 0,I 0,I 0, .slice none 0 0]):=EW6.out.kept hb7
  have RB7:Hid (Blk w7 w4.heap.size #[I 0,I 0,I 0,I 0,I 0,I 0] 118):=RB6.out.kept hb7 RB6.out.lt
  clear EW6 RB6 r0 r1 r2 r3 r4 r5 hb7
  have r0:w7.cell? ⟨w4.heap.size,0,none⟩=some (I 0):=RB7.out.cell 0
  have r1:w7.cell? ⟨w4.heap.size,1,none⟩=some (I 0):=RB7.out.cell 1
  have r2:w7.cell? ⟨w4.heap.size,2,none⟩=some (I 0):=RB7.out.cell 2
  have r3:w7.cell? ⟨w4.heap.size,3,none⟩=some (I 0):=RB7.out.cell 3
  have r4:w7.cell? ⟨w4.heap.size,4,none⟩=some (I 0):=RB7.out.cell 4
  have r5:w7.cell? ⟨w4.heap.size,5,none⟩=some (I 0):=RB7.out.cell 5
  go_wp2_with fail
  refine(zbt _ _ _ _ _ 0 _).mono ?_
  rintro e w8 ⟨rfl,hb8⟩
  have EW8:Hid (Ew w w0 w8 g w3.heap.size c none #[I op,I ob,I va,I 0,I 0,I 0, .slice none 0 0]):=EW7.out.kept hb8
  clear EW7 RB7 r0 r1 r2 r3 r4 r5 hb8
  have e0:w8.cell? ⟨w3.heap.size,0,none⟩=some (I op):=EW8.out.kE.cell 0
  have e1:w8.cell? ⟨w3.heap.size,1,none⟩=some (I ob):=EW8.out.kE.cell 1
  have e2:w8.cell? ⟨w3.heap.size,2,none⟩=some (I va):=EW8.out.kE.cell 2
  have e3:w8.cell? ⟨w3.heap.size,3,none⟩=some (I 0):=EW8.out.kE.cell 3
  have e4:w8.cell? ⟨w3.heap.size,4,none⟩=some (I 0):=EW8.out.kE.cell 4
  have e5:w8.cell? ⟨w3.heap.size,5,none⟩=some (I 0):=EW8.out.kE.cell 5
  have e6:w8.cell? ⟨w3.heap.size,6,none⟩=some (.slice none 0 0):=EW8.out.kE.cell 6
  have k0:w8.cell? ⟨w.heap.size,0,none⟩=some (.int .i64 0):=EW8.out.kR.cell 0
  have z0:=EW8.out.kR.frozen 0
  have k1:w8.cell? ⟨w.heap.size,1,none⟩=some (.int .i64 0):=EW8.out.kR.cell 1
  have z1:=EW8.out.kR.frozen 1
  have k2:w8.cell? ⟨w.heap.size,2,none⟩=some (.int .i64 0):=EW8.out.kR.cell 2
  have z2:=EW8.out.kR.frozen 2
  have k3:w8.cell? ⟨w.heap.size,3,none⟩=some (.int .i64 0):=EW8.out.kR.cell 3
  have z3:=EW8.out.kR.frozen 3
  have k4:w8.cell? ⟨w.heap.size,4,none⟩=some (.int .i64 0):=EW8.out.kR.cell 4
  have z4:=EW8.out.kR.frozen 4
  have k5:w8.cell? ⟨w.heap.size,5,none⟩=some (.int .i64 0):=EW8.out.kR.cell 5
  have z5:=EW8.out.kR.frozen 5
  have k6:w8.cell? ⟨w.heap.size,6,none⟩=some (.slice none 0 0):=EW8.out.kR.cell 6
  have z6:=EW8.out.kR.frozen 6
  go_wp2
  have HF:Hid (Blk (put7 w8 w.heap.size (I op) (I ob) (I va) (I 0) (I 0) (I 0) (.slice none 0 0)) w.heap.size #[I op,I ob,I va,I 0,I 0,I 0, .slice none 0 0] 128):=zgk EW8.out.kR _ _ _ _ _ _ _
  have HY:Hid (Rd (put7 w8 w.heap.size (I op) (I ob) (I va) (I 0) (I 0) (I 0) (.slice none 0 0)) g c _∧w.grownBy (put7 w8 w.heap.size (I op) (I ob) (I va) (I 0) (I 0) (I 0) (.slice none 0 0)) (some g)):=EW8.out.fin _ _ _ _ _ _ _
  have HP:Hid (∀bb,bb ≠ w.heap.size->(put7 w8 w.heap.size (I op) (I ob) (I va) (I 0) (I 0) (I 0) (.slice none 0 0)).heap[bb]?=w8.heap[bb]?):=fun bb hk=>ze5 _ _ _ _ _ _ _ _ _ bb hk
  unfold put7 at HF HY HP
  generalize (((((((w8.setCell ⟨w.heap.size,0,none⟩ (I op)).setCell ⟨w.heap.size,1,none⟩ (I ob)).setCell ⟨w.heap.size,2,none⟩ (I va)).setCell ⟨w.heap.size,3,none⟩ (I 0)).setCell ⟨w.heap.size,4,none⟩ (I 0)).setCell ⟨w.heap.size,5,none⟩ (I 0)).setCell ⟨w.heap.size,6,none⟩ (.slice none 0 0))=wF at *
  have f0:wF.cell? ⟨w.heap.size,0,none⟩=some (I op):=HF.out.cell 0
  have f1:wF.cell? ⟨w.heap.size,1,none⟩=some (I ob):=HF.out.cell 1
  have f2:wF.cell? ⟨w.heap.size,2,none⟩=some (I va):=HF.out.cell 2
  have f3:wF.cell? ⟨w.heap.size,3,none⟩=some (I 0):=HF.out.cell 3
  have f4:wF.cell? ⟨w.heap.size,4,none⟩=some (I 0):=HF.out.cell 4
  have f5:wF.cell? ⟨w.heap.size,5,none⟩=some (I 0):=HF.out.cell 5
  have f6:wF.cell? ⟨w.heap.size,6,none⟩=some (.slice none 0 0):=HF.out.cell 6
  refine bodyPost_ret (v:=effV ⟨⟨op,ob,va,⟨0,0,0⟩, []⟩,none,0⟩) (by simp [results,Tryz.results189,go_sem,f0,f1,f2,f3,f4,f5,f6]) rfl ⟨⟨⟨op,ob,va,⟨0,0,0⟩, []⟩,none,0⟩,rfl, ?_, ?_, ?_,HY.out.2⟩
  ·have:=HREF.out
   rw [HE1.out] at this ⊢
   rw [HD.out] at this ⊢
   exact(congrArg (fun r=>(⟨op,ob,va,r, []⟩:Wv.Ef)) this).symm
  ·exact⟨rfl, .inl ⟨rfl,rfl⟩⟩
  ·rw [HE1.out,HD.out];exact HY.out.1
end Go.Proofs.YtfmcngncaffloabGreatDoor
