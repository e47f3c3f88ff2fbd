import Derived.Test.YtfmcngncaffloaaGreatDoorG48GaO
set_option maxHeartbeats 6400000
namespace Go.Proofs.YtfmcngncaffloaaGreatDoor
open Go.RowKit
set_option maxRecDepth 100000
theorem zxe:(Tryz.prog.info? 75).map (fun i=>(i.zero,i.size,i.bytes))=some (some (.agg #[.pointer none, .pointer none]),2,16):=by kernel_rfl
theorem zud(script:List Wop)(sa:Option Addr)(sc:Nat)(w0:World)(eb ef:Addr)(hg:Gl w0 eb ef)(hp:Pw w0)(hIt:zay)(hA:At w0 sa (flat Wop.list script))(hr:∀p∈script, -9223372036854775808<=p.s∧p.s<=9223372036854775807)(hl:script.length<=1048576):
  Calls Tryz.prog 12 #[.slice sa script.length sc,I 7,I 8] w0 fun e w'=>e= .returned (.bool true)∧Below w0.heap.size w0 w':=by
 have HS0:Hid (Gs w0 eb ef w0.heap.size 0 (w0.alloc (.cells #[.slice none 0 0, .slice none 0 0,I 0] 68))):=Gs.start hg hp
 have HA:Hid (At w0 sa (flat Wop.list script)):=hA
 have HR:Hid (∀p∈script, -9223372036854775808<=p.s∧p.s<=9223372036854775807):=hr
 have HIT:Hid zay:=hIt
 clear hg hp hIt hA hr
 go_enter Tryz.func12,Tryz.ntmps12
 go_wp2_with fail
 go_loopw [8] (fun x wr=>∃i:Nat,i<=script.length∧x=I i∧Hid (Gs w0 eb ef w0.heap.size i wr)) (fun x _=>script.length - (intOf x).toNat)
 case atStart=>exact⟨0,Nat.zero_le _,rfl,HS0.out⟩
 case round=>
  obtain⟨i,hi,rfl,HS⟩:=hrel
  clear HS0
  by_cases hlt:i<script.length
  ·have hii:(i:Int)<script.length:=by omega
   obtain⟨p,q,rfl,hc⟩:=zsg HA.out (by omega)
   have hbel:=HS.out.bel
   have c0:wr.cell? ⟨p,q+i*7,none⟩=some (I script[i].k):=zaa hbel (hc i hlt 0 _ rfl)
   have c1:wr.cell? ⟨p,q+i*7+1,none⟩=some (I script[i].s):=zaa hbel (hc i hlt 1 _ rfl)
   have c2:wr.cell? ⟨p,q+i*7+2,none⟩=some (I script[i].r):=zaa hbel (hc i hlt 2 _ rfl)
   have c3:wr.cell? ⟨p,q+i*7+3,none⟩=some (I script[i].a):=zaa hbel (hc i hlt 3 _ rfl)
   have c4:wr.cell? ⟨p,q+i*7+4,none⟩=some (I script[i].b):=zaa hbel (hc i hlt 4 _ rfl)
   have c5:wr.cell? ⟨p,q+i*7+5,none⟩=some (I script[i].c):=zaa hbel (hc i hlt 5 _ rfl)
   have c6:wr.cell? ⟨p,q+i*7+6,none⟩=some (I script[i].d):=zaa hbel (hc i hlt 6 _ rfl)
   have HRS:Hid (-9223372036854775808<=script[i].s∧script[i].s<=9223372036854775807):=HR.out _ (List.getElem_mem hlt)
   clear hc hbel HR
   generalize script[i]=s at *
   obtain⟨k,sn,r,a,b,c,d⟩:=s
   dsimp only at c0 c1 c2 c3 c4 c5 c6 HRS
   have HBX:Hid (Below wr.heap.size wr (wr.alloc (.cells #[I k,I sn,I r,I a,I b,I c,I d] 70))):=(Below.refl _ _).alloc (Nat.le_refl _) _
   by_cases h8:8<k
   ·have HT:Hid (Gs w0 eb ef w0.heap.size (i+1) (wr.alloc (.cells #[I k,I sn,I r,I a,I b,I c,I d] 70))):=(HS.out.news HBX.out).more (by omega)
    clear HS HBX
    go_wp2_with fail
    refine(HT.out.kept (by omega)).mono ?_
    rintro e wK ⟨rfl,hK⟩
    have HK:Hid (Gs w0 eb ef w0.heap.size (i+1) wK):=hK
    clear hK HT
    go_wp2_with fail
    go_roundw
    case rel=>exact⟨i+1,by omega,by go_num,HK.out⟩
    case measure=>simp [intOf];omega
   ·by_cases h1:k=1
    ·subst h1
     obtain⟨i9,HI9⟩:∃i,Hid (Tryz.prog.info? 75=some i∧i.zero=some (.agg #[.pointer none, .pointer none])∧i.size=2∧i.bytes=16):=by obtain⟨i,h⟩:=info_parts zxe;exact⟨i,h⟩
     obtain⟨ents,os,many,av,hGm,hRels,b1,b2,b3⟩:=HS.out
     have HN:Hid (Calls _ _ _ (wr.alloc (.cells #[I 1,I sn,I r,I a,I b,I c,I d] 70)) _):=zyb (hGm.news HBX.out) a
     have HX:Hid (Blk (wr.alloc (.cells #[I 1,I sn,I r,I a,I b,I c,I d] 70)) wr.heap.size #[I 1,I sn,I r,I a,I b,I c,I d] 70):=heap_alloc_new wr _
     have HRL:Hid (Rels ents∧os.length<=4*i∧many<=i):=⟨hRels,b2,b3⟩
     have hel:ents.length<=i:=b1
     clear HS HBX hGm hRels b1 b2 b3 HRS
     go_wp2_with fail
     refine HN.out.mono ?_
     rintro e w1 ⟨hb1,xp,z,rfl,hc⟩
     have HC:Hid (Calls _ _ _ _ _):=hc
     have hX1:=HX.out.kept hb1 HX.out.lt
     have x3:w1.cell? ⟨wr.heap.size,3,none⟩=some (I a):=hX1.cell 3
     have lt1:wr.heap.size<w1.heap.size:=hX1.lt
     clear hb1 hc HX hX1 HN c0 c1 c2 c3 c4 c5 c6
     go_wp2_with fail
     refine HC.out.mono ?_
     rintro e w2 ⟨hb2,en,rfl,rfl,hGn,hrel⟩
     obtain⟨owns,lw,oa,oc,hJ⟩:=hGn
     obtain⟨ga,gc,rfl⟩:=zar hJ.all
     have HJ:Hid (GmJ [] w0 w2 eb ef w0.heap.size ents en os many owns lw (.slice ga ents.length gc) oa oc):=hJ
     have g0:w2.cell? ⟨w0.heap.size,0,none⟩=some (.slice ga ents.length gc):=hJ.blk.cell 0
     have HRW:Hid (w2.ownsRow 0 75 2 (.slice ga ents.length gc) ents.length (flat prC ents)):=hJ.all
     have HNG:Hid ((Value.slice ga ents.length gc).ownBlock ≠ some w0.heap.size):=fun e=>by
      obtain⟨cs,h1⟩:=zcq hJ.all e
      rw [show w2.heap[w0.heap.size]?=some (.cells _ 68) from hJ.blk] at h1;cases h1
     have HPUT:Hid (∀g7 cap7 w7,Tch (fun j=>(Value.slice ga ents.length gc).ownBlock=some j) w2 w7->w7.ownsRow 0 75 2 (.slice (some ⟨g7,0,none⟩) (ents.length+1) cap7) (ents.length+1) (flat prC ents++prC en)->((Value.slice ga ents.length gc).ownBlock=some g7∨w2.heap.size<=g7)->Gs w0 eb ef w0.heap.size (i+1) (w7.setCell ⟨w0.heap.size,0,none⟩ (.slice (some ⟨g7,0,none⟩) (ents.length+1) cap7))):=fun g7 cap7 w7 t1 t2 t3=>⟨ents++ [en],os,many,_,hJ.put t1 t2 t3,fun j e' he=>(by
      rcases zi6 he with⟨_,q⟩ | ⟨_,q⟩
      ·exact HRL.out.1 j e' q
      ·exact hrel e' q),by rw [List.length_append];show ents.length+1<=i+1;omega,by have:=HRL.out.2.1;omega,by have:=HRL.out.2.2;omega⟩
     clear hb2 hJ hrel HC x3 lt1
     rcases en with _ | ⟨s7,S7,q7,Q7⟩
     ·skip
      have hone:∀u∈ [Value.pointer none, .pointer none],u.oneCell'=true:=by
       intro u hu
       simp only [List.mem_cons,List.mem_nil_iff,or_false] at hu
       rcases hu with rfl | rfl<;>rfl
      go_wp2_with (first
       | (at_builtin;go_must (refine wpList_append_lies _ rfl _ _ _ rfl 0 75 i9 (.agg #[.pointer none, .pointer none]) 2 16 Tryz.underlying65 HI9.out.1 HI9.out.2.1 HI9.out.2.2.1 HI9.out.2.2.2 rfl (by omega) (.slice ga ents.length gc) ents.length (flat prC ents) rfl (HRW.out.alloc _) ⟨w2.heap.size,0,none⟩ 1 1 [.pointer none, .pointer none] rfl rfl (zas w2 _ _) hone (by omega) (by unfold maxLen;omega) (by omega) (by omega) (w2.heap.size+1) (by simp) ?_;intro g7 cap7 w7 hown7 hgrow7 hat7 hlt7;have HT7:Hid (Tch (fun j=>(Value.slice ga ents.length gc).ownBlock=some j) w2 w7):=((Tch.refl _ w2).alloc _).then (Tch.grown hgrow7);have HK7:Hid (Blk w7 w0.heap.size #[.slice ga ents.length gc, .slice oa os.length oc,I many] 68):=HT7.out.blk HJ.out.blk HNG.out;have f1:w7.cell? ⟨w0.heap.size,0,none⟩=some (.slice ga ents.length gc):=HK7.out.cell 0;have z1:w7.frozen? ⟨w0.heap.size,0,none⟩=false:=HK7.out.frozen 0;have HT:Hid (Gs w0 eb ef w0.heap.size (i+1) (w7.setCell ⟨w0.heap.size,0,none⟩ (.slice (some ⟨g7,0,none⟩) (ents.length+1) cap7))):=HPUT.out g7 cap7 w7 HT7.out hown7 (hat7.imp id (fun e=>by omega));clear hown7 hgrow7 hat7 hlt7 HK7 HT7)))
      go_wp2_with fail
      refine(HT.out.kept (by omega)).mono ?_
      rintro e wK ⟨rfl,hK⟩
      have HK:Hid (Gs w0 eb ef w0.heap.size (i+1) wK):=hK
      clear hK HT
      go_wp2_with fail
      go_roundw
      case rel=>exact⟨i+1,by omega,by go_num,HK.out⟩
      case measure=>simp [intOf];omega
     ·skip
      have hone:∀u∈ [Value.pointer (some ⟨s7,0,none⟩), .pointer (some ⟨q7,0,none⟩)],u.oneCell'=true:=by
       intro u hu
       simp only [List.mem_cons,List.mem_nil_iff,or_false] at hu
       rcases hu with rfl | rfl<;>rfl
      go_wp2_with (first
       | (at_builtin;go_must (refine wpList_append_lies _ rfl _ _ _ rfl 0 75 i9 (.agg #[.pointer none, .pointer none]) 2 16 Tryz.underlying65 HI9.out.1 HI9.out.2.1 HI9.out.2.2.1 HI9.out.2.2.2 rfl (by omega) (.slice ga ents.length gc) ents.length (flat prC ents) rfl (HRW.out.alloc _) ⟨w2.heap.size,0,none⟩ 1 1 [.pointer (some ⟨s7,0,none⟩), .pointer (some ⟨q7,0,none⟩)] rfl rfl (zas w2 _ _) hone (by omega) (by unfold maxLen;omega) (by omega) (by omega) (w2.heap.size+1) (by simp) ?_;intro g7 cap7 w7 hown7 hgrow7 hat7 hlt7;have HT7:Hid (Tch (fun j=>(Value.slice ga ents.length gc).ownBlock=some j) w2 w7):=((Tch.refl _ w2).alloc _).then (Tch.grown hgrow7);have HK7:Hid (Blk w7 w0.heap.size #[.slice ga ents.length gc, .slice oa os.length oc,I many] 68):=HT7.out.blk HJ.out.blk HNG.out;have f1:w7.cell? ⟨w0.heap.size,0,none⟩=some (.slice ga ents.length gc):=HK7.out.cell 0;have z1:w7.frozen? ⟨w0.heap.size,0,none⟩=false:=HK7.out.frozen 0;have HT:Hid (Gs w0 eb ef w0.heap.size (i+1) (w7.setCell ⟨w0.heap.size,0,none⟩ (.slice (some ⟨g7,0,none⟩) (ents.length+1) cap7))):=HPUT.out g7 cap7 w7 HT7.out hown7 (hat7.imp id (fun e=>by omega));clear hown7 hgrow7 hat7 hlt7 HK7 HT7)))
      go_wp2_with fail
      refine(HT.out.kept (by omega)).mono ?_
      rintro e wK ⟨rfl,hK⟩
      have HK:Hid (Gs w0 eb ef w0.heap.size (i+1) wK):=hK
      clear hK HT
      go_wp2_with fail
      go_roundw
      case rel=>exact⟨i+1,by omega,by go_num,HK.out⟩
      case measure=>simp [intOf];omega
    ·have e1:(k==1)=false:=by simpa using h1
     obtain⟨ents,os,many,av,hGm,hRels,b1,b2,b3⟩:=HS.out
     by_cases hz:ents.length=0
     ·have HT:Hid (Gs w0 eb ef w0.heap.size (i+1) (wr.alloc (.cells #[I k,I sn,I r,I a,I b,I c,I d] 70))):=(HS.out.news HBX.out).more (by omega)
      have g0:∃ga gc,(wr.alloc (.cells #[I k,I sn,I r,I a,I b,I c,I d] 70)).cell? ⟨w0.heap.size,0,none⟩=some (.slice ga 0 gc):=by
       obtain⟨owns,lw,oa,oc,h⟩:=hGm.news HBX.out
       obtain⟨ga,gc,rfl⟩:=zar h.all
       rw [hz] at h
       exact⟨ga,gc,h.blk.cell 0⟩
      obtain⟨ga,gc,g0⟩:=g0
      clear HS HBX hGm hRels b1 b2 b3 hz h1
      go_wp2_with fail
      refine(HT.out.kept (by omega)).mono ?_
      rintro e wK ⟨rfl,hK⟩
      have HK:Hid (Gs w0 eb ef w0.heap.size (i+1) wK):=hK
      clear hK HT
      go_wp2_with fail
      go_roundw
      case rel=>exact⟨i+1,by omega,by go_num,HK.out⟩
      case measure=>simp [intOf];omega
     ·obtain⟨wX,hwX⟩:∃wX,wX=wr.alloc (.cells #[I k,I sn,I r,I a,I b,I c,I d] 70):=⟨_,rfl⟩
      have hY:Gm [(wr.heap.size, .cells (Wop.cells ⟨k,sn,r,a,b,c,d⟩) 70)] av w0 wX eb ef w0.heap.size ents os many:=by
       rw [hwX]
       refine Gm.more (Z:= []) hGm HBX.out [_] (fun q hq=> ?_)
       rw [List.mem_singleton.1 hq]
       exact⟨Nat.le_refl _,heap_alloc_new wr _⟩
      have hav:∃ga cap,av= .slice (some ⟨ga,0,none⟩) ents.length cap:=by
       obtain⟨owns,lw,oa,oc,h⟩:=hGm
       exact zij h.all (by omega)
      obtain⟨ga,cap,rfl⟩:=hav
      have hpk:=zwg sn ents.length (by omega)
      have ho:ents[pkN sn ents.length]?=some ents[pkN sn ents.length]:=List.getElem?_eq_getElem hpk
      have HP:Hid (∀w',Calls Tryz.prog 35 #[I sn,I ents.length] w' fun e w''=>e= .returned (I (pkN sn ents.length))∧w''=w'):=fun w'=>ztl sn ents.length w' (by omega) HRS.out.1 HRS.out.2 (by omega)
      have HC:Hid (Calls _ _ _ wX.drew _):=zst (i:=i) (hY.news ((Below.refl _ _).drew)) HIT.out hRels ho (by show k<=8;omega) h1 b1 b2 b3 (by omega)
      have hF:=hY.fct rfl ho
      unfold Fct at HC hF
      obtain⟨f0,f1,f2,f3,f4,f5,f6,f7,f8,f9⟩:=hF
      have hle:ents.length<=1048576:=by omega
      have hpi:(0:Int)<ents.length:=by omega
      clear hY ho HS hGm hRels b1 b2 b3 hz h1 HRS
      simp only [Wop.cells] at HC
      generalize xpV ents[pkN sn ents.length]=xp at *
      generalize wpV ents[pkN sn ents.length]=wp at *
      generalize pkN sn ents.length=kk at *
      generalize ents.length=m at *
      have y0:wX.drew.cell? ⟨w0.heap.size,0,none⟩=_:=f0
      have y1:wX.drew.cell? ⟨wr.heap.size,0,none⟩=some (I k):=f1
      have y2:wX.drew.cell? ⟨wr.heap.size,1,none⟩=some (I sn):=f2
      have y3:wX.drew.cell? ⟨wr.heap.size,2,none⟩=some (I r):=f3
      have y4:wX.drew.cell? ⟨wr.heap.size,3,none⟩=some (I a):=f4
      have y5:wX.drew.cell? ⟨wr.heap.size,4,none⟩=some (I b):=f5
      have y6:wX.drew.cell? ⟨wr.heap.size,5,none⟩=some (I c):=f6
      have y7:wX.drew.cell? ⟨wr.heap.size,6,none⟩=some (I d):=f7
      have y8:wX.drew.cell? ⟨ga,kk*2,none⟩=some xp:=f8
      have y9:wX.drew.cell? ⟨ga,kk*2+1,none⟩=some wp:=f9
      have g0:(wr.alloc (.cells #[I k,I sn,I r,I a,I b,I c,I d] 70)).cell? ⟨w0.heap.size,0,none⟩=some (.slice (some ⟨ga,0,none⟩) m cap):=by rw [←hwX];exact f0
      clear f0 f1 f2 f3 f4 f5 f6 f7 f8 f9 HBX
      go_wp2_with fail
      change Code.wp _ _ _ _ (wr.alloc (.cells #[I k,I sn,I r,I a,I b,I c,I d] 70))
      rw [←hwX]
      clear hwX g0 c0 c1 c2 c3 c4 c5 c6
      generalize wr.heap.size=B at *
      go_region_held3 (fun w'=>w'.cell? ⟨w0.heap.size,0,none⟩=some (.slice (some ⟨ga,0,none⟩) m cap)∧w'.cell? ⟨B,0,none⟩=some (I k)∧w'.cell? ⟨B,1,none⟩=some (I sn)∧w'.cell? ⟨B,2,none⟩=some (I r)∧w'.cell? ⟨B,3,none⟩=some (I a)∧w'.cell? ⟨B,4,none⟩=some (I b)∧w'.cell? ⟨B,5,none⟩=some (I c)∧w'.cell? ⟨B,6,none⟩=some (I d)∧w'.cell? ⟨ga,kk*2,none⟩=some xp∧w'.cell? ⟨ga,kk*2+1,none⟩=some wp) (exact⟨by with_reducible assumption,by with_reducible assumption,by with_reducible assumption,by with_reducible assumption,by with_reducible assumption,by with_reducible assumption,by with_reducible assumption,by with_reducible assumption,by with_reducible assumption,by with_reducible assumption⟩)
       (first
       | (go_at_call 35;refine(HP.out _).mono ?_;rintro e w3 ⟨rfl,hw3⟩;subst hw3)
       | (go_at_call 34;refine HC.out.mono ?_;rintro e w3 ⟨cw,rfl,⟨q0,q1,q2,q3,q4,q5,q6,q7,q8,q9⟩,h3⟩;have HT:Hid (Gs w0 eb ef w0.heap.size (i+1) w3):=h3;clear h3))
      clear y0 y1 y2 y3 y4 y5 y6 y7 y8 y9 q0 q1 q2 q3 q4 q5 q6 q7 q8 q9 HP HC
      go_wp2_with fail
      refine(HT.out.kept (by omega)).mono ?_
      rintro e wK ⟨rfl,hK⟩
      have HK:Hid (Gs w0 eb ef w0.heap.size (i+1) wK):=hK
      clear hK HT
      go_wp2_with fail
      go_roundw
      case rel=>exact⟨i+1,by omega,by go_num,HK.out⟩
      case measure=>simp [intOf];omega
  ·have hii:¬(i:Int)<script.length:=by omega
   go_wp2
   go_ret
   exact⟨rfl,HS.out.bel⟩
end Go.Proofs.YtfmcngncaffloaaGreatDoor
