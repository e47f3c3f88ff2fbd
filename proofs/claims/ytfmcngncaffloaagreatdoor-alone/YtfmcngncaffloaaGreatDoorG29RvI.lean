import Derived.Test.YtfmcngncaffloaaGreatDoorG28RfG
set_option maxHeartbeats 3200000
namespace Go.Proofs.YtfmcngncaffloaaGreatDoor
open Go.RowKit
set_option maxRecDepth 100000
theorem zks(bs:List Bm)(a:Option Addr)(c:Nat)(ob:Int)(w:World)(h:BatsAt w a bs)(hl:bs.length<=1048576)(hm:∀b∈bs,b.ms.length<=1048576)(hk:(za3 bs ob).length<=1048576):
    Calls Tryz.prog 131 #[.slice a bs.length c,I ob] w fun e w'=>∃v',e= .returned v'∧w'.ownsRow w.heap.size 259 11 v' (za3 bs ob).length (flat Mk.cells (za3 bs ob))∧Below w.heap.size w w':=by
  have HM:Hid (BatsAt w a bs):=h
  have HD:Hid (∀b∈bs,b.ms.length<=1048576):=hm
  have HK:Hid ((za3 bs ob).length<=1048576):=hk
  obtain⟨i1,HI1⟩:∃i,Hid (Tryz.prog.info? 259=some i∧i.zero=some mkZ∧i.size=11∧i.bytes=104):=by obtain⟨i,h⟩:=info_parts zg7;exact⟨i,h⟩
  clear h hm hk
  go_enter Tryz.func131,Tryz.ntmps131
  go_wp2_with fail
  go_loopw [5,6] (fun y x wr=>∃(i:Nat) (oa:Option Addr) (oc:Nat) (acc:List Mk),i<=bs.length∧x=I i∧y= .slice oa acc.length oc∧Hid (acc=(bs.take i).flatMap (zcx ob))∧Hid (wr.ownsRow w.heap.size 259 11 (.slice oa acc.length oc) acc.length (flat Mk.cells acc))∧Hid (Below w.heap.size w wr)) (fun _ x _=>bs.length - (intOf x).toNat)
  case atStart=>exact⟨0,none,0, [],by omega,rfl,rfl,rfl,⟨rfl, .inl ⟨rfl,rfl⟩⟩,Below.refl _ _⟩
  case round=>
    obtain⟨i,oa,oc,acc,hi,rfl,rfl,HO,HR,HB⟩:=hrel
    by_cases hlt:i<bs.length
    · have hii:(i:Int)<bs.length:=by omega
      obtain⟨p,q,rfl,hc⟩:=zhh HM.out.row (by omega)
      have HCL:Hid (∀w',Below w.heap.size w w'->∀j u,bs[i].cells[j]?=some u->w'.cell? ⟨p,q+i*5+j,none⟩=some u):=fun w' hb j u hu=>zaa hb (hc i hlt j u hu)
      have HBA:Hid (BatAt w bs[i].b bs[i].ca bs[i].ea bs[i].ms):=HM.out.bats _ (List.getElem_mem hlt)
      have HML:Hid (bs[i].ms.length<=1048576):=HD.out _ (List.getElem_mem hlt)
      have HSU:Hid ((bs.take (i+1)).flatMap (zcx ob)=acc++zcx ob bs[i]):=by show _=_;rw [zd0 _ _ _ hlt,HO.out]
      have HTB:Hid (acc.length+(zcx ob bs[i]).length<=1048576):=by
        have h1:=ze5 (zcx ob) bs (i+1)
        rw [HSU.out,List.length_append] at h1
        exact Nat.le_trans h1 HK.out
      clear hc
      generalize bs[i]=b at *
      have hel:b.b.effs.length=b.ms.length:=by rw [HBA.out.effs,List.length_map]
      obtain⟨acc0,hacc0⟩:∃x,x=acc:=⟨_,rfl⟩
      have HR0:=HR
      have HB0:=HB
      clear HR HB
      go_wp2_with fail
      go_loopw [5,7] (fun y x wx=>∃(j:Nat) (oa2:Option Addr) (oc2:Nat) (acc2:List Mk),j<=b.ms.length∧x=I j∧y= .slice oa2 acc2.length oc2∧Hid (acc2=acc++zcw b ob j)∧Hid (wx.ownsRow w.heap.size 259 11 (.slice oa2 acc2.length oc2) acc2.length (flat Mk.cells acc2))∧Hid (Below w.heap.size w wx)) (fun _ x _=>b.ms.length - (intOf x).toNat)
      case atStart=>exact⟨0,oa,oc,acc,by omega,rfl,rfl,by show _=_;simp [zcw],HR0,HB0⟩
      case round=>
        obtain⟨j,oa2,oc2,acc2,hj,rfl,rfl,HA2,HR2,HB2⟩:=hrel
        clear HR0 HB0
        have b4:wr.cell? ⟨p,q+i*5+4,none⟩=some (.slice b.ea b.ms.length b.ec):=by have:=HCL.out wr HB2.out 4 _ rfl;rw [hel] at this;exact this
        by_cases hjt:j<b.ms.length
        · have hjj : (j:Int)<b.ms.length:=by omega
          obtain⟨p2,q2,hea,_,hec⟩:=ze0 (HBA.out.kept HB2.out).cells (by omega)
          rw [hea] at b4
          obtain⟨e0,e1,e2,e3,e4,e5,e6⟩:=hec j hjt
          have b0:wr.cell? ⟨p,q+i*5,none⟩=some (I b.b.o):=HCL.out wr HB2.out 0 _ rfl
          have b1:wr.cell? ⟨p,q+i*5+1,none⟩=some (I b.b.s):=HCL.out wr HB2.out 1 _ rfl
          have b2:wr.cell? ⟨p,q+i*5+2,none⟩=some (I b.b.t):=HCL.out wr HB2.out 2 _ rfl
          have HSJ:Hid (zcw b ob (j+1)=zcw b ob j++(if b.ms[j].e.ob=ob then [⟨b.ms[j],⟨b.b.o,b.b.s,j⟩,b.b.t⟩] else [])):=znb b ob j hjt
          have hjb:acc.length+j<=2097152:=by have:=HTB.out;have:=HML.out;omega
          have ha2:acc2.length<=acc.length+j:=by rw [HA2.out,List.length_append];have:=zkt b ob j;omega
          clear hec hea
          generalize b.ms[j]=m at *
          by_cases hob:m.e.ob=ob
          · have hobb:(m.e.ob==ob)=true:=by simp [hob]
            have HN2:Hid (acc2++ [⟨m,⟨b.b.o,b.b.s,j⟩,b.b.t⟩]=acc++zcw b ob (j+1)):=by show _=_;rw [HSJ.out,if_pos hob,HA2.out,List.append_assoc]
            clear HSJ HA2 hob
            go_upto_region 9 with fail
            have z0:(wr.alloc (.cells #[I 0,I 0,I 0] 146)).cell? ⟨p,q+i*5,none⟩=some (I b.b.o):=zaa ((Below.refl _ _).alloc (Nat.le_refl _) _) b0
            have z1:(wr.alloc (.cells #[I 0,I 0,I 0] 146)).cell? ⟨p,q+i*5+1,none⟩=some (I b.b.s):=zaa ((Below.refl _ _).alloc (Nat.le_refl _) _) b1
            go_cut [8] (fun v w'=>v= .pointer (some ⟨wr.heap.size,0,none⟩)∧Hid (Blk w' wr.heap.size #[I b.b.o,I b.b.s,I j] 146)∧Hid (Below wr.heap.size wr w'))
            case first=>
              go_region_law (fail)
              all_goals
                (go_wp2_with fail
                 go_meet
                 first
                   | exact⟨rfl,heap_alloc_new wr _,(Below.refl _ _).alloc (Nat.le_refl _) _⟩
                   | exact⟨rfl,heap_alloc_new wr.drew _,(Below.refl _ _).drew.alloc (Nat.le_refl _) _⟩)
            case rest=>
              obtain⟨rfl,HX,HB3⟩:=hcut
              have hml:b.ms.length<=1048576:=HML.out
              have HB4:Hid (Below w.heap.size w wc):=HB2.out.trans (HB3.out.mono HB2.out.size)
              have HR3:Hid (wc.ownsRow w.heap.size 259 11 (.slice oa2 acc2.length oc2) acc2.length (flat Mk.cells acc2)):=za6 HR2.out HB3.out
              replace b2:=zaa HB3.out b2
              replace b4:=zaa HB3.out b4
              replace e0:=zaa HB3.out e0
              replace e1:=zaa HB3.out e1
              replace e2:=zaa HB3.out e2
              replace e3:=zaa HB3.out e3
              replace e4:=zaa HB3.out e4
              replace e5:=zaa HB3.out e5
              replace e6:=zaa HB3.out e6
              have x0:wc.cell? ⟨wr.heap.size,0,none⟩=some (I b.b.o):=HX.out.cell 0
              have x1:wc.cell? ⟨wr.heap.size,1,none⟩=some (I b.b.s):=HX.out.cell 1
              have x2:wc.cell? ⟨wr.heap.size,2,none⟩=some (I j):=HX.out.cell 2
              obtain⟨k,hk⟩:∃k:Mk,k=⟨m,⟨b.b.o,b.b.s,j⟩,b.b.t⟩:=⟨_,rfl⟩
              have HONE:Hid (∀u∈k.cells,u.oneCell'=true):=fun u hu=>zc3 [k] u (by simpa [flat] using hu)
              rw [←hk] at HN2
              have hkc:k.cells= [I m.e.op,I m.e.ob,I m.e.va,I m.e.ref.o,I m.e.ref.s,I m.e.ref.i, .slice m.da m.e.dots.length m.dc,I b.b.o,I b.b.s,I j,I b.b.t]:=by rw [hk];rfl
              have hz2:w.heap.size<=wc.heap.size:=HB4.out.size
              have n3:acc2.length+1<=maxLen:=by unfold maxLen;omega
              have n4:(acc2.length+1)*104<=140737488355328:=by omega
              have hlen:(acc2++ [k]).length=acc2.length+1:=by simp
              rw [hkc] at HONE
              clear z0 z1 b0 b1 HR2 HB2 HX HB3 hk
              go_wp2_with fail
              go_region_law ((refine step_append_lies _ (by rfl) _ _ _ (by rfl) w.heap.size 259 i1 mkZ 11 104 Tryz.underlying222 HI1.out.1 HI1.out.2.1 HI1.out.2.2.1 HI1.out.2.2.2 rfl (by decide) (.slice oa2 acc2.length oc2) acc2.length (flat Mk.cells acc2) (by rfl) (by first | exact HR3.out.alloc _ | exact(HR3.out.alloc _).drew | exact(HR3.out.drew).alloc _) ⟨wc.heap.size,0,none⟩ 1 1 [I m.e.op,I m.e.ob,I m.e.va,I m.e.ref.o,I m.e.ref.s,I m.e.ref.i, .slice m.da m.e.dots.length m.dc,I b.b.o,I b.b.s,I j,I b.b.t] (by rfl) (by rfl) (by first | exact zas wc _ _ | exact zb2 wc _ _) HONE.out (by omega) n3 n4 (by first | (simp;omega) | omega) (wc.heap.size+1) (by simp) ?_;intro g7 cap7 w7 hown7 hgrow7 hat7 hlt7;have HW7:Hid (Below w.heap.size w w7):=(by first | exact(HB4.out.alloc hz2 _).grown hgrow7 (by simp;omega) (fun b e=>(HR3.out.lt b e).1) | exact(HB4.out.drew.alloc hz2 _).grown hgrow7 (by simp;omega) (fun b e=>(HR3.out.lt b e).1));have HO7:Hid (w7.ownsRow w.heap.size 259 11 (.slice (some ⟨g7,0,none⟩) (acc2++ [k]).length cap7) (acc2++ [k]).length (flat Mk.cells (acc2++ [k]))):=(by show World.ownsRow _ _ _ _ _ _ _;rw [hlen,zbw];simp only [flat,List.append_nil];rw [hkc];exact hown7);clear hown7 hgrow7 hat7 hlt7))
              all_goals
                (go_wp2_with fail
                 first
                   | (exact⟨⟨j+1,some ⟨g7,0,none⟩,cap7,acc2++ [k],by omega,by go_num,by rw [hlen],HN2,HO7,HW7⟩,by simp [intOf];omega⟩)
                   | (refine⟨?mm, ?ms⟩
                      case mm=>
                        (repeat apply Exists.intro)
                        exact⟨⟨j+1,some ⟨g7,0,none⟩,cap7,acc2++ [k],by omega,by go_num,by rw [hlen],HN2,HO7,HW7⟩,rfl⟩
                      case ms=>simp [intOf];omega)
                   | (go_roundw
                      case rel=>exact⟨j+1,some ⟨g7,0,none⟩,cap7,acc2++ [k],by omega,by go_num,by rw [hlen],HN2,HO7,HW7⟩
                      case measure=>simp [intOf];omega))
          · have hobb:(m.e.ob==ob)=false:=by simp [hob]
            have HN2:Hid (acc2=acc++zcw b ob (j+1)):=by show _=_;rw [HSJ.out,if_neg hob,List.append_nil];exact HA2.out
            have hml:b.ms.length<=1048576:=HML.out
            clear HSJ HA2
            go_wp2_with fail
            go_roundw
            case rel=>exact⟨j+1,oa2,oc2,acc2,by omega,by go_num,rfl,HN2,HR2,HB2⟩
            case measure=>simp [intOf];omega
        · have hjj:¬(j:Int)<b.ms.length:=by omega
          have HN2:Hid (acc2=(bs.take (i+1)).flatMap (zcx ob)):=by show _=_;rw [HSU.out,HA2.out,ziu b ob j (by omega)]
          clear HSU HO HA2
          go_wp2_with fail
          go_roundw
          case rel=>exact⟨i+1,oa2,oc2,acc2,by omega,by go_num,rfl,HN2,HR2,HB2⟩
          case measure=>simp [intOf];omega
    · have hii:¬(i:Int)<bs.length:=by omega
      have HE2:Hid (acc=za3 bs ob):=by have:=HO.out;rw [List.take_of_length_le (by omega)] at this;exact this
      clear HO
      go_wp2
      go_ret
      refine⟨_,rfl, ?_,HB.out⟩
      rw [←HE2.out]
      exact HR.out
end Go.Proofs.YtfmcngncaffloaaGreatDoor
