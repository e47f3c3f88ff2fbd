import Derived.Test.YtfmcngncaffloaaGreatDoorG33OwP
set_option maxHeartbeats 6400000
namespace Go.Proofs.YtfmcngncaffloaaGreatDoor
open Go.RowKit
set_option maxRecDepth 100000
def NumOk(w:World)(G:Nat)(v0:Value)(z:Int)(os:List Ow)(n:Nat)(lb ob:Option Nat)(w':World):Prop:=∃l4 oa oc la lc,l4.length=4∧NbAt w w' G v0 z os l4 oa oc la lc n 4 lb ob
theorem zm6(G:Nat)(v0:Value)(many:Int)(os:List Ow)(oa:Option Addr)(oc:Nat)(la:Option Addr)(lc:Nat)(zs:List Int)(w:World)(hG:Blk w G #[v0, .slice oa os.length oc,I many] 68)(hR:w.ownsRow 0 115 3 (.slice oa os.length oc) os.length (flat Ow.cells os))(hL:w.ownsRow 0 3 1 (.slice la zs.length lc) zs.length (zs.map I))(hm0:0<=many)(hm1:many<=1048576)(hz:zs.length<=1000000)(ho:os.length<=10000000):
  Calls Tryz.prog 89 #[.pointer (some ⟨G,0,none⟩), .slice la zs.length lc] w fun e w'=>e= .returned (.tuple #[])∧NumOk w G v0 (many+1) os zs.length (Value.slice la zs.length lc).ownBlock (Value.slice oa os.length oc).ownBlock w':=by
 obtain⟨i1,HI1⟩:∃i,Hid (Tryz.prog.info? 3=some i∧i.zero=some (.int .i64 0)∧i.size=1∧i.bytes=8):=by obtain⟨i,h⟩:=info_parts zev;exact⟨i,h⟩
 obtain⟨i2,HI2⟩:∃i,Hid (Tryz.prog.info? 115=some i∧i.zero=some (.agg #[.slice none 0 0, .slice none 0 0, .int .i64 0])∧i.size=3∧i.bytes=56):=by obtain⟨i,h⟩:=info_parts infoOw;exact⟨i,h⟩
 have hGR:(Value.slice oa os.length oc).ownBlock ≠ some G:=fun e=>by
  obtain⟨cs,h1⟩:=zcq hR e
  rw [show w.heap[G]?=some (.cells _ 68) from hG] at h1;cases h1
 have hGL:(Value.slice la zs.length lc).ownBlock ≠ some G:=fun e=>by
  obtain⟨cs,h1⟩:=zcq hL e
  rw [show w.heap[G]?=some (.cells _ 68) from hG] at h1;cases h1
 have hLR:∀g,(Value.slice la zs.length lc).ownBlock=some g->(Value.slice oa os.length oc).ownBlock ≠ some g:=fun g e e2=>by
  obtain⟨cs,h1⟩:=zcq hL e
  obtain⟨cs',h2⟩:=zcq hR e2
  rw [h2] at h1;cases h1
 have g2:w.cell? ⟨G,2,none⟩=some (I many):=hG.cell 2
 have y2:w.frozen? ⟨G,2,none⟩=false:=hG.frozen 2
 have hwm:IntKind.i64.wrap (many+1)=many+1:=zc0 _ (by omega) (by omega)
 obtain⟨z,hzz⟩:∃z,z=many+1:=⟨_,rfl⟩
 obtain⟨wA,hwA⟩:∃wA,wA=w.setCell ⟨G,2,none⟩ (I (many+1)):=⟨_,rfl⟩
 have hTA:Tch (fun j=>j=G) w wA:=by rw [hwA];exact Tch.setCell (F:=fun j=>j=G) (Tch.refl _ w) ⟨G,2,none⟩ _ (.inl rfl)
 have HGA:Hid (Blk wA G #[v0, .slice oa os.length oc,I z] 68):=by rw [hwA,hzz];exact hG.set 2 _
 have HRA:Hid (wA.ownsRow 0 115 3 (.slice oa os.length oc) os.length (flat Ow.cells os)):=zah hR (fun g e=>hTA.block g (hR.lt g e).2 (by rintro rfl;exact hGR e))
 have HLA:Hid (wA.ownsRow 0 3 1 (.slice la zs.length lc) zs.length (zs.map I)):=zah hL (fun g e=>hTA.block g (hL.lt g e).2 (by rintro rfl;exact hGL e))
 have HTA:Hid (Tch (fun j=>j=G) w wA):=hTA
 have HNE:Hid ((Value.slice oa os.length oc).ownBlock ≠ some G∧(Value.slice la zs.length lc).ownBlock ≠ some G∧∀g,(Value.slice la zs.length lc).ownBlock=some g->(Value.slice oa os.length oc).ownBlock ≠ some g):=⟨hGR,hGL,hLR⟩
 have hGl:G<w.heap.size:=hG.lt
 have hz0:1<=z:=by omega
 have hz1:z<=1048577:=by omega
 rw [←hzz]
 clear hTA hG hR hL hGR hGL hLR hzz
 go_enter Tryz.func89,Tryz.ntmps89
 go_upto_region 1 with fail
 change Code.wp _ _ _ _ (w.setCell ⟨G,2,none⟩ (I (many+1)))
 rw [←hwA]
 clear hwA g2 y2 hwm
 have hwk:IntKind.i64.wrap (-100000 - z)= -100000 - z:=zc0 _ (by omega) (by omega)
 go_wp2_with fail
 go_loopw [4] (fun y wr=>∃(i:Nat),i<=zs.length∧y=I i∧Hid (Tch (fun j=>(Value.slice la zs.length lc).ownBlock=some j) wA wr∧wr.ownsRow 0 3 1 (.slice la zs.length lc) zs.length (List.replicate i (I (-100000 - z))++(zs.map I).drop i))) (fun y _=>zs.length - (intOf y).toNat)
 case atStart=>exact⟨0,by omega,rfl,Tch.refl _ _,by simpa using HLA.out⟩
 case round=>
  obtain⟨i,hi,rfl,HW⟩:=hrel
  have HGr:Hid (Blk wr G #[v0, .slice oa os.length oc,I z] 68):=HW.out.1.blk HGA.out HNE.out.2.1
  have k2:wr.cell? ⟨G,2,none⟩=some (I z):=HGr.out.cell 2
  by_cases hlt:i<zs.length
  ·have hii:(i:Int)<zs.length:=by omega
   obtain⟨g,cap,hv,_,hgl⟩:=HW.out.2.form (by omega)
   have hla:la=some ⟨g,0,none⟩:=by cases hv;rfl
   subst hla
   have k0:∃u,wr.cell? ⟨g,i,none⟩=some u:=⟨_,by rw [HW.out.2.cellAt i (by omega)];exact List.getElem?_eq_getElem (by simp;omega)⟩
   obtain⟨u0,k0⟩:=k0
   have z0:wr.frozen? ⟨g,i,none⟩=false:=HW.out.2.frozenAt i
   obtain⟨hown2,hgrow2⟩:=HW.out.2.stored i (I (-100000 - z))
   have HL2:Hid (Tch (fun j=>(Value.slice (some ⟨g,0,none⟩) zs.length lc).ownBlock=some j) wA (wr.setCell ⟨g,i,none⟩ (I (-100000 - z)))∧(wr.setCell ⟨g,i,none⟩ (I (-100000 - z))).ownsRow 0 3 1 (.slice (some ⟨g,0,none⟩) zs.length lc) zs.length (List.replicate (i+1) (I (-100000 - z))++(zs.map I).drop (i+1))):=by
    refine⟨HW.out.1.then ((Tch.grown hgrow2).mono (fun j _ e=>by simpa [Value.ownBlock] using e)), ?_⟩
    have e:(List.replicate i (I (-100000 - z))++(zs.map I).drop i).set i (I (-100000 - z))=List.replicate (i+1) (I (-100000 - z))++(zs.map I).drop (i+1):=by
     rw [List.set_append_right _ _ (by simp),List.length_replicate,Nat.sub_self,List.drop_eq_getElem_cons (by simpa using hlt),List.set_cons_zero,List.replicate_succ',List.append_assoc]
     rfl
    rw [←e]
    exact hown2
   clear hown2 hgrow2 HW HGr
   go_wp2_with fail
   go_roundw
   case rel=>exact⟨i+1,by omega,by go_num,HL2⟩
   case measure=>simp [intOf];omega
  ·have hii:¬(i:Int)<zs.length:=by omega
   obtain rfl:i=zs.length:=by omega
   have HNB:Hid (NbAt w wr G v0 z os [] oa oc la lc zs.length 0 (Value.slice la zs.length lc).ownBlock (Value.slice oa os.length oc).ownBlock):=by
    refine⟨by rw [List.append_nil];exact HGr.out, ?_,fun g e=> .inl (by rw [List.append_nil] at e;exact e), ?_,fun g e=> .inl e,fun o ho=>(by cases ho),hGl, ?_⟩
    ·rw [List.append_nil]
     exact zah HRA.out (fun g e=>HW.out.1.block g (HRA.out.lt g e).2 (fun q=>HNE.out.2.2 g q e))
    ·have:=HW.out.2
     rw [List.drop_of_length_le (by simp),List.append_nil] at this
     exact this
    ·refine HTA.out.trans HW.out.1 (fun j _ e=> .inl e) (fun j _ e=> .inr (.inr e))
   clear HW HGr HNE HTA HGA HRA HLA k2
   generalize hnz:zs.length=n at *
   have HNZ:Hid (zs.length=n):=hnz
   generalize hlb:(Value.slice la n lc).ownBlock=lb at *
   have HLB:Hid ((Value.slice la n lc).ownBlock=lb):=hlb
   generalize hob:(Value.slice oa os.length oc).ownBlock=ob at *
   have HOB:Hid ((Value.slice oa os.length oc).ownBlock=ob):=hob
   clear hnz hlb hob
   go_wp2_with fail
   go_loopw [1,5] (fun l y wx=>∃(k:Nat) (l4:List Ow) (oa2:Option Addr) (oc2:Nat) (la2:Option Addr) (lc2:Nat),k<=4∧y=I k∧l= .slice la2 (n+k) lc2∧l4.length=k∧Hid (NbAt w wx G v0 z os l4 oa2 oc2 la2 lc2 n k lb ob)) (fun _ y _=>4 - (intOf y).toNat)
   case atStart=>exact⟨0, [],oa,oc,la,lc,by omega,rfl,rfl,rfl,HNB⟩
   case round=>
    obtain⟨k,l4,oa2,oc2,la2,lc2,hk,rfl,rfl,hl4,HN⟩:=hrel
    clear HNB
    by_cases hlk:k<4
    ·have hki:(k:Int)<4:=by omega
     have hN4:(os++l4).length<=10000004:=by rw [List.length_append];omega
     generalize hM:(os++l4).length=M at *
     have HM:Hid ((os++l4).length=M):=hM
     have d1:wr.cell? ⟨G,1,none⟩=some (.slice oa2 M oc2):=by rw [←HM.out];exact HN.out.bG.cell 1
     have d2:wr.cell? ⟨G,2,none⟩=some (I z):=HN.out.bG.cell 2
     have e1:(wr.alloc (.cells #[.slice la2 (n+k) lc2, .slice none 0 0,I z] 115)).cell? ⟨G,1,none⟩=some (.slice oa2 M oc2):=zaa ((Below.refl _ _).alloc (Nat.le_refl _) _) d1
     have HRW:Hid (wr.ownsRow 0 115 3 (.slice oa2 M oc2) M (flat Ow.cells (os++l4))):=by have:=HN.out.row;rw [HM.out] at this;exact this
     have HNG:Hid ((Value.slice oa2 M oc2).ownBlock ≠ some G):=by have:=HN.out.ne.1;rw [HM.out] at this;exact this
     have hone:∀u∈ [.slice la2 (n+k) lc2, .slice none 0 0,I z],u.oneCell'=true:=fun u hu=>zzy [⟨la2,n+k,lc2,z⟩] u (by simpa [flat,Ow.cells] using hu)
     clear hM
     go_wp2_with fail
     go_cut [1] (fun v1 wx=>v1= .slice la2 (n+k) lc2∧∃g7 cap7,Hid (NbAt w wx G v0 z os (l4++ [⟨la2,n+k,lc2,z⟩]) (some ⟨g7,0,none⟩) cap7 la2 lc2 n k lb ob))
     case first=>
      go_region_law ((refine step_append_lies _ (by rfl) _ _ _ (by rfl) 0 115 i2 (.agg #[.slice none 0 0, .slice none 0 0, .int .i64 0]) 3 56 Tryz.underlying66 HI2.out.1 HI2.out.2.1 HI2.out.2.2.1 HI2.out.2.2.2 (by rfl) (by omega) (.slice oa2 M oc2) M (flat Ow.cells (os++l4)) (by rfl) (by first | exact HRW.out.alloc _ | exact(HRW.out.alloc _).drew | exact(HRW.out.drew).alloc _) ⟨wr.heap.size,0,none⟩ 1 1 [.slice la2 (n+k) lc2, .slice none 0 0,I z] (by rfl) (by rfl) (by first | exact zas wr _ _ | exact zb2 wr _ _) hone (by omega) (by unfold maxLen;omega) (by omega) (by omega) (wr.heap.size+1) (by simp) ?_;intro g7 cap7 w7 hown7 hgrow7 hat7 hlt7;have HT7:Hid (Tch (fun j=>(Value.slice oa2 M oc2).ownBlock=some j) wr w7):=(by first | exact((Tch.refl _ wr).drew.alloc _).then (Tch.grown hgrow7) | exact((Tch.refl _ wr).alloc _).then (Tch.grown hgrow7));have HO7:Hid (w7.ownsRow 0 115 3 (.slice (some ⟨g7,0,none⟩) (M+1) cap7) (M+1) (flat Ow.cells (os++l4)++ [.slice la2 (n+k) lc2, .slice none 0 0,I z])):=hown7;have HA7:Hid ((Value.slice oa2 M oc2).ownBlock=some g7∨wr.heap.size<=g7):=hat7.imp id (fun e=>by omega);have HK7:Hid (Blk w7 G #[v0, .slice oa2 M oc2,I z] 68):=HT7.out.blk (by have:=HN.out.bG;rw [HM.out] at this;exact this) HNG.out;have f1:w7.cell? ⟨G,1,none⟩=some (.slice oa2 M oc2):=HK7.out.cell 1;have z1:w7.frozen? ⟨G,1,none⟩=false:=HK7.out.frozen 1;clear hown7 hgrow7 hat7 hlt7))
      all_goals
       (go_wp2_with fail
        go_meet
        refine⟨rfl,g7,cap7, ?_⟩
        have hD:=HN.out.down (Below.refl _ _) (g7:=g7) (cap7:=cap7) (by rw [HM.out];exact HT7.out) (by rw [HM.out];exact HO7.out) (by rw [HM.out];exact HA7.out)
        rw [HM.out] at hD
        exact hD)
     case rest=>
      obtain⟨rfl,g7,cap7,HD⟩:=hcut
      have hl5:(l4++ [(⟨la2,n+k,lc2,z⟩:Ow)]).length=k+1:=by simp [hl4]
      have k2:wc.cell? ⟨G,2,none⟩=some (I z):=HD.out.bG.cell 2
      have HCU:Hid (wc.ownsRow 0 3 1 (.slice la2 (n+k) lc2) (n+k) (List.replicate (n+k) (I (-100000 - z)))):=HD.out.cur
      have hone2:∀u∈ [I (-100000 - z)],u.oneCell'=true:=by intro u hu;rw [List.mem_singleton.1 hu];rfl
      clear HN d1 d2 e1 HRW HNG HM hN4
      go_wp2_with (first | (at_builtin;refine zf3 rfl _ _ _ rfl 0 3 i1 (.int .i64 0) 1 8 Tryz.underlying34 HI1.out.1 HI1.out.2.1 HI1.out.2.2.1 HI1.out.2.2.2 rfl (by omega) (.slice la2 (n+k) lc2) (n+k) (List.replicate (n+k) (I (-100000 - z))) rfl (HCU.out.alloc _) ⟨wc.heap.size,0,none⟩ 1 1 [I (-100000 - z)] rfl rfl (zas wc [I (-100000 - z)] _) hone2 (by omega) (by unfold maxLen;omega) (by omega) (by omega) (wc.heap.size+1) (by simp) ?_;intro g9 cap9 w9 hown9 hgrow9 hat9 hkp9;have HM9:Hid (NbAt w w9 G v0 z os (l4++ [⟨la2,n+k,lc2,z⟩]) (some ⟨g7,0,none⟩) cap7 (some ⟨g9,0,none⟩) cap9 n (k+1) lb ob):=HD.out.more ((Below.refl _ _).alloc (Nat.le_refl _) _) (Tch.grown hgrow9) (fun b j e hj=>hkp9 b j e (by omega)) hown9 (hat9.imp id (fun e=>by simp;omega));clear hown9 hgrow9 hat9 hkp9))
      exact⟨⟨k+1,l4++ [⟨la2,n+k,lc2,z⟩],some ⟨g7,0,none⟩,cap7,some ⟨g9,0,none⟩,cap9,by omega,by go_num,rfl,hl5,HM9⟩,by simp [intOf];omega⟩
    ·have hki:¬(k:Int)<4:=by omega
     obtain rfl:k=4:=by omega
     have HE:Hid (NumOk w G v0 z os n lb ob wr):=⟨l4,oa2,oc2,la2,lc2,hl4,HN.out⟩
     clear HN
     go_wp2
     go_end0
     exact⟨rfl,by rw [HNZ.out,HLB.out,HOB.out];exact HE.out⟩
end Go.Proofs.YtfmcngncaffloaaGreatDoor
