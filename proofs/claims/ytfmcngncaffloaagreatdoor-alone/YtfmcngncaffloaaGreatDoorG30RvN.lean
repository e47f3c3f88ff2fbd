import Derived.Test.YtfmcngncaffloaaGreatDoorG29RvI
set_option maxHeartbeats 3200000
namespace Go.Proofs.YtfmcngncaffloaaGreatDoor
open Go.RowKit
set_option maxRecDepth 100000
def sumK(ks:List Mk):Int:=(ks.map (·.m.e.va)).sum
def setK(ks:List Mk):List Int:=((List.range 256).map (fun v:Nat=>(v:Int))).filter (fun v=>(livK ks 2 3).any (fun k=>decide (k.m.e.va=v)))
def zd5(ks:List Mk)(r:Nat):List Int:=match r with
 | 0=> [sumK ks]
 | 1=>setK ks
 | 2=>(livK ks 4 4).map (·.m.e.va)
 | _=>(zau ks).map (·.m.e.va)
theorem zjq(l:List Int)(i:Nat)(hi:i<l.length):(l.take (i+1)).sum=(l.take i).sum+l[i]:=by
 rw [List.take_succ_eq_append_getElem hi,List.sum_append]
 simp
theorem zsr(l:List Int)(h:∀x∈l, -1048576<=x∧x<=1048576): -1048576*(l.length:Int)<=l.sum∧l.sum<=1048576*(l.length:Int):=by
 induction l with
 | nil=>simp
 | cons x l ih=>
  have h1:=ih (fun y hy=>h y (by simp [hy]))
  have h2:=h x (by simp)
  simp only [List.sum_cons,List.length_cons]
  omega
theorem zj3(ks:List Mk)(a:Option Addr)(c:Nat)(ob:Int)(w:World)(h:MksAt w a ks)(hl:ks.length<=1048576)(hr:ob.tmod 4=0)(hv:∀k∈ks, -1048576<=k.m.e.va∧k.m.e.va<=1048576):
  Calls Tryz.prog 137 #[.slice a ks.length c,I ob] w fun e w'=>∃v',e= .returned v'∧w'.ownsRow w.heap.size 3 1 v' 1 [I (sumK ks)]∧Below w.heap.size w w':=by
 have HM:Hid (MksAt w a ks):=h
 obtain⟨i1,HI1⟩:∃i,Hid (Tryz.prog.info? 3=some i∧i.zero=some (.int .i64 0)∧i.size=1∧i.bytes=8):=by obtain⟨i,h⟩:=info_parts zev;exact⟨i,h⟩
 have HV:Hid (∀i,i<=ks.length-> -1099511627776<=((ks.map (·.m.e.va)).take i).sum∧((ks.map (·.m.e.va)).take i).sum<=1099511627776):=fun i hi=>by
  have hx:∀x∈(ks.map (·.m.e.va)).take i, -1048576<=x∧x<=1048576:=fun x hx=>by
   obtain⟨k,hk,rfl⟩:=List.mem_map.1 (List.mem_of_mem_take hx)
   exact hv k hk
  have h1:=zsr _ hx
  have h2:((ks.map (·.m.e.va)).take i).length<=1048576:=by rw [List.length_take,List.length_map];omega
  omega
 have HVE:Hid (∀k∈ks, -1048576<=k.m.e.va∧k.m.e.va<=1048576):=hv
 clear h hv
 go_enter Tryz.func137,Tryz.ntmps137
 go_wp2_with fail
 go_loopw [6,7] (fun y x wr=>∃(i:Nat),i<=ks.length∧x=I i∧y=I ((ks.map (·.m.e.va)).take i).sum∧Hid (Below w.heap.size w wr)) (fun _ x _=>ks.length - (intOf x).toNat)
 case atStart=>exact⟨0,by omega,rfl,rfl,Below.refl _ _⟩
 case round=>
  obtain⟨i,hi2,rfl,rfl,HB2⟩:=hrel
  by_cases hlt2:i<ks.length
  ·have hii2:(i:Int)<ks.length:=by omega
   obtain⟨p,q,rfl,hc⟩:=zbh HM.out.row (by omega)
   have g0:wr.cell? ⟨p,q+i*11+2,none⟩=some (I ks[i].m.e.va):=zaa HB2.out (hc i hlt2 2 _ rfl)
   have HSU:Hid (((ks.map (·.m.e.va)).take (i+1)).sum=((ks.map (·.m.e.va)).take i).sum+ks[i].m.e.va):=by show _=_;rw [zjq _ _ (by rw [List.length_map];exact hlt2)];simp
   have h1:=HV.out i (by omega)
   have h2:=HVE.out ks[i] (List.getElem_mem hlt2)
   clear hc
   generalize ks[i].m.e.va=v at *
   generalize ((ks.map (·.m.e.va)).take i).sum=s at *
   go_wp2_with fail
   go_roundw
   case rel=>exact⟨i+1,by omega,by go_num,by rw [HSU.out],HB2⟩
   case measure=>simp [intOf];omega
  ·have hii2:¬(i:Int)<ks.length:=by omega
   have HSU:Hid (((ks.map (·.m.e.va)).take i).sum=sumK ks):=by show _=_;rw [List.take_of_length_le (by rw [List.length_map];omega)];rfl
   rw [HSU.out]
   have hz2:w.heap.size<=wr.heap.size:=HB2.out.size
   have HONE:Hid (∀u∈ [I (sumK ks)],u.oneCell'=true):=zfs [sumK ks]
   have HN:Hid (wr.ownsRow w.heap.size 3 1 (.slice none 0 0) 0 []):=⟨rfl, .inl ⟨rfl,rfl⟩⟩
   have n3:0+1<=maxLen:=by decide
   have n4:(0+1)*8<=140737488355328:=by decide
   go_wp2_with (first | (at_builtin;refine wpList_append_own_at _ rfl _ _ _ rfl w.heap.size 3 i1 (.int .i64 0) 1 8 Tryz.underlying34 HI1.out.1 HI1.out.2.1 HI1.out.2.2.1 HI1.out.2.2.2 rfl (by decide) (.slice none 0 0) 0 ([]) rfl (HN.out.alloc _) ⟨wr.heap.size,0,none⟩ 1 1 [I (sumK ks)] rfl rfl (zas wr [I (sumK ks)] _) HONE.out n3 n4 (by simp;omega) ?_;intro v6 w6 hown6 hgrow6 hnil6 hat6;have HO6:Hid (w6.ownsRow w.heap.size 3 1 v6 (0+1) ([]++ [I (sumK ks)])):=hown6;have HW6:Hid (Below w.heap.size w w6):=(HB2.out.alloc hz2 _).grown hgrow6 (by simp;omega) (fun b e=>(HN.out.lt b e).1);have hz6:w.heap.size<=w6.heap.size:=HW6.out.size;obtain⟨oa6,oc6,rfl⟩:=zar hown6;clear hown6 hgrow6 hnil6 hat6))
   go_wp2
   go_ret
   exact⟨_,rfl,HO6.out,HW6.out⟩
theorem zje(ks:List Mk)(a:Option Addr)(c:Nat)(ob:Int)(w:World)(h:MksAt w a ks)(hl:ks.length<=1048576)(hd:∀k∈ks,k.m.e.dots.length<=1048576)(hr:ob.tmod 4=2):
  Calls Tryz.prog 137 #[.slice a ks.length c,I ob] w fun e w'=>∃v',e= .returned v'∧w'.ownsRow w.heap.size 3 1 v' (livK ks 4 4).length (((livK ks 4 4).map (·.m.e.va)).map I)∧Below w.heap.size w w':=by
 obtain⟨i1,HI1⟩:∃i,Hid (Tryz.prog.info? 3=some i∧i.zero=some (.int .i64 0)∧i.size=1∧i.bytes=8):=by obtain⟨i,h⟩:=info_parts zev;exact⟨i,h⟩
 have HC:=zet ks a c 4 4 w h hl hd
 obtain⟨L,HL⟩:∃L,Hid (livK ks 4 4=L):=⟨_,rfl⟩
 rw [HL.out] at HC
 have hLL:L.length<=1048576:=by rw [←HL.out];exact Nat.le_trans (zff _ _ _) hl
 obtain⟨cs,HCS⟩:∃cs,Hid ((L.map (·.m.e.va)).map I=cs):=⟨_,rfl⟩
 rw [HL.out,HCS.out]
 clear h hd
 go_enter Tryz.func137,Tryz.ntmps137
 go_wp2_with fail
 refine HC.mono ?_
 rintro e wB ⟨v1,rfl,hown1,hb1⟩
 obtain⟨oa,oc,rfl⟩:=zar hown1
 have HR1:Hid (wB.ownsRow w.heap.size 259 11 (.slice oa L.length oc) L.length (flat Mk.cells L)):=hown1
 have HB1:Hid (Below w.heap.size w wB):=hb1
 clear hown1 hb1 HC
 go_wp2_with fail
 go_loopw [5,12] (fun y x wr=>∃(i:Nat) (oa2:Option Addr) (oc2:Nat),i<=L.length∧x=I i∧y= .slice oa2 i oc2∧Hid (wr.ownsRow wB.heap.size 3 1 (.slice oa2 i oc2) i (((L.take i).map (·.m.e.va)).map I))∧Hid (Below wB.heap.size wB wr)) (fun _ x _=>L.length - (intOf x).toNat)
 case atStart=>exact⟨0,none,0,by omega,rfl,rfl,⟨rfl, .inl ⟨rfl,rfl⟩⟩,Below.refl _ _⟩
 case round=>
  obtain⟨i,oa2,oc2,hi2,rfl,rfl,HR2,HB2⟩:=hrel
  by_cases hlt2:i<L.length
  ·have hii2:(i:Int)<L.length:=by omega
   obtain⟨p,q,rfl,hc⟩:=zbh (zaw HR1.out) (by omega)
   have g0:wr.cell? ⟨p,q+i*11+2,none⟩=some (I L[i].m.e.va):=zaa HB2.out (hc i hlt2 2 _ rfl)
   have HSU:Hid (((L.take (i+1)).map (·.m.e.va)).map I=((L.take i).map (·.m.e.va)).map I++ [I L[i].m.e.va]):=by
    show _=_
    rw [List.take_succ_eq_append_getElem hlt2,List.map_append,List.map_append]
    rfl
   clear hc
   generalize L[i].m.e.va=v at *
   have n3:i+1<=maxLen:=by unfold maxLen;omega
   have n4:(i+1)*8<=140737488355328:=by omega
   have hz2:wB.heap.size<=wr.heap.size:=HB2.out.size
   have HONE:Hid (∀u∈ [I v],u.oneCell'=true):=zfs [v]
   go_wp2_with (first | (at_builtin;refine wpList_append_own_at _ rfl _ _ _ rfl wB.heap.size 3 i1 (.int .i64 0) 1 8 Tryz.underlying34 HI1.out.1 HI1.out.2.1 HI1.out.2.2.1 HI1.out.2.2.2 rfl (by decide) (.slice oa2 i oc2) i (((L.take i).map (·.m.e.va)).map I) rfl (HR2.out.alloc _) ⟨wr.heap.size,0,none⟩ 1 1 [I v] rfl rfl (zas wr [I v] _) HONE.out n3 n4 (by simp;omega) ?_;intro v6 w6 hown6 hgrow6 hnil6 hat6;have HO6:Hid (w6.ownsRow wB.heap.size 3 1 v6 (i+1) (((L.take i).map (·.m.e.va)).map I++ [I v])):=hown6;have HW6:Hid (Below wB.heap.size wB w6):=(HB2.out.alloc hz2 _).grown hgrow6 (by simp;omega) (fun b e=>(HR2.out.lt b e).1);have hz6:wB.heap.size<=w6.heap.size:=HW6.out.size;obtain⟨oa6,oc6,rfl⟩:=zar hown6;clear hown6 hgrow6 hnil6 hat6 g0))
   have HF:Hid (w6.ownsRow wB.heap.size 3 1 (.slice oa6 (i+1) oc6) (i+1) (((L.take (i+1)).map (·.m.e.va)).map I)):=by
    show World.ownsRow _ _ _ _ _ _ _
    rw [HSU.out]
    exact HO6.out
   exact⟨⟨i+1,oa6,oc6,by omega,by go_num,rfl,HF,HW6⟩,by simp [intOf];omega⟩
  ·have hii2:¬(i:Int)<L.length:=by omega
   obtain rfl:i=L.length:=by omega
   have hzB:=HB1.out.size
   have HRE:Hid (wr.ownsRow w.heap.size 3 1 (.slice oa2 L.length oc2) L.length ((L.map (·.m.e.va)).map I)):=by
    have:=HR2.out
    rw [List.take_length] at this
    exact zbr this hzB
   have HBE:Hid (Below w.heap.size w wr):=HB1.out.trans (HB2.out.mono hzB)
   go_wp2
   go_ret
   refine⟨_,rfl, ?_,HBE.out⟩
   rw [←HCS.out]
   exact HRE.out
theorem zra(ks:List Mk)(a:Option Addr)(c:Nat)(ob:Int)(w:World)(h:MksAt w a ks)(hl:ks.length<=1048576)(hd:∀k∈ks,k.m.e.dots.length<=1048576)(hr:ob.tmod 4=3)(ht:(treeK ks (ks.length+1) ⟨0,0,0⟩).length<=1048576):
  Calls Tryz.prog 137 #[.slice a ks.length c,I ob] w fun e w'=>∃v',e= .returned v'∧w'.ownsRow w.heap.size 3 1 v' (zau ks).length (((zau ks).map (·.m.e.va)).map I)∧Below w.heap.size w w':=by
 obtain⟨i1,HI1⟩:∃i,Hid (Tryz.prog.info? 3=some i∧i.zero=some (.int .i64 0)∧i.size=1∧i.bytes=8):=by obtain⟨i,h⟩:=info_parts zev;exact⟨i,h⟩
 have HC:=zce ks a c w h hl hd ht
 obtain⟨L,HL⟩:∃L,Hid (zau ks=L):=⟨_,rfl⟩
 rw [HL.out] at HC
 have hLL:L.length<=1048576:=by rw [←HL.out];exact Nat.le_trans (List.length_filter_le _ _) ht
 obtain⟨cs,HCS⟩:∃cs,Hid ((L.map (·.m.e.va)).map I=cs):=⟨_,rfl⟩
 rw [HL.out,HCS.out]
 clear h hd
 go_enter Tryz.func137,Tryz.ntmps137
 go_wp2_with fail
 refine HC.mono ?_
 rintro e wB ⟨v1,rfl,hown1,hb1⟩
 obtain⟨oa,oc,rfl⟩:=zar hown1
 have HR1:Hid (wB.ownsRow w.heap.size 259 11 (.slice oa L.length oc) L.length (flat Mk.cells L)):=hown1
 have HB1:Hid (Below w.heap.size w wB):=hb1
 clear hown1 hb1 HC
 go_wp2_with fail
 go_loopw [5,14] (fun y x wr=>∃(i:Nat) (oa2:Option Addr) (oc2:Nat),i<=L.length∧x=I i∧y= .slice oa2 i oc2∧Hid (wr.ownsRow wB.heap.size 3 1 (.slice oa2 i oc2) i (((L.take i).map (·.m.e.va)).map I))∧Hid (Below wB.heap.size wB wr)) (fun _ x _=>L.length - (intOf x).toNat)
 case atStart=>exact⟨0,none,0,by omega,rfl,rfl,⟨rfl, .inl ⟨rfl,rfl⟩⟩,Below.refl _ _⟩
 case round=>
  obtain⟨i,oa2,oc2,hi2,rfl,rfl,HR2,HB2⟩:=hrel
  by_cases hlt2:i<L.length
  ·have hii2:(i:Int)<L.length:=by omega
   obtain⟨p,q,rfl,hc⟩:=zbh (zaw HR1.out) (by omega)
   have g0:wr.cell? ⟨p,q+i*11+2,none⟩=some (I L[i].m.e.va):=zaa HB2.out (hc i hlt2 2 _ rfl)
   have HSU:Hid (((L.take (i+1)).map (·.m.e.va)).map I=((L.take i).map (·.m.e.va)).map I++ [I L[i].m.e.va]):=by
    show _=_
    rw [List.take_succ_eq_append_getElem hlt2,List.map_append,List.map_append]
    rfl
   clear hc
   generalize L[i].m.e.va=v at *
   have n3:i+1<=maxLen:=by unfold maxLen;omega
   have n4:(i+1)*8<=140737488355328:=by omega
   have hz2:wB.heap.size<=wr.heap.size:=HB2.out.size
   have HONE:Hid (∀u∈ [I v],u.oneCell'=true):=zfs [v]
   go_wp2_with (first | (at_builtin;refine wpList_append_own_at _ rfl _ _ _ rfl wB.heap.size 3 i1 (.int .i64 0) 1 8 Tryz.underlying34 HI1.out.1 HI1.out.2.1 HI1.out.2.2.1 HI1.out.2.2.2 rfl (by decide) (.slice oa2 i oc2) i (((L.take i).map (·.m.e.va)).map I) rfl (HR2.out.alloc _) ⟨wr.heap.size,0,none⟩ 1 1 [I v] rfl rfl (zas wr [I v] _) HONE.out n3 n4 (by simp;omega) ?_;intro v6 w6 hown6 hgrow6 hnil6 hat6;have HO6:Hid (w6.ownsRow wB.heap.size 3 1 v6 (i+1) (((L.take i).map (·.m.e.va)).map I++ [I v])):=hown6;have HW6:Hid (Below wB.heap.size wB w6):=(HB2.out.alloc hz2 _).grown hgrow6 (by simp;omega) (fun b e=>(HR2.out.lt b e).1);have hz6:wB.heap.size<=w6.heap.size:=HW6.out.size;obtain⟨oa6,oc6,rfl⟩:=zar hown6;clear hown6 hgrow6 hnil6 hat6 g0))
   have HF:Hid (w6.ownsRow wB.heap.size 3 1 (.slice oa6 (i+1) oc6) (i+1) (((L.take (i+1)).map (·.m.e.va)).map I)):=by
    show World.ownsRow _ _ _ _ _ _ _
    rw [HSU.out]
    exact HO6.out
   exact⟨⟨i+1,oa6,oc6,by omega,by go_num,rfl,HF,HW6⟩,by simp [intOf];omega⟩
  ·have hii2:¬(i:Int)<L.length:=by omega
   obtain rfl:i=L.length:=by omega
   have hzB:=HB1.out.size
   have HRE:Hid (wr.ownsRow w.heap.size 3 1 (.slice oa2 L.length oc2) L.length ((L.map (·.m.e.va)).map I)):=by
    have:=HR2.out
    rw [List.take_length] at this
    exact zbr this hzB
   have HBE:Hid (Below w.heap.size w wr):=HB1.out.trans (HB2.out.mono hzB)
   go_wp2
   go_ret
   refine⟨_,rfl, ?_,HBE.out⟩
   rw [←HCS.out]
   exact HRE.out
def hasV(L:List Mk)(v:Int):Bool:=L.any (fun k=>decide (k.m.e.va=v))
def setP(L:List Mk)(n:Nat):List Int:=((List.range n).map (fun v:Nat=>(v:Int))).filter (hasV L)
theorem zsx(L:List Mk)(n:Nat):setP L (n+1)=setP L n++(if hasV L n=true then [(n:Int)] else []):=by
 unfold setP
 rw [List.range_succ,List.map_append,List.filter_append]
 congr 1
 simp only [List.map_cons,List.map_nil,List.filter_cons,List.filter_nil]
theorem zvn(L:List Mk)(n:Nat):(setP L n).length<=n:=by
 have:=List.length_filter_le (hasV L) ((List.range n).map (fun v:Nat=>(v:Int)))
 rw [List.length_map,List.length_range] at this
 exact this
theorem zuv(ks:List Mk)(a:Option Addr)(c:Nat)(ob:Int)(w:World)(h:MksAt w a ks)(hl:ks.length<=1048576)(hd:∀k∈ks,k.m.e.dots.length<=1048576)(hr:ob.tmod 4=1):
    Calls Tryz.prog 137 #[.slice a ks.length c,I ob] w fun e w'=>∃v',e= .returned v'∧w'.ownsRow w.heap.size 3 1 v' (setK ks).length ((setK ks).map I)∧Below w.heap.size w w':=by
  obtain⟨i1,HI1⟩:∃i,Hid (Tryz.prog.info? 3=some i∧i.zero=some (.int .i64 0)∧i.size=1∧i.bytes=8):=by obtain⟨i,h⟩:=info_parts zev;exact⟨i,h⟩
  have HC:=zet ks a c 2 3 w h hl hd
  obtain⟨L,HL⟩:∃L,Hid (livK ks 2 3=L):=⟨_,rfl⟩
  rw [HL.out] at HC
  have hLL:L.length<=1048576:=by rw [←HL.out];exact Nat.le_trans (zff _ _ _) hl
  have HSK:Hid (setK ks=setP L 256):=by show _=_;unfold setK setP;rw [HL.out];rfl
  obtain⟨cs,HCS⟩:∃cs,Hid (setK ks=cs):=⟨_,rfl⟩
  rw [HCS.out]
  clear h hd
  go_enter Tryz.func137,Tryz.ntmps137
  go_wp2_with fail
  refine HC.mono ?_
  rintro e wB ⟨v1,rfl,hown1,hb1⟩
  obtain⟨oa,oc,rfl⟩:=zar hown1
  have HR1:Hid (wB.ownsRow w.heap.size 259 11 (.slice oa L.length oc) L.length (flat Mk.cells L)):=hown1
  have HB1:Hid (Below w.heap.size w wB):=hb1
  clear hown1 hb1 HC
  go_wp2_with fail
  go_loopw [5,9] (fun y x wr=>∃(v:Nat) (oa2:Option Addr) (oc2:Nat) (acc:List Int),v<=256∧x=I v∧y= .slice oa2 acc.length oc2∧Hid (acc=setP L v)∧Hid (wr.ownsRow wB.heap.size 3 1 (.slice oa2 acc.length oc2) acc.length (acc.map I))∧Hid (Below wB.heap.size wB wr)) (fun _ x _=>256 - (intOf x).toNat)
  case atStart=>exact⟨0,none,0, [],by omega,rfl,rfl,rfl,⟨rfl, .inl ⟨rfl,rfl⟩⟩,Below.refl _ _⟩
  case round=>
    obtain⟨v,oa2,oc2,acc,hv,rfl,rfl,HA,HR2,HB2⟩:=hrel
    by_cases hlt:v<=255
    · have hii:(v:Int)<=255:=by omega
      have hal:acc.length<=255:=by rw [HA.out];have:=zvn L v;omega
      have HSU:Hid (setP L (v+1)=acc++(if hasV L v=true then [(v:Int)] else [])):=by show _=_;rw [zsx,HA.out]
      clear HA
      go_wp2_with fail
      go_loopw [5,10] (fun y x wx=>∃(i:Nat),i<=L.length∧x=I i∧y= .slice oa2 acc.length oc2∧Hid (hasV (L.take i) v=false)∧Hid (wx.ownsRow wB.heap.size 3 1 (.slice oa2 acc.length oc2) acc.length (acc.map I))∧Hid (Below wB.heap.size wB wx)) (fun _ x _=>L.length - (intOf x).toNat)
      case atStart=>exact⟨0,by omega,rfl,rfl,rfl,HR2,HB2⟩
      case round=>
        obtain⟨i,hi,rfl,rfl,HN,HRr,HBr⟩:=hrel
        clear HR2 HB2
        by_cases hlt2:i<L.length
        · have hii2:(i:Int)<L.length:=by omega
          obtain⟨p,q,rfl,hc⟩:=zbh (zaw HR1.out) (by omega)
          have g0:wr.cell? ⟨p,q+i*11+2,none⟩=some (I L[i].m.e.va):=zaa HBr.out (hc i hlt2 2 _ rfl)
          have HSI:Hid (hasV (L.take (i+1)) v=decide (L[i].m.e.va=v)):=by show _=_;unfold hasV;rw [zc7 _ _ _ hlt2];have:=HN.out;unfold hasV at this;rw [this,Bool.false_or]
          have HYES:Hid (L[i].m.e.va=v->hasV L v=true):=fun e=>List.any_eq_true.2 ⟨_,List.getElem_mem hlt2,decide_eq_true e⟩
          clear hc
          generalize L[i].m.e.va=x at *
          by_cases hx:x=v
          · have hxb:(x==(v:Int))=true:=by simp [hx]
            have HN2:Hid (acc++ [(v:Int)]=setP L (v+1)):=by show _=_;rw [HSU.out,if_pos (HYES.out hx)]
            have n3:acc.length+1<=maxLen:=by unfold maxLen;omega
            have n4:(acc.length+1)*8<=140737488355328:=by omega
            have hz2:wB.heap.size<=wr.heap.size:=HBr.out.size
            have HONE:Hid (∀u∈ [I (v:Int)],u.oneCell'=true):=zfs [(v:Int)]
            clear HSU HSI HYES hx HN
            go_wp2_with (first | (at_builtin;refine wpList_append_own_at _ rfl _ _ _ rfl wB.heap.size 3 i1 (.int .i64 0) 1 8 Tryz.underlying34 HI1.out.1 HI1.out.2.1 HI1.out.2.2.1 HI1.out.2.2.2 rfl (by decide) (.slice oa2 acc.length oc2) acc.length (acc.map I) rfl (HRr.out.alloc _) ⟨wr.heap.size,0,none⟩ 1 1 [I (v:Int)] rfl rfl (zas wr [I (v:Int)] _) HONE.out n3 n4 (by simp;omega) ?_;intro v6 w6 hown6 hgrow6 hnil6 hat6;have HO6:Hid (w6.ownsRow wB.heap.size 3 1 v6 (acc.length+1) (acc.map I++ [I (v:Int)])):=hown6;have HW6:Hid (Below wB.heap.size wB w6):=(HBr.out.alloc hz2 _).grown hgrow6 (by simp;omega) (fun b e=>(HRr.out.lt b e).1);have hz6:wB.heap.size<=w6.heap.size:=HW6.out.size;obtain⟨oa6,oc6,rfl⟩:=zar hown6;clear hown6 hgrow6 hnil6 hat6 g0))
            have hlen:(acc++ [(v:Int)]).length=acc.length+1:=by simp
            have HF:Hid (w6.ownsRow wB.heap.size 3 1 (.slice oa6 (acc++ [(v:Int)]).length oc6) (acc++ [(v:Int)]).length ((acc++ [(v:Int)]).map I)):=by
              show World.ownsRow _ _ _ _ _ _ _
              rw [hlen,List.map_append]
              exact HO6.out
            first
              | exact⟨⟨v+1,oa6,oc6,acc++ [(v:Int)],by omega,by go_num,by rw [hlen],HN2,HF,HW6⟩,by simp [intOf];omega⟩
              | (refine⟨?mm, ?ms⟩
                 case mm=>
                   (repeat apply Exists.intro)
                   exact⟨⟨v+1,oa6,oc6,acc++ [(v:Int)],by omega,by go_num,by rw [hlen],HN2,HF,HW6⟩,rfl⟩
                 case ms=>simp [intOf];omega)
          · have hxb:(x==(v:Int))=false:=by simp [hx]
            have HN2:Hid (hasV (L.take (i+1)) v=false):=by show _=_;rw [HSI.out,decide_eq_false hx]
            clear HSI HYES HN
            go_wp2_with fail
            go_roundw
            case rel=>exact⟨i+1,by omega,by go_num,rfl,HN2,HRr,HBr⟩
            case measure=>simp [intOf];omega
        · have hii2:¬(i:Int)<L.length:=by omega
          have HN2:Hid (acc=setP L (v+1)):=by show _=_;rw [HSU.out];have:=HN.out;rw [List.take_of_length_le (by omega)] at this;rw [this];simp
          clear HSU HN
          go_wp2_with fail
          go_roundw
          case rel=>exact⟨v+1,oa2,oc2,acc,by omega,by go_num,rfl,HN2,HRr,HBr⟩
          case measure=>simp [intOf];omega
    · have hii:¬(v:Int)<=255:=by omega
      obtain rfl:v=256:=by omega
      have hzB:=HB1.out.size
      have HRE:Hid (wr.ownsRow w.heap.size 3 1 (.slice oa2 acc.length oc2) acc.length (acc.map I)):=zbr HR2.out hzB
      have HBE:Hid (Below w.heap.size w wr):=HB1.out.trans (HB2.out.mono hzB)
      have HCA:Hid (cs=acc):=by show _=_;rw [←HCS.out,HSK.out,HA.out]
      clear HA
      go_wp2
      go_ret
      refine⟨_,rfl, ?_,HBE.out⟩
      rw [HCA.out]
      exact HRE.out
def badV(a:Int):Prop:=a<0∨255<a
instance (a:Int):Decidable (badV a):=by unfold badV;infer_instance
def ef0(op ob:Int):Wv.Ef:=⟨op,ob,0,⟨0,0,0⟩, []⟩
def remK(ks:List Mk)(a:Int):List Wv.Dt:=((livK ks 2 3).filter (fun k=>decide (k.m.e.va=a))).map (·.d)
def EffOk(w:World)(E:Wv.Ef)(s:Bool)(n:Int)(e:Ending)(w':World):Prop:=∃da dc,e= .returned (.tuple #[.agg #[I E.op,I E.ob,I E.va,I E.ref.o,I E.ref.s,I E.ref.i, .slice da E.dots.length dc], .bool s,I n])∧w'.ownsRow w.heap.size 146 3 (.slice da E.dots.length dc) E.dots.length (flat zab E.dots)∧Below w.heap.size w w'
theorem zcl(w w':World)(E:Wv.Ef)(s:Bool)(n:Int)(h:E.dots= [])(hb:Below w.heap.size w w'):EffOk w E s n (.returned (.tuple #[.agg #[I E.op,I E.ob,I E.va,I E.ref.o,I E.ref.s,I E.ref.i, .slice none 0 0], .bool s,I n])) w':=by
 refine⟨none,0, ?_, ?_,hb⟩
 ·rw [h];rfl
 ·rw [h];exact⟨rfl, .inl ⟨rfl,rfl⟩⟩
theorem za8{W:World}{a:Act}{B:Nat}{c0 c1 c2 c3 c4 c5 c6:Value}{s:Bool}{n:Int}{R:Ending->World->Prop}(hB:Blk W B #[c0,c1,c2,c3,c4,c5,c6] 149)(h10:a.tmps.getD 10 undef= .pointer (some ⟨B,0,none⟩))(h11:a.tmps.getD 11 undef= .bool s)(h12:a.tmps.getD 12 undef=I n)(hd:a.defers= [])
  (hR:R (.returned (.tuple #[.agg #[c0,c1,c2,c3,c4,c5,c6], .bool s,I n])) W):bodyPost Tryz.prog Tryz.f133 R .ret a W:=by
 have f0:W.cell? ⟨B,0,none⟩=some c0:=hB.cell 0
 have f1:W.cell? ⟨B,1,none⟩=some c1:=hB.cell 1
 have f2:W.cell? ⟨B,2,none⟩=some c2:=hB.cell 2
 have f3:W.cell? ⟨B,3,none⟩=some c3:=hB.cell 3
 have f4:W.cell? ⟨B,4,none⟩=some c4:=hB.cell 4
 have f5:W.cell? ⟨B,5,none⟩=some c5:=hB.cell 5
 have f6:W.cell? ⟨B,6,none⟩=some c6:=hB.cell 6
 refine bodyPost_ret ?_ hd hR
 simp only [Array.getD_eq_getD_getElem?] at h10 h11 h12
 simp [results,Tryz.results133,go_sem,f0,f1,f2,f3,f4,f5,f6,h10,h11,h12]
theorem zqy(lv:Value)(ob a b:Int)(w:World):
  Calls Tryz.prog 133 #[lv,I 1,I ob,I a,I b] w fun e w'=>if a< -1000∨1000<a then EffOk w (ef0 1 ob) false 10 e w' else EffOk w {ef0 1 ob with va:=a} true 0 e w':=by
 by_cases hb:a< -1000∨1000<a
 ·simp only [if_pos hb]
  rcases hb with hb | hb
  ·go_enter Tryz.func133,Tryz.ntmps133
   go_wp2
   refine za8 (B:=w.heap.size) (Blk.alloc (heap_alloc_new w _) _) rfl rfl rfl rfl ?_
   exact zcl w _ (ef0 1 ob) false 10 rfl (((Below.refl _ _).alloc (Nat.le_refl _) _).alloc (by simp) _)
  ·have hb':¬a< -1000:=by omega
   go_enter Tryz.func133,Tryz.ntmps133
   go_wp2
   refine za8 (B:=w.heap.size) (Blk.alloc (heap_alloc_new w _) _) rfl rfl rfl rfl ?_
   exact zcl w _ (ef0 1 ob) false 10 rfl (((Below.refl _ _).alloc (Nat.le_refl _) _).alloc (by simp) _)
 ·simp only [if_neg hb]
  have h1:¬a< -1000:=fun h=>hb (.inl h)
  have h2:¬1000<a:=fun h=>hb (.inr h)
  clear hb
  go_enter Tryz.func133,Tryz.ntmps133
  go_wp2
  refine za8 (B:=w.heap.size) (Blk.alloc (heap_alloc_new w _) _) rfl rfl rfl rfl ?_
  exact zcl w _ {ef0 1 ob with va:=a} true 0 rfl (((Below.refl _ _).alloc (Nat.le_refl _) _).alloc (by simp) _)
theorem ze2(w:World)(o:Obj)(cs:Array Value)(t:TypeId)(k:Nat)(hk:k=w.heap.size+1:=by rfl):Blk ((w.alloc o).alloc (.cells cs t)) k cs t:=by subst hk;have:=heap_alloc_new (w.alloc o) (.cells cs t);rwa [show(w.alloc o).heap.size=w.heap.size+1 by simp] at this
theorem zdw(w:World)(p:Nat)(cs:Array Value):Tch (fun k=>k=p) w (w.setRow p cs):=⟨rfl,rfl,rfl,by simp,fun k _ hn=>setRow_other w p k cs hn⟩
theorem zd1{w w2 wF:World}{base:Nat}{da:Option Addr}{dc:Nat}{E:Wv.Ef}{s:Bool}{n:Int}(hb:Below w.heap.size w w2)(ht:Tch (fun k=>k=w.heap.size∨k=w.heap.size+1) w2 wF)(hbase:w.heap.size+2<=base)(hr:w2.ownsRow base 146 3 (.slice da E.dots.length dc) E.dots.length (flat zab E.dots)):
  EffOk w E s n (.returned (.tuple #[.agg #[I E.op,I E.ob,I E.va,I E.ref.o,I E.ref.s,I E.ref.i, .slice da E.dots.length dc], .bool s,I n])) wF:=by
 refine⟨da,dc,rfl,zbr (zah hr fun g e=>ht.block g (hr.lt g e).2 ?_) (by omega),hb.trans (ht.toBelow hb.size (fun k hk=> ?_))⟩
 ·have:=(hr.lt g e).1
  omega
 ·omega
theorem zb8{w:World}{g:Nat}{cs old:Array Value}{t:TypeId}(h:Blk w g old t):Blk (w.setRow g cs) g cs t∧w.grownBy (w.setRow g cs) (some g):=⟨setRow_heap w g old cs t (0,0) h,rfl,rfl,rfl,by simp,fun k _ hn=>setRow_other w g k cs (fun e=>hn (by rw [e]))⟩
theorem zn7(lv:Value)(ob a b:Int)(w:World)(hb:badV a):
  Calls Tryz.prog 133 #[lv,I 2,I ob,I a,I b] w fun e w'=>EffOk w (ef0 2 ob) false 10 e w':=by
 rcases hb with hb | hb
 ·go_enter Tryz.func133,Tryz.ntmps133
  go_wp2
  refine za8 (B:=w.heap.size) (Blk.alloc (heap_alloc_new w _) _) rfl rfl rfl rfl ?_
  exact zcl w _ (ef0 2 ob) false 10 rfl (((Below.refl _ _).alloc (Nat.le_refl _) _).alloc (by simp) _)
 ·have hb':¬a<0:=by omega
  go_enter Tryz.func133,Tryz.ntmps133
  go_wp2
  refine za8 (B:=w.heap.size) (Blk.alloc (heap_alloc_new w _) _) rfl rfl rfl rfl ?_
  exact zcl w _ (ef0 2 ob) false 10 rfl (((Below.refl _ _).alloc (Nat.le_refl _) _).alloc (by simp) _)
theorem zn6(lv:Value)(ob a b:Int)(w:World)(hb:badV a):
  Calls Tryz.prog 133 #[lv,I 3,I ob,I a,I b] w fun e w'=>EffOk w (ef0 3 ob) false 10 e w':=by
 rcases hb with hb | hb
 ·go_enter Tryz.func133,Tryz.ntmps133
  go_wp2
  refine za8 (B:=w.heap.size) (Blk.alloc (heap_alloc_new w _) _) rfl rfl rfl rfl ?_
  exact zcl w _ (ef0 3 ob) false 10 rfl (((Below.refl _ _).alloc (Nat.le_refl _) _).alloc (by simp) _)
 ·have hb':¬a<0:=by omega
  go_enter Tryz.func133,Tryz.ntmps133
  go_wp2
  refine za8 (B:=w.heap.size) (Blk.alloc (heap_alloc_new w _) _) rfl rfl rfl rfl ?_
  exact zcl w _ (ef0 3 ob) false 10 rfl (((Below.refl _ _).alloc (Nat.le_refl _) _).alloc (by simp) _)
theorem zn5(lv:Value)(ob a b:Int)(w:World)(hb:badV a):
  Calls Tryz.prog 133 #[lv,I 4,I ob,I a,I b] w fun e w'=>EffOk w (ef0 4 ob) false 10 e w':=by
 rcases hb with hb | hb
 ·go_enter Tryz.func133,Tryz.ntmps133
  go_wp2
  refine za8 (B:=w.heap.size) (Blk.alloc (heap_alloc_new w _) _) rfl rfl rfl rfl ?_
  exact zcl w _ (ef0 4 ob) false 10 rfl (((Below.refl _ _).alloc (Nat.le_refl _) _).alloc (by simp) _)
 ·have hb':¬a<0:=by omega
  go_enter Tryz.func133,Tryz.ntmps133
  go_wp2
  refine za8 (B:=w.heap.size) (Blk.alloc (heap_alloc_new w _) _) rfl rfl rfl rfl ?_
  exact zcl w _ (ef0 4 ob) false 10 rfl (((Below.refl _ _).alloc (Nat.le_refl _) _).alloc (by simp) _)
theorem zn4(lv:Value)(ob a b:Int)(w:World)(hb:badV b):
  Calls Tryz.prog 133 #[lv,I 5,I ob,I a,I b] w fun e w'=>EffOk w (ef0 5 ob) false 10 e w':=by
 rcases hb with hb | hb
 ·go_enter Tryz.func133,Tryz.ntmps133
  go_wp2
  refine za8 (B:=w.heap.size) (Blk.alloc (heap_alloc_new w _) _) rfl rfl rfl rfl ?_
  exact zcl w _ (ef0 5 ob) false 10 rfl (((Below.refl _ _).alloc (Nat.le_refl _) _).alloc (by simp) _)
 ·have hb':¬b<0:=by omega
  go_enter Tryz.func133,Tryz.ntmps133
  go_wp2
  refine za8 (B:=w.heap.size) (Blk.alloc (heap_alloc_new w _) _) rfl rfl rfl rfl ?_
  exact zcl w _ (ef0 5 ob) false 10 rfl (((Below.refl _ _).alloc (Nat.le_refl _) _).alloc (by simp) _)
theorem zj2(lv:Value)(ob a b:Int)(w:World)(hb:¬badV a):
  Calls Tryz.prog 133 #[lv,I 2,I ob,I a,I b] w fun e w'=>EffOk w {ef0 2 ob with va:=a} true 0 e w':=by
 have h1:¬a<0:=fun h=>hb (.inl h)
 have h2:¬255<a:=fun h=>hb (.inr h)
 clear hb
 go_enter Tryz.func133,Tryz.ntmps133
 go_wp2
 refine za8 (B:=w.heap.size) (Blk.alloc (heap_alloc_new w _) _) rfl rfl rfl rfl ?_
 exact zcl w _ {ef0 2 ob with va:=a} true 0 rfl (((Below.refl _ _).alloc (Nat.le_refl _) _).alloc (by simp) _)
theorem zl4(ks:List Mk)(la:Option Addr)(c:Nat)(ob a b:Int)(w:World)(h:MksAt w la ks)(hl:ks.length<=1048576)(hd:∀k∈ks,k.m.e.dots.length<=1048576)(hb:¬badV a):
  Calls Tryz.prog 133 #[.slice la ks.length c,I 4,I ob,I a,I b] w fun e w'=>EffOk w {ef0 4 ob with va:=a,dots:=(livK ks 4 4).map (·.d)} true 0 e w':=by
 have h1:¬a<0:=fun h=>hb (.inl h)
 have h2:¬255<a:=fun h=>hb (.inr h)
 obtain⟨wA,hwA⟩:∃wA,wA=(w.alloc (.cells #[I 0,I 0,I 0,I 0,I 0,I 0, .slice none 0 0] 149)).alloc (.cells #[I 4,I ob,I a,I 0,I 0,I 0, .slice none 0 0] 149):=⟨_,rfl⟩
 have HZ:Hid (Blk wA w.heap.size #[I 0,I 0,I 0,I 0,I 0,I 0, .slice none 0 0] 149):=by rw [hwA];exact Blk.alloc (heap_alloc_new w _) _
 have HX:Hid (Blk wA (w.heap.size+1) #[I 4,I ob,I a,I 0,I 0,I 0, .slice none 0 0] 149):=by rw [hwA];exact ze2 w _ _ _ _
 have HB0:Hid (Below w.heap.size w wA):=by rw [hwA];exact((Below.refl _ _).alloc (Nat.le_refl _) _).alloc (by simp) _
 have hzA:wA.heap.size=w.heap.size+1+1:=by rw [hwA];simp
 obtain⟨L,HL⟩:∃L,Hid (livK ks 4 4=L):=⟨_,rfl⟩
 have HC:=zet ks la c 4 4 wA (h.kept HB0.out) hl hd
 rw [HL.out] at HC ⊢
 have hLL:L.length<=1048576:=by rw [←HL.out];exact Nat.le_trans (zff _ _ _) hl
 clear hb h hd
 go_enter Tryz.func133,Tryz.ntmps133
 go_wp2_with fail
 change Calls _ _ _ ((w.alloc (.cells #[I 0,I 0,I 0,I 0,I 0,I 0, .slice none 0 0] 149)).alloc (.cells #[I 4,I ob,I a,I 0,I 0,I 0, .slice none 0 0] 149)) _
 rw [←hwA]
 clear hwA
 refine HC.mono ?_
 rintro e w1 ⟨v1,rfl,hown1,hb1⟩
 obtain⟨oa,oc,rfl⟩:=zar hown1
 have HA1:Hid (At w1 oa (flat Mk.cells L)):=zaw hown1
 have HB1:Hid (Below wA.heap.size wA w1):=hb1
 clear hown1 hb1 HC
 go_wp2_with fail
 refine(zuo L oa oc w1 HA1.out hLL).mono ?_
 rintro e w2 ⟨v2,rfl,hown2,hb2⟩
 obtain⟨da,dc,rfl⟩:=zar hown2
 obtain⟨ds,HDS⟩:∃ds,Hid (L.map (·.d)=ds):=⟨_,rfl⟩
 rw [HDS.out] at hown2 ⊢
 have HB2:Hid (Below wA.heap.size wA w2):=HB1.out.trans (hb2.mono HB1.out.size)
 have HR2:Hid (w2.ownsRow wA.heap.size 146 3 (.slice da ds.length dc) ds.length (flat zab ds)):=zbr hown2 HB1.out.size
 have HZ2:Hid (Blk w2 w.heap.size #[I 0,I 0,I 0,I 0,I 0,I 0, .slice none 0 0] 149):=HZ.out.kept HB2.out (by omega)
 have HX2:Hid (Blk w2 (w.heap.size+1) #[I 4,I ob,I a,I 0,I 0,I 0, .slice none 0 0] 149):=HX.out.kept HB2.out (by omega)
 have x6:w2.cell? ⟨w.heap.size+1,6,none⟩=some (.slice none 0 0):=HX2.out.cell 6
 have y6:w2.frozen? ⟨w.heap.size+1,6,none⟩=false:=HX2.out.frozen 6
 have HX3:Hid (Blk (w2.setCell ⟨w.heap.size+1,6,none⟩ (.slice da ds.length dc)) (w.heap.size+1) #[I 4,I ob,I a,I 0,I 0,I 0, .slice da ds.length dc] 149):=HX2.out.set 6 _
 have HZ3:Hid (Blk (w2.setCell ⟨w.heap.size+1,6,none⟩ (.slice da ds.length dc)) w.heap.size #[I 0,I 0,I 0,I 0,I 0,I 0, .slice none 0 0] 149):=HZ2.out.other (by show w.heap.size ≠ w.heap.size+1;omega) _
 have HALL:Hid (#[I 4,I ob,I a,I 0,I 0,I 0, .slice da ds.length dc].all (·.oneCell')=true):=by show _=_;simp [Value.oneCell',I]
 clear hown2 hb2 HA1 HB1 HZ HX
 go_wp2_with (first | (refine wpList_load_row rfl 149 _ rfl (w.heap.size+1) rfl 149 _ (0,0) _ HX3.out Tryz.underlying149 rfl rfl ?_) | (refine wpList_store_row rfl 149 _ _ rfl w.heap.size #[I 4,I ob,I a,I 0,I 0,I 0, .slice da ds.length dc] rfl rfl 149 _ HZ3.out rfl rfl HALL.out ?_))
 refine za8 (B:=w.heap.size) (zb8 HZ3.out).1 rfl rfl rfl rfl ?_
 rw [HDS.out]
 exact zd1 (E:={ef0 4 ob with va:=a,dots:=ds}) (HB0.out.trans (HB2.out.mono (by omega))) (((Tch.refl _ _).setCell ⟨w.heap.size+1,6,none⟩ _ (.inl (.inr rfl))).then ((zdw _ _ _).mono (fun _ _ h=> .inl h))) (by omega) HR2.out
end Go.Proofs.YtfmcngncaffloaaGreatDoor
