import Derived.Test.YtfmcngncaffloaaGreatDoorG05ObjF
set_option maxHeartbeats 3200000
namespace Go.Proofs.YtfmcngncaffloaaGreatDoor
open Go.RowKit
set_option maxRecDepth 100000
def stands(ls:List El):List El:=ls.filter (fun e=> !e.x)
theorem zo3(ls:List El)(h:zax El.x ls= -1):stands ls=ls:=by
 unfold stands
 rw [List.filter_eq_self]
 intro e he
 unfold zax at h
 split at h
 ·omega
 ·rename_i hn
  have:=List.findIdx?_eq_none_iff.1 hn e he
  simp [this]
theorem znv(f:El->Bool)(ls:List El)(h:¬zax f ls= -1):∃k:Nat,zax f ls=k∧∃hk:k<ls.length,f ls[k]=true∧∀j (hj:j<k),f (ls[j]'(by omega))=false:=by
 unfold zax at h ⊢
 split
 ·rename_i k hk
  obtain⟨h1,h2,h3⟩:=List.findIdx?_eq_some_iff_getElem.1 hk
  exact⟨k,rfl,h1,h2,fun j hj=>by simpa using h3 j hj⟩
 ·rename_i hn
  rw [hn] at h
  simp at h
theorem ze7(ls:List El)(e:El):stands (ls++ [e])=stands ls++(if e.x then [] else [e]):=by
 unfold stands
 cases h:e.x<;>simp [h]
theorem ze6(ls:List El)(j:Nat)(hj:j<ls.length):ls.take (j+1)=ls.take j++ [ls[j]]:=List.take_succ_eq_append_getElem hj
theorem zyn(cs:List El)(i:Nat)(e:El)(h:i<cs.length):(cs.set i e).take (i+1)=cs.take i++ [e]:=by
 rw [ze6 _ _ (by simpa using h),List.take_set_of_le (Nat.le_refl _)]
 simp
theorem zmp(ls:List El)(h:∀e∈ls,e.x=false):stands ls=ls:=by
 unfold stands
 rw [List.filter_eq_self]
 intro e he
 simp [h e he]
theorem zze(g c:Nat)(ls:List El)(w w0:World)(hb:Below w0.heap.size w0 w)(hg:w0.heap.size<=g)(h:Rw w g ls)(hl:ls.length<=1048576)(hc:ls.length<=c):
    Calls Tryz.prog 321 #[.slice (some ⟨g,0,none⟩) ls.length c, .func (.func 322) #[] #[]] w fun e w'=>(∃m,e= .returned (.slice (some ⟨g,0,none⟩) m c)∧m=(stands ls).length)∧Rw w' g (stands ls)∧Below w0.heap.size w0 w':=by
  have HR:Hid (Rw w g ls):=h
  have HB:Hid (Below w0.heap.size w0 w):=hb
  clear h hb
  go_enter Tryz.func321,Tryz.ntmps321
  go_wp2_with fail
  by_cases hn:0<ls.length
  · refine (zly g 0 c ls w HR.out.els hl).mono ?_
    rintro e w1 ⟨rfl,hb1⟩
    have HB1:Hid (Below w0.heap.size w0 w1):=HB.out.trans (hb1.mono HB.out.size)
    have HR1:Hid (Rw w1 g ls):=HR.out.kept hb1
    clear hb1 HR HB
    have hr:=zgl El.x ls hl
    by_cases hneg:zax El.x ls= -1
    · have HS:Hid (stands ls=ls):=zo3 ls hneg
      rw [hneg]
      go_wp2
      go_ret
      exact⟨⟨_,rfl,by rw [HS.out]⟩,by rw [HS.out];exact HR1.out,HB1.out⟩
    · obtain⟨k0,hk0,hkl,hkx,hkn⟩:=znv El.x ls hneg
      have HT0:Hid (ls.take k0=stands (ls.take (k0+1))):=by
        show _=_
        rw [ze6 ls k0 hkl,ze7,hkx,zmp]
        · simp
        · intro e he
          obtain⟨j,hj,rfl⟩:=List.mem_iff_getElem.1 he
          have hj':j<k0:=by rw [List.length_take] at hj;omega
          simpa using hkn j hj'
      have hk1:¬((k0:Int)= -1):=by omega
      rw [hk0]
      clear hneg hr hkx hkn hk0
      have hkb:((k0:Int)== -1)=false:=by simp
      go_wp2_with fail
      go_loopw [5,6] (fun xi xj wr=>∃(i j:Nat) (cs:List El),i<j∧j<=ls.length∧xi=I i∧xj=I j∧Hid (cs.length=ls.length)∧Hid (cs.take i=stands (ls.take j))∧Hid (∀k,j<=k->cs[k]?=ls[k]?)∧Hid (Rw wr g cs)∧Hid (Below w0.heap.size w0 wr)) (fun _ xj _=>ls.length - (intOf xj).toNat)
      case atStart=>exact⟨k0,k0+1,ls,by omega,hkl,rfl,by go_num,rfl,HT0,fun _ _=>rfl,HR1,HB1⟩
      case round=>
        obtain⟨i,j,cs,hij,hj,rfl,rfl,HCL,HCT,HCR,HR,HB⟩:=hrel
        clear HR1 HB1 HT0
        by_cases hlt:j<ls.length
        · have hji:(j:Int)<ls.length:=by omega
          have hjc:j<cs.length:=by rw [HCL.out];exact hlt
          have hic:i<cs.length:=by omega
          obtain⟨e0,e1,e2,e3,e4,e5⟩:=HR.out.els j hjc
          have HE:Hid (cs[j]=ls[j]):=by
            have:=HCR.out j (Nat.le_refl _)
            rw [List.getElem?_eq_getElem hjc,List.getElem?_eq_getElem hlt] at this
            exact Option.some.inj this
          have HTS:Hid (ls.take (j+1)=ls.take j++ [ls[j]]):=ze6 ls j hlt
          rw [←HE.out] at HTS
          clear HE
          have hgl:=HR.out.lt
          simp only [Nat.zero_add] at e0 e1 e2 e3 e4 e5
          generalize cs[j]=e at *
          have HV:Hid (Below wr.heap.size wr (wr.alloc (.cells #[I e.s.d.o,I e.s.d.s,I e.s.d.i,I e.s.t,I e.v, .bool e.x] 373))):=(Below.refl _ _).alloc (Nat.le_refl _) _
          have HVK:Hid (Blk (wr.alloc (.cells #[I e.s.d.o,I e.s.d.s,I e.s.d.i,I e.s.t,I e.v, .bool e.x] 373)) wr.heap.size #[I e.s.d.o,I e.s.d.s,I e.s.d.i,I e.s.t,I e.v, .bool e.x] 373):=heap_alloc_new wr _
          go_wp2_with fail
          refine(zfz e _).mono ?_
          rintro r w2 ⟨rfl,hb2⟩
          have HB2:Hid (Below w0.heap.size w0 w2):=HB.out.trans ((HV.out.trans (hb2.mono (by simp))).mono HB.out.size)
          have HR2:Hid (Rw w2 g cs):=HR.out.kept (HV.out.trans (hb2.mono (by simp)))
          have HK2:Hid (Blk w2 wr.heap.size #[I e.s.d.o,I e.s.d.s,I e.s.d.i,I e.s.t,I e.v, .bool e.x] 373):=HVK.out.kept hb2 HVK.out.lt
          clear HV HVK hb2 HR HB e0 e1 e2 e3 e4 e5
          generalize hx:e.x=bx at *
          cases bx
          · obtain⟨e0,e1,e2,e3,e4,e5⟩:=HR2.out.els i hic
            simp only [Nat.zero_add] at e0 e1 e2 e3 e4 e5
            have f0:=HR2.out.free (i*6)
            have f1:=HR2.out.free (i*6+1)
            have f2:=HR2.out.free (i*6+2)
            have f3:=HR2.out.free (i*6+3)
            have f4:=HR2.out.free (i*6+4)
            have f5:=HR2.out.free (i*6+5)
            have v0:w2.cell? ⟨wr.heap.size,0,none⟩=some (I e.s.d.o):=HK2.out.cell 0
            have v1:w2.cell? ⟨wr.heap.size,1,none⟩=some (I e.s.d.s):=HK2.out.cell 1
            have v2:w2.cell? ⟨wr.heap.size,2,none⟩=some (I e.s.d.i):=HK2.out.cell 2
            have v3:w2.cell? ⟨wr.heap.size,3,none⟩=some (I e.s.t):=HK2.out.cell 3
            have v4:w2.cell? ⟨wr.heap.size,4,none⟩=some (I e.v):=HK2.out.cell 4
            have v5:w2.cell? ⟨wr.heap.size,5,none⟩=some (.bool false):=HK2.out.cell 5
            have hii:(i:Int)<ls.length:=by omega
            have LR:Hid (Rw (put6 w2 g (i*6) e) g (cs.set i e)):=HR2.out.put i e
            have LB:Hid (Below w0.heap.size w0 (put6 w2 g (i*6) e)):=zpj HB2.out hg _ _
            unfold put6 at LR LB
            rw [hx] at LR LB
            go_wp2_with fail
            go_roundw
            case rel=>
              refine⟨i+1,j+1,cs.set i e,by omega,hlt,by go_num,by go_num, ?_, ?_, ?_,LR,LB⟩
              · show _=_
                rw [List.length_set];exact HCL.out
              · show _=_
                rw [HTS.out,ze7,hx,←HCT.out,zyn cs i e hic]
                simp
              · intro k hk
                rw [List.getElem?_set_ne (by omega)]
                exact HCR.out k (by omega)
            case measure=>simp [intOf];omega
          · go_wp2_with fail
            go_roundw
            case rel=>
              refine⟨i,j+1,cs,by omega,hlt,rfl,by go_num,HCL, ?_,fun k hk=>HCR.out k (by omega),HR2,HB2⟩
              show _=_
              rw [HTS.out,ze7,hx,←HCT.out]
              simp
            case measure=>simp [intOf];omega
        · obtain rfl:j=ls.length:=by omega
          have HS:Hid (cs.take i=stands ls):=by show _=_;rw [HCT.out,List.take_length]
          have hil:(stands ls).length=i:=by rw [←HS.out,List.length_take,HCL.out];omega
          have hsl:i+(ls.length - i)=cs.length:=by rw [HCL.out];omega
          have hii:(i:Int)<=ls.length:=by omega
          have hic:(i:Int)<=c:=by omega
          have hicn:i<=c:=by omega
          clear HCL HCT HCR
          obtain⟨w3,hclr,h3,h4⟩:=zjv wr 0 g i (ls.length - i) (c - i) cs HR.out hsl
          have H3:Hid (Rw w3 g (stands ls)):=by rw [HS.out] at h3;exact h3
          have H4:Hid (Below w0.heap.size w0 w3):=HB.out.grown h4 HB.out.size (fun k e=>by cases e;exact hg)
          clear h3 h4 HS
          go_wp2
          go_ret
          exact⟨⟨i,rfl,hil.symm⟩,H3.out,H4.out⟩
  · obtain rfl:ls= []:=List.eq_nil_of_length_eq_zero (by omega)
    refine(zei (some ⟨g,0,none⟩) c w).mono ?_
    rintro e w1 ⟨rfl,hb1⟩
    have HB1:Hid (Below w0.heap.size w0 w1):=HB.out.trans (hb1.mono HB.out.size)
    have HR1:Hid (Rw w1 g []):=HR.out.kept hb1
    clear hb1 HR HB
    go_wp2
    go_ret
    exact⟨⟨0,rfl,rfl⟩,HR1.out,HB1.out⟩
end Go.Proofs.YtfmcngncaffloaaGreatDoor
namespace Go.Proofs.YtfmcngncaffloaaGreatDoor
open Go.RowKit
set_option maxRecDepth 100000
theorem zlc(n c:Nat)(w:World):
  Calls Tryz.prog 312 #[.slice none n c] w fun e w'=>e= .returned (.slice none 0 0)∧w'=w:=by
 have hnil:=Lib.run_eql_slice_nil (P:=Tryz.prog) w 191 373 none n c 0 0 Tryz.underlying191
 go_enter Tryz.func312,Tryz.ntmps312
 go_wp2
 go_ret
 exact⟨rfl,rfl⟩
theorem zr4(a:Option Addr)(c:Nat)(w:World):
  Calls Tryz.prog 321 #[.slice a 0 c, .func (.func 322) #[] #[]] w fun e w'=>e= .returned (.slice a 0 c)∧Below w.heap.size w w':=by
 go_enter Tryz.func321,Tryz.ntmps321
 go_wp2_with fail
 refine(zei a c w).mono ?_
 rintro e w1 ⟨rfl,hb1⟩
 have HB:Hid (Below w.heap.size w w1):=hb1
 clear hb1
 go_wp2
 go_ret
 exact⟨rfl,HB.out⟩
theorem Rw.at{w:World}{g:Nat}{cs:List El}(h:Rw w g cs):At w (some ⟨g,0,none⟩) (flat El.cells cs):=by
 obtain⟨cur,hB,hs,hc⟩:=h.row
 intro j u hj
 have hl:j<cs.length*6:=by rw [←zaq El.cells 6 zaj cs];exact(List.getElem?_eq_some_iff.1 hj).1
 exact⟨g,0,rfl,by rw [hB.cell,Nat.zero_add,hc j hl];exact hj⟩
def zh7(w:World)(ls:List El)(e:Ending)(w':World):Prop:=(∃a c,e= .returned (.slice a (stands ls).length c)∧At w' a (flat El.cells (stands ls)))∧Below w.heap.size w w'
theorem zel(p:Nat)(a:Option Addr)(c:Nat)(ls:List El)(w:World)(h:w.cell? ⟨p,0,none⟩=some (.slice a ls.length c))(hpl:a=none∨∃p q,a=some ⟨p,q,none⟩)(hat:At w a (flat El.cells ls))(hl:ls.length<=1048576):
  Calls Tryz.prog 317 #[.pointer (some ⟨p,0,none⟩)] w fun e w'=>zh7 w ls e w':=by
 have HA:Hid (At w a (flat El.cells ls)):=hat
 clear hat
 rcases hpl with rfl | ⟨p1,q1,rfl⟩
 ·have hn:(flat El.cells ls).length=0:=by
   cases hq:flat El.cells ls with
   | nil=>rfl
   | cons x l=>
    obtain⟨_,_,e,_⟩:=HA.out 0 x (by rw [hq];rfl)
    cases e
  obtain rfl:ls= []:=by
   rw [zaq El.cells 6 zaj] at hn
   exact List.eq_nil_of_length_eq_zero (by omega)
  go_enter Tryz.func317,Tryz.ntmps317
  go_wp2_with fail
  refine(zlc _ c w).mono ?_
  rintro e w1 ⟨rfl,rfl⟩
  go_wp2_with fail
  refine(zr4 none 0 w1).mono ?_
  rintro e w2 ⟨rfl,hb2⟩
  have HB:Hid (Below w1.heap.size w1 w2):=hb2
  clear hb2
  go_wp2
  go_ret
  exact⟨⟨none,0,rfl,fun j u hj=>by simp [stands,flat] at hj⟩,HB.out⟩
 ·go_enter Tryz.func317,Tryz.ntmps317
  go_wp2_with fail
  refine(zjf p1 q1 c ls w HA.out hl).mono ?_
  rintro e w1 ⟨v,rfl,hown,hb1⟩
  have HB1:Hid (Below w.heap.size w w1):=hb1
  clear hb1
  rcases hown.2 with⟨rfl,hz⟩ | ⟨g,cap,cur,rfl,hbg,_,hnc,_⟩
  ·obtain rfl:ls= []:=List.eq_nil_of_length_eq_zero hz
   clear hown
   go_wp2_with fail
   refine(zr4 none 0 w1).mono ?_
   rintro e w2 ⟨rfl,hb2⟩
   have HB:Hid (Below w.heap.size w w2):=HB1.out.trans (hb2.mono HB1.out.size)
   clear hb2
   go_wp2
   go_ret
   exact⟨⟨none,0,rfl,fun j u hj=>by simp [stands,flat] at hj⟩,HB.out⟩
  ·have HR:Hid (Rw w1 g ls):=(Rw.of_own rfl hown).1
   clear hown
   go_wp2_with fail
   refine(zze g cap ls w1 w HB1.out hbg HR.out hl hnc).mono ?_
   rintro e w2 ⟨⟨m,rfl,rfl⟩,hr2,hb2⟩
   have HB:Hid (Below w.heap.size w w2):=hb2
   have H2:Hid (Rw w2 g (stands ls)):=hr2
   clear hb2 hr2
   go_wp2
   go_ret
   exact⟨⟨some ⟨g,0,none⟩,cap,rfl,H2.out.at⟩,HB.out⟩
end Go.Proofs.YtfmcngncaffloaaGreatDoor
namespace Go.Proofs.YtfmcngncaffloaaGreatDoor
open Go.RowKit
set_option maxRecDepth 100000
abbrev efV (op ob va:Int) (r:Wv.Dt):Value:= .agg #[I op,I ob,I va,I r.o,I r.s,I r.i, .slice none 0 0]
def zbc(ls:List El)(n:Int):Wv.Dt×Int:=if h:0<=n∧n.toNat<(stands ls).length then((stands ls)[n.toNat].s.d,0) else(⟨0,0,0⟩,11)
theorem zqt(ls:List El)(k:Nat)(h:k<(stands ls).length):zbc ls k=((stands ls)[k].s.d,0):=by
 unfold zbc
 rw [dif_pos ⟨by omega,by simpa using h⟩]
 simp
theorem zul(ls:List El)(n:Int)(h:n<0∨((stands ls).length:Int)<=n):zbc ls n=(⟨0,0,0⟩,11):=by
 unfold zbc
 rw [dif_neg (by omega)]
abbrev zeroE:Array Value:= #[.int .i64 0, .int .i64 0, .int .i64 0, .int .i64 0, .int .i64 0, .int .i64 0, .slice none 0 0]
abbrev putE (w:World) (R:Nat) (a0 a1 a2 a3 a4 a5 a6:Value):World:=((((((w.setCell ⟨R,0,none⟩ a0).setCell ⟨R,1,none⟩ a1).setCell ⟨R,2,none⟩ a2).setCell ⟨R,3,none⟩ a3).setCell ⟨R,4,none⟩ a4).setCell ⟨R,5,none⟩ a5).setCell ⟨R,6,none⟩ a6
theorem zb1{w:World}{R:Nat}(h:Blk w R zeroE 149)(a0 a1 a2 a3 a4 a5 a6:Value):Blk (putE w R a0 a1 a2 a3 a4 a5 a6) R #[a0,a1,a2,a3,a4,a5,a6] 149:=
 ((((((h.set 0 a0).set 1 a1).set 2 a2).set 3 a3).set 4 a4).set 5 a5).set 6 a6
theorem zbb{w0 w:World}(h:Below w0.heap.size w0 w){R:Nat}(hR:w0.heap.size<=R)(a0 a1 a2 a3 a4 a5 a6:Value):Below w0.heap.size w0 (putE w R a0 a1 a2 a3 a4 a5 a6):=
 ((((((h.setCell hR _).setCell hR _).setCell hR _).setCell hR _).setCell hR _).setCell hR _).setCell hR _
theorem zn1(p:Nat)(a:Option Addr)(c:Nat)(ls:List El)(n:Int)(w:World)(h:w.cell? ⟨p,0,none⟩=some (.slice a ls.length c))(hpl:a=none∨∃p q,a=some ⟨p,q,none⟩)(hat:At w a (flat El.cells ls))(hl:ls.length<=1048576):
  Calls Tryz.prog 313 #[.pointer (some ⟨p,0,none⟩),I n] w fun e w'=>e= .returned (.tuple #[efV 0 0 0 (zbc ls n).1,I (zbc ls n).2])∧Below w.heap.size w w':=by
 have HS:Hid (∀w':World,Below w.heap.size w w'->Calls Tryz.prog 317 #[.pointer (some ⟨p,0,none⟩)] w' fun e w''=>zh7 w' ls e w''):=fun w' hb=>zel p a c ls w' (zaa hb h) hpl (hat.kept hb) hl
 clear h hat hpl
 go_enter Tryz.func313,Tryz.ntmps313
 have HB0:Hid (Below w.heap.size w (w.alloc (.cells zeroE 149))):=(Below.refl _ _).alloc (Nat.le_refl _) _
 have HK0:Hid (Blk (w.alloc (.cells zeroE 149)) w.heap.size zeroE 149):=heap_alloc_new w _
 go_wp2_with fail
 refine(HS.out _ HB0.out).mono ?_
 rintro e w1 ⟨⟨a1,c1,rfl,hA⟩,hb1⟩
 have HB1:Hid (Below w.heap.size w w1):=HB0.out.trans (hb1.mono HB0.out.size)
 have HK1:Hid (Blk w1 w.heap.size zeroE 149):=HK0.out.kept hb1 HK0.out.lt
 have HA:Hid (At w1 a1 (flat El.cells (stands ls))):=hA
 clear HS HB0 HK0 hb1 hA
 have k0:w1.cell? ⟨w.heap.size,0,none⟩=some (.int .i64 0):=HK1.out.cell 0
 have z0:=HK1.out.frozen 0
 have k1:w1.cell? ⟨w.heap.size,1,none⟩=some (.int .i64 0):=HK1.out.cell 1
 have z1:=HK1.out.frozen 1
 have k2:w1.cell? ⟨w.heap.size,2,none⟩=some (.int .i64 0):=HK1.out.cell 2
 have z2:=HK1.out.frozen 2
 have k3:w1.cell? ⟨w.heap.size,3,none⟩=some (.int .i64 0):=HK1.out.cell 3
 have z3:=HK1.out.frozen 3
 have k4:w1.cell? ⟨w.heap.size,4,none⟩=some (.int .i64 0):=HK1.out.cell 4
 have z4:=HK1.out.frozen 4
 have k5:w1.cell? ⟨w.heap.size,5,none⟩=some (.int .i64 0):=HK1.out.cell 5
 have z5:=HK1.out.frozen 5
 have k6:w1.cell? ⟨w.heap.size,6,none⟩=some (.slice none 0 0):=HK1.out.cell 6
 have z6:=HK1.out.frozen 6
 by_cases hno:n<0∨((stands ls).length:Int)<=n
 ·have HN:Hid (zbc ls n=(⟨0,0,0⟩,11)):=zul ls n hno
  by_cases hneg:n<0
  all_goals
   (have hnl:n<0->True:=fun _=>trivial
    first | (have hge:((stands ls).length:Int)<=n:=hno.resolve_left hneg) | skip
    clear hno hnl HA
    go_wp2
    have HF:Hid (Blk (putE w1 w.heap.size (I 0) (I 0) (I 0) (I 0) (I 0) (I 0) (.slice none 0 0)) w.heap.size #[I 0,I 0,I 0,I 0,I 0,I 0, .slice none 0 0] 149):=zb1 HK1.out _ _ _ _ _ _ _
    have HY:Hid (Below w.heap.size w (putE w1 w.heap.size (I 0) (I 0) (I 0) (I 0) (I 0) (I 0) (.slice none 0 0))):=zbb HB1.out (Nat.le_refl _) _ _ _ _ _ _ _
    unfold putE at HF HY
    generalize (((((((w1.setCell ⟨w.heap.size,0,none⟩ (I 0)).setCell ⟨w.heap.size,1,none⟩ (I 0)).setCell ⟨w.heap.size,2,none⟩ (I 0)).setCell ⟨w.heap.size,3,none⟩ (I 0)).setCell ⟨w.heap.size,4,none⟩ (I 0)).setCell ⟨w.heap.size,5,none⟩ (I 0)).setCell ⟨w.heap.size,6,none⟩ (.slice none 0 0))=wF at *
    have f0:wF.cell? ⟨w.heap.size,0,none⟩=some (I 0):=HF.out.cell 0
    have f1:wF.cell? ⟨w.heap.size,1,none⟩=some (I 0):=HF.out.cell 1
    have f2:wF.cell? ⟨w.heap.size,2,none⟩=some (I 0):=HF.out.cell 2
    have f3:wF.cell? ⟨w.heap.size,3,none⟩=some (I 0):=HF.out.cell 3
    have f4:wF.cell? ⟨w.heap.size,4,none⟩=some (I 0):=HF.out.cell 4
    have f5:wF.cell? ⟨w.heap.size,5,none⟩=some (I 0):=HF.out.cell 5
    have f6:wF.cell? ⟨w.heap.size,6,none⟩=some (.slice none 0 0):=HF.out.cell 6
    refine bodyPost_ret (v:= .tuple #[efV 0 0 0 ⟨0,0,0⟩,I 11]) (by simp [results,Tryz.results313,go_sem,f0,f1,f2,f3,f4,f5,f6]) rfl ⟨by rw [HN.out],HY.out⟩)
 ·obtain⟨k,rfl⟩:=Int.eq_ofNat_of_zero_le (by omega:0<=n)
  have hk:k<(stands ls).length:=by omega
  have HN:Hid (zbc ls k=((stands ls)[k].s.d,0)):=zqt ls k hk
  obtain⟨p2,q2,rfl,hp2,hE⟩:=zl3 HA.out (by omega)
  obtain⟨e0,e1,e2,e3,e4,e5⟩:=hE k hk
  clear hE HA hno
  generalize (stands ls)[k]=el at *
  have hki:(k:Int)<(stands ls).length:=by omega
  have hkn:¬(k:Int)<0:=by omega
  generalize (stands ls).length=len at *
  go_wp2
  have HF:Hid (Blk (putE w1 w.heap.size (I 0) (I 0) (I 0) (I el.s.d.o) (I el.s.d.s) (I el.s.d.i) (.slice none 0 0)) w.heap.size #[I 0,I 0,I 0,I el.s.d.o,I el.s.d.s,I el.s.d.i, .slice none 0 0] 149):=zb1 HK1.out _ _ _ _ _ _ _
  have HY:Hid (Below w.heap.size w (putE w1 w.heap.size (I 0) (I 0) (I 0) (I el.s.d.o) (I el.s.d.s) (I el.s.d.i) (.slice none 0 0))):=zbb HB1.out (Nat.le_refl _) _ _ _ _ _ _ _
  unfold putE at HF HY
  generalize (((((((w1.setCell ⟨w.heap.size,0,none⟩ (I 0)).setCell ⟨w.heap.size,1,none⟩ (I 0)).setCell ⟨w.heap.size,2,none⟩ (I 0)).setCell ⟨w.heap.size,3,none⟩ (I el.s.d.o)).setCell ⟨w.heap.size,4,none⟩ (I el.s.d.s)).setCell ⟨w.heap.size,5,none⟩ (I el.s.d.i)).setCell ⟨w.heap.size,6,none⟩ (.slice none 0 0))=wF at *
  have f0:wF.cell? ⟨w.heap.size,0,none⟩=some (I 0):=HF.out.cell 0
  have f1:wF.cell? ⟨w.heap.size,1,none⟩=some (I 0):=HF.out.cell 1
  have f2:wF.cell? ⟨w.heap.size,2,none⟩=some (I 0):=HF.out.cell 2
  have f3:wF.cell? ⟨w.heap.size,3,none⟩=some (I el.s.d.o):=HF.out.cell 3
  have f4:wF.cell? ⟨w.heap.size,4,none⟩=some (I el.s.d.s):=HF.out.cell 4
  have f5:wF.cell? ⟨w.heap.size,5,none⟩=some (I el.s.d.i):=HF.out.cell 5
  have f6:wF.cell? ⟨w.heap.size,6,none⟩=some (.slice none 0 0):=HF.out.cell 6
  refine bodyPost_ret (v:= .tuple #[efV 0 0 0 el.s.d,I 0]) (by simp [results,Tryz.results313,go_sem,f0,f1,f2,f3,f4,f5,f6]) rfl ⟨by rw [HN.out],HY.out⟩
end Go.Proofs.YtfmcngncaffloaaGreatDoor
namespace Go.Proofs.YtfmcngncaffloaaGreatDoor
open Go.RowKit
set_option maxRecDepth 100000
theorem zlg(a:Int)(h1:0<=a)(h2:a<=1048576):wrap64 a=a:=by
 unfold wrap64
 omega
def putA(ls:List El)(n v:Int):Int×Wv.Dt×Int:=
 if n=0 then(v,⟨0,0,0⟩,0) else if h:0<n∧(n - 1).toNat<(stands ls).length then(v,(stands ls)[(n - 1).toNat].s.d,0) else(0,⟨0,0,0⟩,11)
theorem zkm(ls:List El)(v:Int):putA ls 0 v=(v,⟨0,0,0⟩,0):=rfl
theorem zwa(ls:List El)(k:Nat)(v:Int)(h:k<(stands ls).length):putA ls ((k:Int)+1) v=(v,(stands ls)[k].s.d,0):=by
 unfold putA
 rw [if_neg (by omega),dif_pos ⟨by omega,by simpa using h⟩]
 simp
theorem zrr(ls:List El)(n v:Int)(h:n<0∨((stands ls).length:Int)<n):putA ls n v=(0,⟨0,0,0⟩,11):=by
 unfold putA
 rw [if_neg (by omega),dif_neg (by omega)]
theorem zm0(p:Nat)(a:Option Addr)(c:Nat)(ls:List El)(n v:Int)(w:World)(h:w.cell? ⟨p,0,none⟩=some (.slice a ls.length c))(hpl:a=none∨∃p q,a=some ⟨p,q,none⟩)(hat:At w a (flat El.cells ls))(hl:ls.length<=1048576):
  Calls Tryz.prog 314 #[.pointer (some ⟨p,0,none⟩),I n,I v] w fun e w'=>e= .returned (.tuple #[efV 0 0 (putA ls n v).1 (putA ls n v).2.1,I (putA ls n v).2.2])∧Below w.heap.size w w':=by
 have HS:Hid (∀w':World,Below w.heap.size w w'->Calls Tryz.prog 317 #[.pointer (some ⟨p,0,none⟩)] w' fun e w''=>zh7 w' ls e w''):=fun w' hb=>zel p a c ls w' (zaa hb h) hpl (hat.kept hb) hl
 clear h hat hpl
 go_enter Tryz.func314,Tryz.ntmps314
 have HB0:Hid (Below w.heap.size w (w.alloc (.cells zeroE 149))):=(Below.refl _ _).alloc (Nat.le_refl _) _
 have HK0:Hid (Blk (w.alloc (.cells zeroE 149)) w.heap.size zeroE 149):=heap_alloc_new w _
 go_wp2_with fail
 refine(HS.out _ HB0.out).mono ?_
 rintro e w1 ⟨⟨a1,c1,rfl,hA⟩,hb1⟩
 have HB1:Hid (Below w.heap.size w w1):=HB0.out.trans (hb1.mono HB0.out.size)
 have HK1:Hid (Blk w1 w.heap.size zeroE 149):=HK0.out.kept hb1 HK0.out.lt
 have HA:Hid (At w1 a1 (flat El.cells (stands ls))):=hA
 clear HS HB0 HK0 hb1 hA
 have k0:w1.cell? ⟨w.heap.size,0,none⟩=some (.int .i64 0):=HK1.out.cell 0
 have z0:=HK1.out.frozen 0
 have k1:w1.cell? ⟨w.heap.size,1,none⟩=some (.int .i64 0):=HK1.out.cell 1
 have z1:=HK1.out.frozen 1
 have k2:w1.cell? ⟨w.heap.size,2,none⟩=some (.int .i64 0):=HK1.out.cell 2
 have z2:=HK1.out.frozen 2
 have k3:w1.cell? ⟨w.heap.size,3,none⟩=some (.int .i64 0):=HK1.out.cell 3
 have z3:=HK1.out.frozen 3
 have k4:w1.cell? ⟨w.heap.size,4,none⟩=some (.int .i64 0):=HK1.out.cell 4
 have z4:=HK1.out.frozen 4
 have k5:w1.cell? ⟨w.heap.size,5,none⟩=some (.int .i64 0):=HK1.out.cell 5
 have z5:=HK1.out.frozen 5
 have k6:w1.cell? ⟨w.heap.size,6,none⟩=some (.slice none 0 0):=HK1.out.cell 6
 have z6:=HK1.out.frozen 6
 by_cases hno:n<0∨((stands ls).length:Int)<n
 ·have HN:Hid (putA ls n v=(0,⟨0,0,0⟩,11)):=zrr ls n v hno
  by_cases hneg:n<0
  all_goals
   (have hnl:n<0->True:=fun _=>trivial
    first | (have hge:((stands ls).length:Int)<n:=hno.resolve_left hneg) | skip
    clear hno hnl HA
    go_wp2
    have HF:Hid (Blk (putE w1 w.heap.size (I 0) (I 0) (I 0) (I 0) (I 0) (I 0) (.slice none 0 0)) w.heap.size #[I 0,I 0,I 0,I 0,I 0,I 0, .slice none 0 0] 149):=zb1 HK1.out _ _ _ _ _ _ _
    have HY:Hid (Below w.heap.size w (putE w1 w.heap.size (I 0) (I 0) (I 0) (I 0) (I 0) (I 0) (.slice none 0 0))):=zbb HB1.out (Nat.le_refl _) _ _ _ _ _ _ _
    unfold putE at HF HY
    generalize (((((((w1.setCell ⟨w.heap.size,0,none⟩ (I 0)).setCell ⟨w.heap.size,1,none⟩ (I 0)).setCell ⟨w.heap.size,2,none⟩ (I 0)).setCell ⟨w.heap.size,3,none⟩ (I 0)).setCell ⟨w.heap.size,4,none⟩ (I 0)).setCell ⟨w.heap.size,5,none⟩ (I 0)).setCell ⟨w.heap.size,6,none⟩ (.slice none 0 0))=wF at *
    have f0:wF.cell? ⟨w.heap.size,0,none⟩=some (I 0):=HF.out.cell 0
    have f1:wF.cell? ⟨w.heap.size,1,none⟩=some (I 0):=HF.out.cell 1
    have f2:wF.cell? ⟨w.heap.size,2,none⟩=some (I 0):=HF.out.cell 2
    have f3:wF.cell? ⟨w.heap.size,3,none⟩=some (I 0):=HF.out.cell 3
    have f4:wF.cell? ⟨w.heap.size,4,none⟩=some (I 0):=HF.out.cell 4
    have f5:wF.cell? ⟨w.heap.size,5,none⟩=some (I 0):=HF.out.cell 5
    have f6:wF.cell? ⟨w.heap.size,6,none⟩=some (.slice none 0 0):=HF.out.cell 6
    refine bodyPost_ret (v:= .tuple #[efV 0 0 0 ⟨0,0,0⟩,I 11]) (by simp [results,Tryz.results314,go_sem,f0,f1,f2,f3,f4,f5,f6]) rfl ⟨by rw [HN.out],HY.out⟩)
 by_cases hz:n=0
 ·subst hz
  have HN:Hid (putA ls 0 v=(v,⟨0,0,0⟩,0)):=zkm ls v
  have HBW:Hid (Below w.heap.size w (w1.alloc (.cells #[I 0,I 0,I v,I 0,I 0,I 0, .slice none 0 0] 149))):=HB1.out.alloc HB1.out.size _
  have HKW:Hid (Blk (w1.alloc (.cells #[I 0,I 0,I v,I 0,I 0,I 0, .slice none 0 0] 149)) w.heap.size zeroE 149):=HK1.out.alloc _
  have k0:(w1.alloc (.cells #[I 0,I 0,I v,I 0,I 0,I 0, .slice none 0 0] 149)).cell? ⟨w.heap.size,0,none⟩=some (.int .i64 0):=HKW.out.cell 0
  have z0:=HKW.out.frozen 0
  have k1:(w1.alloc (.cells #[I 0,I 0,I v,I 0,I 0,I 0, .slice none 0 0] 149)).cell? ⟨w.heap.size,1,none⟩=some (.int .i64 0):=HKW.out.cell 1
  have z1:=HKW.out.frozen 1
  have k2:(w1.alloc (.cells #[I 0,I 0,I v,I 0,I 0,I 0, .slice none 0 0] 149)).cell? ⟨w.heap.size,2,none⟩=some (.int .i64 0):=HKW.out.cell 2
  have z2:=HKW.out.frozen 2
  have k3:(w1.alloc (.cells #[I 0,I 0,I v,I 0,I 0,I 0, .slice none 0 0] 149)).cell? ⟨w.heap.size,3,none⟩=some (.int .i64 0):=HKW.out.cell 3
  have z3:=HKW.out.frozen 3
  have k4:(w1.alloc (.cells #[I 0,I 0,I v,I 0,I 0,I 0, .slice none 0 0] 149)).cell? ⟨w.heap.size,4,none⟩=some (.int .i64 0):=HKW.out.cell 4
  have z4:=HKW.out.frozen 4
  have k5:(w1.alloc (.cells #[I 0,I 0,I v,I 0,I 0,I 0, .slice none 0 0] 149)).cell? ⟨w.heap.size,5,none⟩=some (.int .i64 0):=HKW.out.cell 5
  have z5:=HKW.out.frozen 5
  have k6:(w1.alloc (.cells #[I 0,I 0,I v,I 0,I 0,I 0, .slice none 0 0] 149)).cell? ⟨w.heap.size,6,none⟩=some (.slice none 0 0):=HKW.out.cell 6
  have z6:=HKW.out.frozen 6
  have hlen:¬((stands ls).length:Int)<0:=by omega
  clear hno HA
  go_wp2
  have HF:Hid (Blk (putE (w1.alloc (.cells #[I 0,I 0,I v,I 0,I 0,I 0, .slice none 0 0] 149)) w.heap.size (I 0) (I 0) (I v) (I 0) (I 0) (I 0) (.slice none 0 0)) w.heap.size #[I 0,I 0,I v,I 0,I 0,I 0, .slice none 0 0] 149):=zb1 HKW.out _ _ _ _ _ _ _
  have HY:Hid (Below w.heap.size w (putE (w1.alloc (.cells #[I 0,I 0,I v,I 0,I 0,I 0, .slice none 0 0] 149)) w.heap.size (I 0) (I 0) (I v) (I 0) (I 0) (I 0) (.slice none 0 0))):=zbb HBW.out (Nat.le_refl _) _ _ _ _ _ _ _
  unfold putE at HF HY
  generalize ((((((((w1.alloc (.cells #[I 0,I 0,I v,I 0,I 0,I 0, .slice none 0 0] 149)).setCell ⟨w.heap.size,0,none⟩ (I 0)).setCell ⟨w.heap.size,1,none⟩ (I 0)).setCell ⟨w.heap.size,2,none⟩ (I v)).setCell ⟨w.heap.size,3,none⟩ (I 0)).setCell ⟨w.heap.size,4,none⟩ (I 0)).setCell ⟨w.heap.size,5,none⟩ (I 0)).setCell ⟨w.heap.size,6,none⟩ (.slice none 0 0))=wF at *
  have f0:wF.cell? ⟨w.heap.size,0,none⟩=some (I 0):=HF.out.cell 0
  have f1:wF.cell? ⟨w.heap.size,1,none⟩=some (I 0):=HF.out.cell 1
  have f2:wF.cell? ⟨w.heap.size,2,none⟩=some (I v):=HF.out.cell 2
  have f3:wF.cell? ⟨w.heap.size,3,none⟩=some (I 0):=HF.out.cell 3
  have f4:wF.cell? ⟨w.heap.size,4,none⟩=some (I 0):=HF.out.cell 4
  have f5:wF.cell? ⟨w.heap.size,5,none⟩=some (I 0):=HF.out.cell 5
  have f6:wF.cell? ⟨w.heap.size,6,none⟩=some (.slice none 0 0):=HF.out.cell 6
  refine bodyPost_ret (v:= .tuple #[efV 0 0 v ⟨0,0,0⟩,I 0]) (by simp [results,Tryz.results314,go_sem,f0,f1,f2,f3,f4,f5,f6]) rfl ⟨by rw [HN.out],HY.out⟩
 ·obtain⟨k,hk0⟩:=Int.eq_ofNat_of_zero_le (by omega:0<=n - 1)
  obtain rfl:n=(k:Int)+1:=by omega
  have hk:k<(stands ls).length:=by omega
  have HN:Hid (putA ls ((k:Int)+1) v=(v,(stands ls)[k].s.d,0)):=zwa ls k v hk
  obtain⟨p2,q2,rfl,hp2,hE⟩:=zl3 HA.out (by omega)
  obtain⟨e0',e1',e2',_,_,_⟩:=hE k hk
  clear hE HA hno hk0
  generalize (stands ls)[k]=el at *
  have HBW:Hid (Below w.heap.size w (w1.alloc (.cells #[I 0,I 0,I v,I el.s.d.o,I el.s.d.s,I el.s.d.i, .slice none 0 0] 149))):=HB1.out.alloc HB1.out.size _
  have HKW:Hid (Blk (w1.alloc (.cells #[I 0,I 0,I v,I el.s.d.o,I el.s.d.s,I el.s.d.i, .slice none 0 0] 149)) w.heap.size zeroE 149):=HK1.out.alloc _
  have k0:(w1.alloc (.cells #[I 0,I 0,I v,I el.s.d.o,I el.s.d.s,I el.s.d.i, .slice none 0 0] 149)).cell? ⟨w.heap.size,0,none⟩=some (.int .i64 0):=HKW.out.cell 0
  have z0:=HKW.out.frozen 0
  have k1:(w1.alloc (.cells #[I 0,I 0,I v,I el.s.d.o,I el.s.d.s,I el.s.d.i, .slice none 0 0] 149)).cell? ⟨w.heap.size,1,none⟩=some (.int .i64 0):=HKW.out.cell 1
  have z1:=HKW.out.frozen 1
  have k2:(w1.alloc (.cells #[I 0,I 0,I v,I el.s.d.o,I el.s.d.s,I el.s.d.i, .slice none 0 0] 149)).cell? ⟨w.heap.size,2,none⟩=some (.int .i64 0):=HKW.out.cell 2
  have z2:=HKW.out.frozen 2
  have k3:(w1.alloc (.cells #[I 0,I 0,I v,I el.s.d.o,I el.s.d.s,I el.s.d.i, .slice none 0 0] 149)).cell? ⟨w.heap.size,3,none⟩=some (.int .i64 0):=HKW.out.cell 3
  have z3:=HKW.out.frozen 3
  have k4:(w1.alloc (.cells #[I 0,I 0,I v,I el.s.d.o,I el.s.d.s,I el.s.d.i, .slice none 0 0] 149)).cell? ⟨w.heap.size,4,none⟩=some (.int .i64 0):=HKW.out.cell 4
  have z4:=HKW.out.frozen 4
  have k5:(w1.alloc (.cells #[I 0,I 0,I v,I el.s.d.o,I el.s.d.s,I el.s.d.i, .slice none 0 0] 149)).cell? ⟨w.heap.size,5,none⟩=some (.int .i64 0):=HKW.out.cell 5
  have z5:=HKW.out.frozen 5
  have k6:(w1.alloc (.cells #[I 0,I 0,I v,I el.s.d.o,I el.s.d.s,I el.s.d.i, .slice none 0 0] 149)).cell? ⟨w.heap.size,6,none⟩=some (.slice none 0 0):=HKW.out.cell 6
  have z6:=HKW.out.frozen 6
  have e0:=zaa ((Below.refl w1.heap.size w1).alloc (Nat.le_refl _) (.cells #[I 0,I 0,I v,I 0,I 0,I 0, .slice none 0 0] 149)) e0'
  have e1:=zaa ((Below.refl w1.heap.size w1).alloc (Nat.le_refl _) (.cells #[I 0,I 0,I v,I 0,I 0,I 0, .slice none 0 0] 149)) e1'
  have e2:=zaa ((Below.refl w1.heap.size w1).alloc (Nat.le_refl _) (.cells #[I 0,I 0,I v,I 0,I 0,I 0, .slice none 0 0] 149)) e2'
  have hki:(k:Int)+1<=(stands ls).length:=by omega
  have hkj:(k:Int)<(stands ls).length:=by omega
  have hst:(stands ls).length<=1048576:=Nat.le_trans (List.length_filter_le _ _) hl
  have hk6:(k:Int)<=1048576:=by omega
  have hkw:=zlg (k:Int) (by omega) hk6
  generalize (stands ls).length=len at *
  go_wp2
  have HF:Hid (Blk (putE (w1.alloc (.cells #[I 0,I 0,I v,I el.s.d.o,I el.s.d.s,I el.s.d.i, .slice none 0 0] 149)) w.heap.size (I 0) (I 0) (I v) (I el.s.d.o) (I el.s.d.s) (I el.s.d.i) (.slice none 0 0)) w.heap.size #[I 0,I 0,I v,I el.s.d.o,I el.s.d.s,I el.s.d.i, .slice none 0 0] 149):=zb1 HKW.out _ _ _ _ _ _ _
  have HY:Hid (Below w.heap.size w (putE (w1.alloc (.cells #[I 0,I 0,I v,I el.s.d.o,I el.s.d.s,I el.s.d.i, .slice none 0 0] 149)) w.heap.size (I 0) (I 0) (I v) (I el.s.d.o) (I el.s.d.s) (I el.s.d.i) (.slice none 0 0))):=zbb HBW.out (Nat.le_refl _) _ _ _ _ _ _ _
  unfold putE at HF HY
  generalize ((((((((w1.alloc (.cells #[I 0,I 0,I v,I el.s.d.o,I el.s.d.s,I el.s.d.i, .slice none 0 0] 149)).setCell ⟨w.heap.size,0,none⟩ (I 0)).setCell ⟨w.heap.size,1,none⟩ (I 0)).setCell ⟨w.heap.size,2,none⟩ (I v)).setCell ⟨w.heap.size,3,none⟩ (I el.s.d.o)).setCell ⟨w.heap.size,4,none⟩ (I el.s.d.s)).setCell ⟨w.heap.size,5,none⟩ (I el.s.d.i)).setCell ⟨w.heap.size,6,none⟩ (.slice none 0 0))=wF at *
  have f0:wF.cell? ⟨w.heap.size,0,none⟩=some (I 0):=HF.out.cell 0
  have f1:wF.cell? ⟨w.heap.size,1,none⟩=some (I 0):=HF.out.cell 1
  have f2:wF.cell? ⟨w.heap.size,2,none⟩=some (I v):=HF.out.cell 2
  have f3:wF.cell? ⟨w.heap.size,3,none⟩=some (I el.s.d.o):=HF.out.cell 3
  have f4:wF.cell? ⟨w.heap.size,4,none⟩=some (I el.s.d.s):=HF.out.cell 4
  have f5:wF.cell? ⟨w.heap.size,5,none⟩=some (I el.s.d.i):=HF.out.cell 5
  have f6:wF.cell? ⟨w.heap.size,6,none⟩=some (.slice none 0 0):=HF.out.cell 6
  refine bodyPost_ret (v:= .tuple #[efV 0 0 v el.s.d,I 0]) (by simp [results,Tryz.results314,go_sem,f0,f1,f2,f3,f4,f5,f6]) rfl ⟨by rw [HN.out],HY.out⟩
end Go.Proofs.YtfmcngncaffloaaGreatDoor
namespace Go.Proofs.YtfmcngncaffloaaGreatDoor
open Go.RowKit
set_option maxRecDepth 100000
def valE(n:Int):Int:=if n<0∨255<n then 10 else 0
theorem zdq(n:Int)(w:World):
  Calls Tryz.prog 251 #[I n] w fun e w'=>e= .returned (I (valE n))∧w'=w:=by
 go_enter Tryz.func251,Tryz.ntmps251
 by_cases h:n<0
 ·have HV:Hid (valE n=10):=by show _=_;unfold valE;rw [if_pos (Or.inl h)]
  go_wp2
  go_ret
  exact⟨zbv HV.out.symm,rfl⟩
 ·by_cases h2:255<n
  ·have HV:Hid (valE n=10):=by show _=_;unfold valE;rw [if_pos (Or.inr h2)]
   go_wp2
   go_ret
   exact⟨zbv HV.out.symm,rfl⟩
  ·have HV:Hid (valE n=0):=by show _=_;unfold valE;rw [if_neg (by omega)]
   go_wp2
   go_ret
   exact⟨zbv HV.out.symm,rfl⟩
def listE(ls:List El)(op a b:Int):Int×Wv.Dt×Int:=if op=6 then(0,(zbc ls a).1,(zbc ls a).2) else if valE b ≠ 0 then(0,⟨0,0,0⟩,valE b) else putA ls a b
theorem znh(p:Nat)(a:Option Addr)(c:Nat)(ls:List El)(op x y:Int)(w:World)(h:w.cell? ⟨p,0,none⟩=some (.slice a ls.length c))(hpl:a=none∨∃p q,a=some ⟨p,q,none⟩)(hat:At w a (flat El.cells ls))(hl:ls.length<=1048576):
  Calls Tryz.prog 309 #[.pointer (some ⟨p,0,none⟩),I op,I x,I y] w fun e w'=>e= .returned (.tuple #[efV 0 0 (listE ls op x y).1 (listE ls op x y).2.1,I (listE ls op x y).2.2])∧Below w.heap.size w w':=by
 have HE:Hid (∀w':World,Below w.heap.size w w'->Calls Tryz.prog 313 #[.pointer (some ⟨p,0,none⟩),I x] w' fun e w''=>e= .returned (.tuple #[efV 0 0 0 (zbc ls x).1,I (zbc ls x).2])∧Below w'.heap.size w' w''):=fun w' hb=>zn1 p a c ls x w' (zaa hb h) hpl (hat.kept hb) hl
 have HU:Hid (∀w':World,Below w.heap.size w w'->Calls Tryz.prog 314 #[.pointer (some ⟨p,0,none⟩),I x,I y] w' fun e w''=>e= .returned (.tuple #[efV 0 0 (putA ls x y).1 (putA ls x y).2.1,I (putA ls x y).2.2])∧Below w'.heap.size w' w''):=fun w' hb=>zm0 p a c ls x y w' (zaa hb h) hpl (hat.kept hb) hl
 clear h hat hpl
 have HB0:Hid (Below w.heap.size w (w.alloc (.cells zeroE 149))):=(Below.refl _ _).alloc (Nat.le_refl _) _
 have HK0:Hid (Blk (w.alloc (.cells zeroE 149)) w.heap.size zeroE 149):=heap_alloc_new w _
 go_enter Tryz.func309,Tryz.ntmps309
 by_cases hop:op=6
 ·subst hop
  have HN:Hid (listE ls 6 x y=(0,(zbc ls x).1,(zbc ls x).2)):=rfl
  go_wp2_with fail
  refine(HE.out _ HB0.out).mono ?_
  rintro e w1 ⟨rfl,hb1⟩
  have HBW:Hid (Below w.heap.size w w1):=HB0.out.trans (hb1.mono HB0.out.size)
  have HKW:Hid (Blk w1 w.heap.size zeroE 149):=HK0.out.kept hb1 HK0.out.lt
  clear HE HU HB0 HK0 hb1
  have k0:w1.cell? ⟨w.heap.size,0,none⟩=some (.int .i64 0):=HKW.out.cell 0
  have z0:=HKW.out.frozen 0
  have k1:w1.cell? ⟨w.heap.size,1,none⟩=some (.int .i64 0):=HKW.out.cell 1
  have z1:=HKW.out.frozen 1
  have k2:w1.cell? ⟨w.heap.size,2,none⟩=some (.int .i64 0):=HKW.out.cell 2
  have z2:=HKW.out.frozen 2
  have k3:w1.cell? ⟨w.heap.size,3,none⟩=some (.int .i64 0):=HKW.out.cell 3
  have z3:=HKW.out.frozen 3
  have k4:w1.cell? ⟨w.heap.size,4,none⟩=some (.int .i64 0):=HKW.out.cell 4
  have z4:=HKW.out.frozen 4
  have k5:w1.cell? ⟨w.heap.size,5,none⟩=some (.int .i64 0):=HKW.out.cell 5
  have z5:=HKW.out.frozen 5
  have k6:w1.cell? ⟨w.heap.size,6,none⟩=some (.slice none 0 0):=HKW.out.cell 6
  have z6:=HKW.out.frozen 6
  generalize hea:zbc ls x=ea at *
  go_wp2
  have HF:Hid (Blk (putE w1 w.heap.size (I 0) (I 0) (I 0) (I ea.1.o) (I ea.1.s) (I ea.1.i) (.slice none 0 0)) w.heap.size #[I 0,I 0,I 0,I ea.1.o,I ea.1.s,I ea.1.i, .slice none 0 0] 149):=zb1 HKW.out _ _ _ _ _ _ _
  have HY:Hid (Below w.heap.size w (putE w1 w.heap.size (I 0) (I 0) (I 0) (I ea.1.o) (I ea.1.s) (I ea.1.i) (.slice none 0 0))):=zbb HBW.out (Nat.le_refl _) _ _ _ _ _ _ _
  unfold putE at HF HY
  generalize (((((((w1.setCell ⟨w.heap.size,0,none⟩ (I 0)).setCell ⟨w.heap.size,1,none⟩ (I 0)).setCell ⟨w.heap.size,2,none⟩ (I 0)).setCell ⟨w.heap.size,3,none⟩ (I ea.1.o)).setCell ⟨w.heap.size,4,none⟩ (I ea.1.s)).setCell ⟨w.heap.size,5,none⟩ (I ea.1.i)).setCell ⟨w.heap.size,6,none⟩ (.slice none 0 0))=wF at *
  have f0:wF.cell? ⟨w.heap.size,0,none⟩=some (I 0):=HF.out.cell 0
  have f1:wF.cell? ⟨w.heap.size,1,none⟩=some (I 0):=HF.out.cell 1
  have f2:wF.cell? ⟨w.heap.size,2,none⟩=some (I 0):=HF.out.cell 2
  have f3:wF.cell? ⟨w.heap.size,3,none⟩=some (I ea.1.o):=HF.out.cell 3
  have f4:wF.cell? ⟨w.heap.size,4,none⟩=some (I ea.1.s):=HF.out.cell 4
  have f5:wF.cell? ⟨w.heap.size,5,none⟩=some (I ea.1.i):=HF.out.cell 5
  have f6:wF.cell? ⟨w.heap.size,6,none⟩=some (.slice none 0 0):=HF.out.cell 6
  refine bodyPost_ret (v:= .tuple #[efV 0 0 0 ea.1,I ea.2]) (by simp [results,Tryz.results309,go_sem,f0,f1,f2,f3,f4,f5,f6]) rfl ⟨by rw [HN.out],HY.out⟩
 ·have hN0:listE ls op x y=if valE y ≠ 0 then(0,⟨0,0,0⟩,valE y) else putA ls x y:=by unfold listE;rw [if_neg hop]
  have HN:Hid (listE ls op x y=if valE y ≠ 0 then(0,⟨0,0,0⟩,valE y) else putA ls x y):=hN0
  clear hN0
  go_wp2_with fail
  refine(zdq y _).mono ?_
  rintro e w1 ⟨rfl,hw1⟩
  rw [hw1]
  clear hw1 w1
  generalize valE y=ve at *
  by_cases hv:ve=0
  ·have HN2:Hid (listE ls op x y=putA ls x y):=by show _=_;rw [HN.out,if_neg (by simp [hv])]
   subst hv
   clear HN
   go_wp2_with fail
   refine(HU.out _ HB0.out).mono ?_
   rintro e w1 ⟨rfl,hb1⟩
   have HBW:Hid (Below w.heap.size w w1):=HB0.out.trans (hb1.mono HB0.out.size)
   have HKW:Hid (Blk w1 w.heap.size zeroE 149):=HK0.out.kept hb1 HK0.out.lt
   clear HE HU HB0 HK0 hb1
   have k0:w1.cell? ⟨w.heap.size,0,none⟩=some (.int .i64 0):=HKW.out.cell 0
   have z0:=HKW.out.frozen 0
   have k1:w1.cell? ⟨w.heap.size,1,none⟩=some (.int .i64 0):=HKW.out.cell 1
   have z1:=HKW.out.frozen 1
   have k2:w1.cell? ⟨w.heap.size,2,none⟩=some (.int .i64 0):=HKW.out.cell 2
   have z2:=HKW.out.frozen 2
   have k3:w1.cell? ⟨w.heap.size,3,none⟩=some (.int .i64 0):=HKW.out.cell 3
   have z3:=HKW.out.frozen 3
   have k4:w1.cell? ⟨w.heap.size,4,none⟩=some (.int .i64 0):=HKW.out.cell 4
   have z4:=HKW.out.frozen 4
   have k5:w1.cell? ⟨w.heap.size,5,none⟩=some (.int .i64 0):=HKW.out.cell 5
   have z5:=HKW.out.frozen 5
   have k6:w1.cell? ⟨w.heap.size,6,none⟩=some (.slice none 0 0):=HKW.out.cell 6
   have z6:=HKW.out.frozen 6
   generalize hpa:putA ls x y=pa at *
   go_wp2
   have HF:Hid (Blk (putE w1 w.heap.size (I 0) (I 0) (I pa.1) (I pa.2.1.o) (I pa.2.1.s) (I pa.2.1.i) (.slice none 0 0)) w.heap.size #[I 0,I 0,I pa.1,I pa.2.1.o,I pa.2.1.s,I pa.2.1.i, .slice none 0 0] 149):=zb1 HKW.out _ _ _ _ _ _ _
   have HY:Hid (Below w.heap.size w (putE w1 w.heap.size (I 0) (I 0) (I pa.1) (I pa.2.1.o) (I pa.2.1.s) (I pa.2.1.i) (.slice none 0 0))):=zbb HBW.out (Nat.le_refl _) _ _ _ _ _ _ _
   unfold putE at HF HY
   generalize (((((((w1.setCell ⟨w.heap.size,0,none⟩ (I 0)).setCell ⟨w.heap.size,1,none⟩ (I 0)).setCell ⟨w.heap.size,2,none⟩ (I pa.1)).setCell ⟨w.heap.size,3,none⟩ (I pa.2.1.o)).setCell ⟨w.heap.size,4,none⟩ (I pa.2.1.s)).setCell ⟨w.heap.size,5,none⟩ (I pa.2.1.i)).setCell ⟨w.heap.size,6,none⟩ (.slice none 0 0))=wF at *
   have f0:wF.cell? ⟨w.heap.size,0,none⟩=some (I 0):=HF.out.cell 0
   have f1:wF.cell? ⟨w.heap.size,1,none⟩=some (I 0):=HF.out.cell 1
   have f2:wF.cell? ⟨w.heap.size,2,none⟩=some (I pa.1):=HF.out.cell 2
   have f3:wF.cell? ⟨w.heap.size,3,none⟩=some (I pa.2.1.o):=HF.out.cell 3
   have f4:wF.cell? ⟨w.heap.size,4,none⟩=some (I pa.2.1.s):=HF.out.cell 4
   have f5:wF.cell? ⟨w.heap.size,5,none⟩=some (I pa.2.1.i):=HF.out.cell 5
   have f6:wF.cell? ⟨w.heap.size,6,none⟩=some (.slice none 0 0):=HF.out.cell 6
   refine bodyPost_ret (v:= .tuple #[efV 0 0 pa.1 pa.2.1,I pa.2.2]) (by simp [results,Tryz.results309,go_sem,f0,f1,f2,f3,f4,f5,f6]) rfl ⟨by rw [HN2.out],HY.out⟩
  ·have HN2:Hid (listE ls op x y=(0,⟨0,0,0⟩,ve)):=by show _=_;rw [HN.out,if_pos hv]
   clear HN HE HU
   have HBW:=HB0
   have HKW:=HK0
   clear HB0 HK0
   have k0:(w.alloc (.cells zeroE 149)).cell? ⟨w.heap.size,0,none⟩=some (.int .i64 0):=HKW.out.cell 0
   have z0:=HKW.out.frozen 0
   have k1:(w.alloc (.cells zeroE 149)).cell? ⟨w.heap.size,1,none⟩=some (.int .i64 0):=HKW.out.cell 1
   have z1:=HKW.out.frozen 1
   have k2:(w.alloc (.cells zeroE 149)).cell? ⟨w.heap.size,2,none⟩=some (.int .i64 0):=HKW.out.cell 2
   have z2:=HKW.out.frozen 2
   have k3:(w.alloc (.cells zeroE 149)).cell? ⟨w.heap.size,3,none⟩=some (.int .i64 0):=HKW.out.cell 3
   have z3:=HKW.out.frozen 3
   have k4:(w.alloc (.cells zeroE 149)).cell? ⟨w.heap.size,4,none⟩=some (.int .i64 0):=HKW.out.cell 4
   have z4:=HKW.out.frozen 4
   have k5:(w.alloc (.cells zeroE 149)).cell? ⟨w.heap.size,5,none⟩=some (.int .i64 0):=HKW.out.cell 5
   have z5:=HKW.out.frozen 5
   have k6:(w.alloc (.cells zeroE 149)).cell? ⟨w.heap.size,6,none⟩=some (.slice none 0 0):=HKW.out.cell 6
   have z6:=HKW.out.frozen 6
   go_wp2
   refine bodyPost_ret (v:= .tuple #[efV 0 0 0 ⟨0,0,0⟩,I ve]) (by simp [results,Tryz.results309,go_sem]) rfl ⟨by rw [HN2.out],HBW.out⟩
end Go.Proofs.YtfmcngncaffloaaGreatDoor
namespace Go.Proofs.YtfmcngncaffloaaGreatDoor
open Go.RowKit
set_option maxRecDepth 100000
theorem zev:(Tryz.prog.info? 3).map (fun i=>(i.zero,i.size,i.bytes))=some (some (.int .i64 0),1,8):=by kernel_rfl
theorem zxh(z:Int):∀u∈ [I z],u.oneCell'=true:=by
 intro u hu
 simp only [List.mem_cons,List.mem_nil_iff,or_false] at hu
 rw [hu];rfl
theorem litAt(w:World)(cs:List Value)(t:TypeId)(g:Nat)(hg:g=w.heap.size):∀j u,cs[j]?=some u->(w.alloc (.cells cs.toArray t)).cell? ((⟨g,0,none⟩:Addr).add j)=some u:=by subst hg;exact zas w cs t
theorem zlt{w:World}{base base':Nat}{e:TypeId}{size n:Nat}{v:Value}{xs:List Value}(h:w.ownsRow base e size v n xs)(hb:base'<=base):w.ownsRow base' e size v n xs:=by
 refine⟨h.1, ?_⟩
 rcases h.2 with h2 | ⟨g,cap,cur,rfl,hbg,r⟩
 ·exact .inl h2
 ·exact .inr ⟨g,cap,cur,rfl,Nat.le_trans hb hbg,r⟩
theorem zqe{w1 wr w7:World}{v:Value}{k:Nat}{pre:List Value}{o o':Obj}(hb:Below w1.heap.size w1 wr)(ho:wr.ownsRow w1.heap.size 3 1 v k pre)(hg:((wr.alloc o).alloc o').grownBy w7 v.ownBlock):Below w1.heap.size w1 w7:=
 ((hb.alloc hb.size o).alloc (by have:=hb.size;simp;omega) o').grown hg (by have:=hb.size;simp;omega) (fun b e=>(ho.lt b e).1)
def ze3(w:World)(l:List Int)(e:Ending)(w':World):Prop:=(∃v,e= .returned v∧w'.ownsRow w.heap.size 3 1 v l.length (l.map I))∧Below w.heap.size w w'
theorem znd(p:Nat)(a:Option Addr)(c:Nat)(ls:List El)(w:World)(h:w.cell? ⟨p,0,none⟩=some (.slice a ls.length c))(hpl:a=none∨∃p q,a=some ⟨p,q,none⟩)(hat:At w a (flat El.cells ls))(hl:ls.length<=1048576):
  Calls Tryz.prog 311 #[.pointer (some ⟨p,0,none⟩)] w fun e w'=>ze3 w ((stands ls).map El.v) e w':=by
 have HS:Hid (Calls Tryz.prog 317 #[.pointer (some ⟨p,0,none⟩)] w fun e w''=>zh7 w ls e w''):=zel p a c ls w h hpl hat hl
 have hst:(stands ls).length<=1048576:=Nat.le_trans (List.length_filter_le _ _) hl
 clear h hat hpl
 go_enter Tryz.func311,Tryz.ntmps311
 go_wp2_with fail
 refine HS.out.mono ?_
 rintro e w1 ⟨⟨a1,c1,rfl,hA⟩,hb1⟩
 have HB1:Hid (Below w.heap.size w w1):=hb1
 have HA:Hid (At w1 a1 (flat El.cells (stands ls))):=hA
 clear HS hb1 hA
 generalize hstd:stands ls=st at *
 have HST:Hid (stands ls=st):=hstd
 clear hstd
 obtain⟨i,HI⟩:∃i,Hid (Tryz.prog.info? 3=some i∧i.zero=some (.int .i64 0)∧i.size=1∧i.bytes=8):=by obtain⟨i,h⟩:=info_parts zev;exact⟨i,h⟩
 have O1:Hid (w1.ownsRow w1.heap.size 3 1 (.slice none 0 0) 0 (([]:List Int).map I)):=⟨rfl, .inl ⟨rfl,rfl⟩⟩
 go_wp2_with fail
 go_loopw [3,9] (fun v x wr=>∃k:Nat,k<=st.length∧x=I k∧Hid (wr.ownsRow w1.heap.size 3 1 v k (((st.take k).map El.v).map I))∧Hid (Below w1.heap.size w1 wr)) (fun _ x _=>st.length - (intOf x).toNat)
 case atStart=>exact⟨0,Nat.zero_le _,rfl,O1,Below.refl _ _⟩
 case round=>
  obtain⟨k,hk,rfl,HO,HB⟩:=hrel
  clear O1
  by_cases hlt:k<st.length
  ·obtain⟨p2,q2,rfl,hp2,hE⟩:=zl3 HA.out (by omega)
   obtain⟨e0',e1',e2',e3',e4',e5'⟩:=hE k hlt
   have e0:=zaa HB.out e0'
   have e1:=zaa HB.out e1'
   have e2:=zaa HB.out e2'
   have e3:=zaa HB.out e3'
   have e4:=zaa HB.out e4'
   have e5:=zaa HB.out e5'
   clear hE e0' e1' e2' e3' e4' e5'
   have HTK:Hid (((st.take (k+1)).map El.v).map I=((st.take k).map El.v).map I++ [I st[k].v]):=by
    show _=_
    rw [ze6 st k hlt,List.map_append,List.map_append]
    rfl
   generalize st[k]=el at *
   generalize ((st.take k).map El.v).map I=pre at *
   have hki:(k:Int)<st.length:=by omega
   have n1:k+1<=maxLen:=by unfold maxLen;omega
   have n2:(k+1)*8<=140737488355328:=by omega
   have hw1:w1.heap.size<=wr.heap.size:=HB.out.size
   have OX:Hid (((wr.alloc (.cells #[I el.s.d.o,I el.s.d.s,I el.s.d.i,I el.s.t,I el.v, .bool el.x] 373)).alloc (.cells #[I el.v] 3)).ownsRow w1.heap.size 3 1 u3 k pre):=(HO.out.alloc _).alloc _
   have n3:w1.heap.size<=((wr.alloc (.cells #[I el.s.d.o,I el.s.d.s,I el.s.d.i,I el.s.t,I el.v, .bool el.x] 373)).alloc (.cells #[I el.v] 3)).heap.size:=by simp;omega
   have s1:Hid (wr.heap.size+1=(wr.alloc (.cells #[I el.s.d.o,I el.s.d.s,I el.s.d.i,I el.s.t,I el.v, .bool el.x] 373)).heap.size):=by show _=_;simp
   go_wp2_with (first | (at_builtin;refine wpList_append_own_at _ rfl _ _ _ rfl w1.heap.size 3 i (.int .i64 0) 1 8 Tryz.underlying34 HI.out.1 HI.out.2.1 HI.out.2.2.1 HI.out.2.2.2 rfl (by decide) u3 k pre rfl OX.out ⟨wr.heap.size+1,0,none⟩ 1 1 [I el.v] rfl rfl (litAt _ _ _ _ s1.out) (zxh el.v) n1 n2 n3 ?_;intro v7 w7 hown7 hgrow7 hnil7 hat7;have LO:Hid (w7.ownsRow w1.heap.size 3 1 v7 (k+1) (pre++ [I el.v])):=hown7;have LB:Hid (Below w1.heap.size w1 w7):=zqe HB.out HO.out hgrow7;clear hown7 hgrow7 hnil7 hat7))
   go_roundw
   case rel=>exact⟨k+1,hlt,by go_num,by rw [HTK.out];exact LO,LB⟩
   case measure=>simp [intOf];omega
  ·obtain rfl:k=st.length:=by omega
   have HE:Hid (wr.ownsRow w.heap.size 3 1 u3 (st.map El.v).length ((st.map El.v).map I)):=by
    have:=HO.out
    rw [List.take_length] at this
    rw [List.length_map]
    exact zlt this HB1.out.size
   have HB2:Hid (Below w.heap.size w wr):=HB1.out.trans (HB.out.mono HB1.out.size)
   clear HO HB
   go_wp2
   go_ret
   exact⟨⟨_,rfl,by rw [HST.out];exact HE.out⟩,HB2.out⟩
end Go.Proofs.YtfmcngncaffloaaGreatDoor
namespace Go.Proofs.YtfmcngncaffloaaGreatDoor
open Go.RowKit
set_option maxRecDepth 100000
structure LsOwn(w:World)(p base:Nat)(v:Value)(ls:List El):Prop where
 blk:Blk w p #[v] 193
 row:w.ownsRow base 373 6 v ls.length (flat El.cells ls)
 le:base<=p
theorem LsOwn.form{w:World}{p base:Nat}{v:Value}{ls:List El}(h:LsOwn w p base v ls):∃a c,v= .slice a ls.length c∧w.cell? ⟨p,0,none⟩=some (.slice a ls.length c)∧(a=none∨∃g q,a=some ⟨g,q,none⟩)∧At w a (flat El.cells ls):=by
 rcases h.row.2 with⟨rfl,hz⟩ | ⟨g,cap,cur,rfl,hbg,hg,hnc,hcm,hcs,htake⟩
 ·obtain rfl:ls= []:=List.eq_nil_of_length_eq_zero hz
  exact⟨none,0,rfl,h.blk.cell 0,Or.inl rfl,fun j u hj=>by simp [flat] at hj⟩
 ·exact⟨some ⟨g,0,none⟩,cap,rfl,h.blk.cell 0,Or.inr ⟨g,0,rfl⟩,(Rw.of_own rfl h.row).1.at⟩
theorem LsOwn.kept{w w':World}{p base:Nat}{v:Value}{ls:List El}(h:LsOwn w p base v ls)(hb:Below w.heap.size w w'):LsOwn w' p base v ls:=
 ⟨h.blk.kept hb h.blk.lt,h.row.kept (row:=none) ⟨hb.os,hb.tape,hb.output,hb.size,fun k hk _=>hb.block k hk⟩ (by cases v.ownBlock<;>simp),h.le⟩
theorem zcp{w:World}{base:Nat}{e:TypeId}{s n:Nat}{v:Value}{xs:List Value}(h:w.ownsRow base e s v n xs):∃a m c,v= .slice a m c:=by
 rcases h.2 with⟨rfl,_⟩ | ⟨g,cap,cur,rfl,_⟩
 ·exact⟨_,_,_,rfl⟩
 ·exact⟨_,_,_,rfl⟩
def CopyOk(w:World)(ls:List El)(e:Ending)(w':World):Prop:=(∃q v,e= .returned (.iface 190 (.pointer (some ⟨q,0,none⟩)))∧LsOwn w' q w.heap.size v ls)∧Below w.heap.size w w'
theorem zob{w w1:World}{v:Value}{ls:List El}(hb:Below w.heap.size w w1)(ho:w1.ownsRow w.heap.size 373 6 v ls.length (flat El.cells ls)):LsOwn (w1.alloc (.cells #[v] 193)) w1.heap.size w.heap.size v ls∧Below w.heap.size w (w1.alloc (.cells #[v] 193)):=
 ⟨⟨heap_alloc_new w1 _,ho.alloc _,hb.size⟩,hb.alloc hb.size _⟩
theorem zty(p base:Nat)(v:Value)(ls:List El)(w:World)(h:LsOwn w p base v ls)(hl:ls.length<=1048576):
  Calls Tryz.prog 308 #[.pointer (some ⟨p,0,none⟩)] w fun e w'=>CopyOk w ls e w':=by
 obtain⟨a,c,rfl,hcell,hpl,hat⟩:=h.form
 have HA:Hid (At w a (flat El.cells ls)):=hat
 clear h hat
 rcases hpl with rfl | ⟨g,q,rfl⟩
 ·have HO:Hid (w.ownsRow w.heap.size 373 6 (.slice none 0 0) ls.length (flat El.cells ls)):=by
   have hn:(flat El.cells ls).length=0:=by
    cases hq:flat El.cells ls with
    | nil=>rfl
    | cons x l=>
     obtain⟨_,_,e,_⟩:=HA.out 0 x (by rw [hq];rfl)
     cases e
   obtain rfl:ls= []:=by
    rw [zaq El.cells 6 zaj] at hn
    exact List.eq_nil_of_length_eq_zero (by omega)
   exact⟨rfl, .inl ⟨rfl,rfl⟩⟩
  go_enter Tryz.func308,Tryz.ntmps308
  go_wp2_with fail
  refine(zlc _ c w).mono ?_
  rintro e w1 ⟨rfl,hw1⟩
  rw [hw1]
  clear hw1 w1
  have HE:=zob (Below.refl _ _) HO.out
  have HE1:Hid (LsOwn (w.alloc (.cells #[.slice none 0 0] 193)) w.heap.size w.heap.size (.slice none 0 0) ls∧Below w.heap.size w (w.alloc (.cells #[.slice none 0 0] 193))):=HE
  clear HE
  go_wp2
  go_ret
  exact⟨⟨_,_,rfl,HE1.out.1⟩,HE1.out.2⟩
 ·go_enter Tryz.func308,Tryz.ntmps308
  go_wp2_with fail
  refine(zjf g q c ls w HA.out hl).mono ?_
  rintro e w1 ⟨v1,rfl,hown,hb1⟩
  obtain⟨a1,m1,c1,rfl⟩:=zcp hown
  have HE1:Hid (LsOwn (w1.alloc (.cells #[.slice a1 m1 c1] 193)) w1.heap.size w.heap.size (.slice a1 m1 c1) ls∧Below w.heap.size w (w1.alloc (.cells #[.slice a1 m1 c1] 193))):=zob hb1 hown
  clear hown hb1
  go_wp2
  go_ret
  exact⟨⟨_,_,rfl,HE1.out.1⟩,HE1.out.2⟩
end Go.Proofs.YtfmcngncaffloaaGreatDoor
namespace Go.Proofs.YtfmcngncaffloaaGreatDoor
open Go.RowKit
set_option maxRecDepth 100000
theorem zed{w:World}{base:Nat}{e:TypeId}{s n g cap:Nat}{xs:List Value}(h:w.ownsRow base e s (.slice (some ⟨g,0,none⟩) n cap) n xs)(j:Nat)(u:Value):
  (w.setCell ⟨g,j,none⟩ u).ownsRow base e s (.slice (some ⟨g,0,none⟩) n cap) n (xs.set j u):=by
 rcases h.2 with⟨e1,_⟩ | ⟨g',cap',cur,e1,hb,hc,h3,h4,h5,h6⟩
 ·cases e1
 ·cases e1
  have hB:Blk w g cur e:=hc
  refine⟨by rw [List.length_set];exact h.1, .inr ⟨g,cap,cur.setIfInBounds j u,rfl,hb,hB.set j u,h3,h4,by simpa using h5, ?_⟩⟩
  rw [←h6,Array.toList_setIfInBounds,List.take_set]
def markE(d:Wv.Dt)(e:El):El:=if dotIs d e then {e with x:=true} else e
def zbs(d:Wv.Dt)(ls:List El)(k:Nat):List El:=(ls.take k).map (markE d)++ls.drop k
theorem ziw(d:Wv.Dt)(ls:List El)(k:Nat):(zbs d ls k).length=ls.length:=by
 unfold zbs
 rw [List.length_append,List.length_map,List.length_take,List.length_drop]
 omega
theorem ztr(d:Wv.Dt)(ls:List El)(k:Nat)(hk:k<ls.length):(zbs d ls k)[k]?=some ls[k]:=by
 unfold zbs
 have hl:((ls.take k).map (markE d)).length=k:=by rw [List.length_map,List.length_take];omega
 rw [List.getElem?_append_right (by omega),hl,Nat.sub_self,List.getElem?_drop,Nat.add_zero,List.getElem?_eq_getElem hk]
theorem znc(d:Wv.Dt)(ls:List El)(k:Nat)(hk:k<ls.length):zbs d ls (k+1)=(zbs d ls k).set k (markE d ls[k]):=by
 have hl:((ls.take k).map (markE d)).length=k:=by rw [List.length_map,List.length_take];omega
 unfold zbs
 rw [ze6 ls k hk,List.map_append,List.set_append_right _ _ (by omega),hl,Nat.sub_self,List.drop_eq_getElem_cons hk,List.append_assoc]
 rfl
theorem zpu(d:Wv.Dt)(ls:List El):zbs d ls ls.length=ls.map (markE d):=by
 unfold zbs
 rw [List.take_length,List.drop_length,List.append_nil]
theorem zvm(ls:List El)(k:Nat)(e:El)(h:ls[k]?=some e):ls.set k e=ls:=by
 apply List.ext_getElem?
 intro j
 by_cases hj:k=j
 ·subst hj
  rw [List.getElem?_set_self (List.getElem?_eq_some_iff.1 h).1,h]
 ·rw [List.getElem?_set_ne hj]
theorem zuj(cs:List El)(k:Nat)(e:El)(h:cs[k]?=some e):flat El.cells (cs.set k {e with x:=true})=(flat El.cells cs).set (k*6+5) (.bool true):=by
 have hk:=(List.getElem?_eq_some_iff.1 h).1
 have he:cs[k]=e:=(List.getElem?_eq_some_iff.1 h).2
 have hl:(flat El.cells cs).length=cs.length*6:=zaq El.cells 6 zaj cs
 apply List.ext_getElem?
 intro j
 rcases Nat.lt_or_ge j (cs.length*6) with hj | hj
 ·rw [zgk El.cells 6 zaj cs k _ j hj]
  by_cases hc:k*6<=j∧j<k*6+6
  ·rw [if_pos hc]
   by_cases h5:j=k*6+5
   ·subst h5
    rw [List.getElem?_set_self (by omega)]
    simp [El.cells]
   ·rw [List.getElem?_set_ne (by omega)]
    have:=zak El.cells 6 zaj cs k hk (j - k*6) (by omega)
    rw [show k*6+(j - k*6)=j by omega] at this
    rw [this,he]
    have hr:j - k*6=0∨j - k*6=1∨j - k*6=2∨j - k*6=3∨j - k*6=4:=by omega
    rcases hr with r | r | r | r | r<;>rw [r]<;>rfl
  ·rw [if_neg hc,List.getElem?_set_ne (by omega)]
 ·rw [List.getElem?_eq_none (by rw [zaq El.cells 6 zaj,List.length_set];omega),List.getElem?_eq_none (by rw [List.length_set];omega)]
end Go.Proofs.YtfmcngncaffloaaGreatDoor
namespace Go.Proofs.YtfmcngncaffloaaGreatDoor
open Go.RowKit
set_option maxRecDepth 100000
theorem LsOwn.ne{w:World}{p base g n cap:Nat}{ls:List El}(h:LsOwn w p base (.slice (some ⟨g,0,none⟩) n cap) ls):p ≠ g:=by
 rintro rfl
 rcases h.row.2 with⟨e1,_⟩ | ⟨g',cap',cur,e1,hb,hc,_⟩
 ·cases e1
 ·cases e1
  have:=h.blk.symm.trans hc
  simp at this
theorem LsOwn.mark{w:World}{p base g n cap:Nat}{ls:List El}(h:LsOwn w p base (.slice (some ⟨g,0,none⟩) n cap) ls)(hn:n=ls.length)(k:Nat)(e:El)(hk:ls[k]?=some e):
  LsOwn (w.setCell ⟨g,k*6+5,none⟩ (.bool true)) p base (.slice (some ⟨g,0,none⟩) n cap) (ls.set k {e with x:=true}):=by
 subst hn
 refine⟨h.blk.other h.ne _, ?_,h.le⟩
 rw [List.length_set,zuj ls k e hk]
 exact zed h.row _ _
theorem zk3{w w':World}{g j:Nat}(h:w.grownBy w' (some g))(u:Value):w.grownBy (w'.setCell ⟨g,j,none⟩ u) (some g):=
 ⟨h.os,h.tape,h.output,by simpa using h.size,fun k hk hne=>by rw [heap_setCell_other _ ⟨g,j,none⟩ k _ (fun e=>hne (by rw [e])),h.block k hk hne]⟩
def zmb(w:World)(p base:Nat)(v:Value)(ls:List El)(e:Ending)(w':World):Prop:=e= .returned (.tuple #[])∧LsOwn w' p base v ls∧w.grownBy w' v.ownBlock
attribute [local go_sem ↓] za9 zbo
theorem zng(p base g c:Nat)(d:Wv.Dt)(ls:List El)(w:World)(h:LsOwn w p base (.slice (some ⟨g,0,none⟩) ls.length c) ls)(hl:ls.length<=1048576):
  Calls Tryz.prog 316 #[.pointer (some ⟨p,0,none⟩),dotV d] w fun e w'=>zmb w p base (.slice (some ⟨g,0,none⟩) ls.length c) (ls.map (markE d)) e w':=by
 have HL:Hid (LsOwn (w.alloc (.cells #[I d.o,I d.s,I d.i] 146)) p base (.slice (some ⟨g,0,none⟩) ls.length c) ls):=h.kept ((Below.refl _ _).alloc (Nat.le_refl _) _)
 have HK:Hid (Blk (w.alloc (.cells #[I d.o,I d.s,I d.i] 146)) w.heap.size #[I d.o,I d.s,I d.i] 146):=heap_alloc_new w _
 have HG:Hid (w.grownBy (w.alloc (.cells #[I d.o,I d.s,I d.i] 146)) (some g)):=World.grownBy_alloc w _ _
 have hgw:g<w.heap.size:=(h.row.lt g rfl).2
 have c0:(w.alloc (.cells #[I d.o,I d.s,I d.i] 146)).cell? ⟨p,0,none⟩=some (.slice (some ⟨g,0,none⟩) ls.length c):=HL.out.blk.cell 0
 clear h
 go_enter Tryz.func316,Tryz.ntmps316
 go_wp2_with fail
 generalize w.alloc (.cells #[I d.o,I d.s,I d.i] 146)=wA at *
 clear c0
 go_loopw [10] (fun x wr=>∃k:Nat,k<=ls.length∧x=I k∧Hid (LsOwn wr p base (.slice (some ⟨g,0,none⟩) ls.length c) (zbs d ls k))∧Hid (Blk wr w.heap.size #[I d.o,I d.s,I d.i] 146)∧Hid (w.grownBy wr (some g))) (fun x _=>ls.length - (intOf x).toNat)
 case atStart=>exact⟨0,Nat.zero_le _,rfl,HL,HK,HG⟩
 case round=>
  obtain⟨k,hk,rfl,HL2,HK2,HG2⟩:=hrel
  clear HL HK HG
  by_cases hlt:k<ls.length
  ·have hat:=ztr d ls k hlt
   have hlen:=ziw d ls k
   have HNX:Hid (zbs d ls (k+1)=(zbs d ls k).set k (markE d ls[k])):=znc d ls k hlt
   have HAT:Hid ((zbs d ls k)[k]?=some ls[k]):=hat
   have hrow:wr.ownsRow base 373 6 (.slice (some ⟨g,0,none⟩) ls.length c) ls.length (flat El.cells (zbs d ls k)):=by have:=HL2.out.row;rw [hlen] at this;exact this
   have HRW:Hid (Rw wr g (zbs d ls k)):=(Rw.of_own hlen.symm hrow).1
   obtain⟨e0,e1,e2,e3,e4,e5⟩:=HRW.out.els k (by rw [hlen];exact hlt)
   have hx:(zbs d ls k)[k]'(by rw [hlen];exact hlt)=ls[k]:=(List.getElem?_eq_some_iff.1 hat).2
   rw [hx] at e0 e1 e2 e3 e4 e5
   simp only [Nat.zero_add] at e0 e1 e2 e3 e4 e5
   have f5:=HRW.out.free (k*6+5)
   clear hx hat hlen hrow HRW
   generalize ls[k]=el at *
   have c0:wr.cell? ⟨p,0,none⟩=some (.slice (some ⟨g,0,none⟩) ls.length c):=HL2.out.blk.cell 0
   have d0:wr.cell? ⟨w.heap.size,0,none⟩=some (I d.o):=HK2.out.cell 0
   have d1:wr.cell? ⟨w.heap.size,1,none⟩=some (I d.s):=HK2.out.cell 1
   have d2:wr.cell? ⟨w.heap.size,2,none⟩=some (I d.i):=HK2.out.cell 2
   have hki:(k:Int)<ls.length:=by omega
   go_wp2_with fail
   go_quiet (fail)
   have hb2:Below wr.heap.size wr (wr.drewN nq):=zal (Below.refl _ _) nq
   have HL3:Hid (LsOwn (wr.drewN nq) p base (.slice (some ⟨g,0,none⟩) ls.length c) (zbs d ls k)):=HL2.out.kept hb2
   have HK3:Hid (Blk (wr.drewN nq) w.heap.size #[I d.o,I d.s,I d.i] 146):=HK2.out.kept hb2 HK2.out.lt
   have HG3:Hid (w.grownBy (wr.drewN nq) (some g)):=⟨HG2.out.os,HG2.out.tape,HG2.out.output,HG2.out.size,HG2.out.block⟩
   have c1:(wr.drewN nq).cell? ⟨p,0,none⟩=some (.slice (some ⟨g,0,none⟩) ls.length c):=HL3.out.blk.cell 0
   have e6:(wr.drewN nq).cell? ⟨g,k*6+5,none⟩=some (.bool el.x):=zaa hb2 e5
   have f6:(wr.drewN nq).frozen? ⟨g,k*6+5,none⟩=false:=f5
   clear HL2 HK2 HG2 c0 d0 d1 d2 e0 e1 e2 e3 e4 e5 f5 hb2
   generalize wr.drewN nq=w2 at *
   have HDI:Hid (dotIs d el=eq3 el.s.d.o el.s.d.s el.s.d.i d.o d.s d.i):=rfl
   generalize eq3 el.s.d.o el.s.d.s el.s.d.i d.o d.s d.i=bq at *
   cases bq
   ·have HM:Hid (zbs d ls (k+1)=zbs d ls k):=by
     show _=_
     rw [HNX.out]
     unfold markE
     rw [HDI.out]
     exact zvm _ _ _ HAT.out
    go_wp2_with fail
    go_roundw
    case rel=>exact⟨k+1,hlt,by go_num,by rw [HM.out];exact HL3,HK3,HG3⟩
    case measure=>simp [intOf];omega
   ·have LL:Hid (LsOwn (w2.setCell ⟨g,k*6+5,none⟩ (.bool true)) p base (.slice (some ⟨g,0,none⟩) ls.length c) (zbs d ls (k+1))):=by
     show LsOwn _ _ _ _ _
     rw [HNX.out]
     unfold markE
     rw [HDI.out]
     exact HL3.out.mark (ziw d ls k).symm k el HAT.out
    have LK:Hid (Blk (w2.setCell ⟨g,k*6+5,none⟩ (.bool true)) w.heap.size #[I d.o,I d.s,I d.i] 146):=HK3.out.other (by show w.heap.size ≠ g;omega) _
    have LG:Hid (w.grownBy (w2.setCell ⟨g,k*6+5,none⟩ (.bool true)) (some g)):=zk3 HG3.out _
    go_wp2_with fail
    go_roundw
    case rel=>exact⟨k+1,hlt,by go_num,LL,LK,LG⟩
    case measure=>simp [intOf];omega
  ·obtain rfl:k=ls.length:=by omega
   have HE:Hid (LsOwn wr p base (.slice (some ⟨g,0,none⟩) ls.length c) (ls.map (markE d))):=by show LsOwn _ _ _ _ _;rw [←zpu];exact HL2.out
   clear HL2 HK2
   go_wp2
   go_end0
   exact⟨rfl,HE.out,HG2.out⟩
end Go.Proofs.YtfmcngncaffloaaGreatDoor
namespace Go.Proofs.YtfmcngncaffloaaGreatDoor
open Go.RowKit
set_option maxRecDepth 100000
def InsOk(w:World)(base:Nat)(v:Value)(ls:List El)(e:Ending)(w':World):Prop:=∃v',e= .returned v'∧w'.ownsRow base 373 6 v' ls.length (flat El.cells ls)∧w.grownBy w' v.ownBlock∧(v'.ownBlock=v.ownBlock∨∃b,v'.ownBlock=some b∧w.heap.size<=b)
theorem zqo(l:List El)(x:El):flat El.cells (l++ [x])=flat El.cells l++x.cells:=by
 induction l with
 | nil=>simp [flat]
 | cons y l ih=>simp only [List.cons_append,flat,ih,List.append_assoc]
theorem zqg(base g c g2:Nat)(ls:List El)(e:El)(w:World)(hB:base<=w.heap.size)(h:w.ownsRow base 373 6 (.slice (some ⟨g,0,none⟩) ls.length c) ls.length (flat El.cells ls))(h2:Blk w g2 #[I e.s.d.o,I e.s.d.s,I e.s.d.i,I e.s.t,I e.v, .bool e.x] 373)(hl:ls.length<=1048576)(_hc:ls.length<=c):
  Calls Tryz.prog 320 #[.slice (some ⟨g,0,none⟩) ls.length c,I ls.length, .slice (some ⟨g2,0,none⟩) 1 1] w fun r w'=>InsOk w base (.slice (some ⟨g,0,none⟩) ls.length c) (ls++ [e]) r w':=by
 have HO:Hid (w.ownsRow base 373 6 (.slice (some ⟨g,0,none⟩) ls.length c) ls.length (flat El.cells ls)):=h
 have HC:Hid (∀j u,(e.cells)[j]?=some u->w.cell? ((⟨g2,0,none⟩:Addr).add j)=some u):=fun j u hj=>by
  rw [Addr.add_lit,Nat.zero_add,h2.cell]
  have:(e.cells).toArray= #[I e.s.d.o,I e.s.d.s,I e.s.d.i,I e.s.t,I e.v, .bool e.x]:=rfl
  rw [←this]
  simpa using hj
 have n1:ls.length+1<=maxLen:=by unfold maxLen;omega
 have n2:(ls.length+1)*48<=140737488355328:=by omega
 have n5:∀u∈e.cells,u.oneCell'=true:=by have:=zf7 [e];simpa [flat] using this
 obtain⟨i,HI⟩:∃i,Hid (Tryz.prog.info? 373=some i∧i.zero=some (.agg #[.int .i64 0, .int .i64 0, .int .i64 0, .int .i64 0, .int .i64 0, .bool false])∧i.size=6∧i.bytes=48):=by obtain⟨i,h⟩:=info_parts zg8;exact⟨i,h⟩
 clear h h2
 go_enter Tryz.func320,Tryz.ntmps320
 go_wp2_with (first | (at_builtin;refine wpList_append_own_at _ rfl _ _ _ rfl base 373 i (.agg #[.int .i64 0, .int .i64 0, .int .i64 0, .int .i64 0, .int .i64 0, .bool false]) 6 48 Tryz.underlying191 HI.out.1 HI.out.2.1 HI.out.2.2.1 HI.out.2.2.2 rfl (by decide) (.slice (some ⟨g,0,none⟩) ls.length c) ls.length (flat El.cells ls) rfl HO.out ⟨g2,0,none⟩ 1 1 e.cells rfl rfl HC.out n5 n1 n2 hB ?_;intro v1 w1 hown1 hgrow1 hnil1 hat1;have HE:Hid (w1.ownsRow base 373 6 v1 (ls.length+1) (flat El.cells ls++e.cells)):=hown1;have HG:Hid (w.grownBy w1 (Value.slice (some ⟨g,0,none⟩) ls.length c).ownBlock):=hgrow1;have HT:Hid (v1.ownBlock=(Value.slice (some ⟨g,0,none⟩) ls.length c).ownBlock∨v1.ownBlock=some w.heap.size):=hat1;clear hown1 hgrow1 hnil1 hat1))
 all_goals
  (go_ret
   refine⟨_,rfl, ?_,HG.out,HT.out.imp id (fun e=>⟨_,e,Nat.le_refl _⟩)⟩
   rw [List.length_append,zqo]
   exact HE.out)
theorem zqf(base g2:Nat)(e:El)(w:World)(hB:base<=w.heap.size)(h2:Blk w g2 #[I e.s.d.o,I e.s.d.s,I e.s.d.i,I e.s.t,I e.v, .bool e.x] 373):
  Calls Tryz.prog 320 #[.slice none 0 0,I 0, .slice (some ⟨g2,0,none⟩) 1 1] w fun r w'=>InsOk w base (.slice none 0 0) [e] r w':=by
 have HO:Hid (w.ownsRow base 373 6 (.slice none 0 0) 0 []):=⟨rfl, .inl ⟨rfl,rfl⟩⟩
 have HC:Hid (∀j u,(e.cells)[j]?=some u->w.cell? ((⟨g2,0,none⟩:Addr).add j)=some u):=fun j u hj=>by
  rw [Addr.add_lit,Nat.zero_add,h2.cell]
  have:(e.cells).toArray= #[I e.s.d.o,I e.s.d.s,I e.s.d.i,I e.s.t,I e.v, .bool e.x]:=rfl
  rw [←this]
  simpa using hj
 have n1:0+1<=maxLen:=by unfold maxLen;omega
 have n2:(0+1)*48<=140737488355328:=by omega
 have n5:∀u∈e.cells,u.oneCell'=true:=by have:=zf7 [e];simpa [flat] using this
 obtain⟨i,HI⟩:∃i,Hid (Tryz.prog.info? 373=some i∧i.zero=some (.agg #[.int .i64 0, .int .i64 0, .int .i64 0, .int .i64 0, .int .i64 0, .bool false])∧i.size=6∧i.bytes=48):=by obtain⟨i,h⟩:=info_parts zg8;exact⟨i,h⟩
 clear h2
 go_enter Tryz.func320,Tryz.ntmps320
 go_wp2_with (first | (at_builtin;refine wpList_append_own_at _ rfl _ _ _ rfl base 373 i (.agg #[.int .i64 0, .int .i64 0, .int .i64 0, .int .i64 0, .int .i64 0, .bool false]) 6 48 Tryz.underlying191 HI.out.1 HI.out.2.1 HI.out.2.2.1 HI.out.2.2.2 rfl (by decide) (.slice none 0 0) 0 [] rfl HO.out ⟨g2,0,none⟩ 1 1 e.cells rfl rfl HC.out n5 n1 n2 hB ?_;intro v1 w1 hown1 hgrow1 hnil1 hat1;have HE:Hid (w1.ownsRow base 373 6 v1 (0+1) ([]++e.cells)):=hown1;have HG:Hid (w.grownBy w1 (Value.slice none 0 0).ownBlock):=hgrow1;have HT:Hid (v1.ownBlock=(Value.slice none 0 0).ownBlock∨v1.ownBlock=some w.heap.size):=hat1;clear hown1 hgrow1 hnil1 hat1))
 all_goals
  (go_ret
   refine⟨_,rfl, ?_,HG.out,HT.out.imp id (fun e=>⟨_,e,Nat.le_refl _⟩)⟩
   have:=HE.out
   simpa [flat] using this)
end Go.Proofs.YtfmcngncaffloaaGreatDoor
