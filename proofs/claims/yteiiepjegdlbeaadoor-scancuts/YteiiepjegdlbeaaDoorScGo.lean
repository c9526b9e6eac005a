import Derived.Test.YteiiepjegdlbeaaDoorScScopeB
import Derived.Deep.RegionHeld
import Derived.Test.YteiiepjegdlbeaaDoorScEnd
import Derived.Test.YteiiepjegdlbeaaDoorScQuoted
set_option maxHeartbeats 16000000
set_option maxRecDepth 10000
namespace Go.Proofs.YteiiepjegdlbeaaDoor
open Go.RowKit Go.Lib
namespace Sc
section
variable {w:World} {D B n:Nat} {f:Nat -> Nat} {S:St} {R:Raw} {d:Nat}
theorem step7 {inn:Nat} {nm:List UInt8} {f:Nat -> Nat} {n:Nat} (k:Wk) (h:k.st=7) : step inn nm f n k=onNx (nx f n k.ps 6 [word.getD k.ct 0]) k fun _ s => if s.ct + 1 < 6 then { s with ct:=s.ct + 1 } else { s with ct:=0,st:=8 }:=by
 unfold step
 rw [h]
 rfl
theorem cdata_any (h:SC w D B f n S R) (hy:Rdy w B n f S R d) (ok:Ok S.nm S.fed S.k) (hst:S.k.st=7 \/ S.k.st=8) (hCR:CRs) :
 Calls Tryd.prog 34 #[.pointer (some ⟨D,0,none⟩)] w (Part w D B f n S R d):=by
 have c8:=h.c8
 have hst0:Went w D B f n S R d w S.k S.fed R:=by
  have e:Stt S S.fed S.k=S:=by
   have q1:=hy.q
   have q2:=hy.e
   unfold Stt
   cases S
   simp only at q1 q2
   subst q1 q2
   rfl
  exact ⟨by rw [e]; exact h,To.refl _ _ _,by rw [e]; exact hy,fun k => by have:=ok.how; omega,rfl⟩
 have HST:=hide' hst0
 have OK:=hide' ok
 have HCR:=hide' hCR
 clear h hy hst0 ok hCR
 obtain ⟨Jw,hJw⟩ : ∃ Jw:Nat -> World -> Prop,Jw=fun st w' => ∃ x k R',Went w D B f n S R d w' k x R' /\ Steps S.inn S.nm f n S.k (k.turn st) /\ Ok S.nm x (k.turn st) /\ S.k.ps <= k.ps:=⟨_,rfl⟩
 have HJ:=hide' hJw
 clear hJw
 go_enter Tryd.func34,Tryd.ntmps34
 go_wp2
 refine (fun p2 => (fun p1 => wp_scope2 1 0 (fun a w' => a.defers = [] /\ a.tmps.size=104 /\ a.tmps[0]? = some (.pointer (some ⟨D,0,none⟩)) /\ Jw 7 w' /\ w'.cell? ⟨D,8,none⟩ = some (.int .i64 ((7:Nat) : Int))) (fun a w' => a.defers = [] /\ a.tmps.size=104 /\ a.tmps[0]? = some (.pointer (some ⟨D,0,none⟩)) /\ Jw 8 w') (fun _ w' => n - psOf w' D) (fun _ w' => n - psOf w' D) (by decide) (by decide) rfl rfl ?_ p1 p2) ?_) ?_
 . clear p2
   rcases hst with e | e
   . have hj:Jw 7 w:=by
      rw [HJ.out]
      have e0:S.k.turn 7=S.k:=by unfold Wk.turn; rw [<- e]
      exact ⟨S.fed,S.k,R,HST.out,by rw [e0]; exact .refl _,by rw [e0]; exact OK.out,Nat.le_refl _⟩
     rw [e] at c8
     have HJJ:=hide' hj
     have HP1:=hide' p1
     have HC8:=hide' c8
     clear hj e p1
     go_wp2
     refine wp_label ?_
     rename_i hK
     refine hK _ _ ?_
     exact wp_mono (HP1.out _ _ ⟨rfl,rfl,rfl,HJJ.out,HC8.out⟩) (jumps2_mono (fun _ _ h => h.1) (fun _ _ h => h.1))
   . have hj:Jw 8 w:=by
      rw [HJ.out]
      have e0:S.k.turn 8=S.k:=by unfold Wk.turn; rw [<- e]
      exact ⟨S.fed,S.k,R,HST.out,by rw [e0]; exact .refl _,by rw [e0]; exact OK.out,Nat.le_refl _⟩
     rw [e] at c8
     have HJJ:=hide' hj
     clear hj e p1
     go_wp2
     go_step3
     exact .inr ⟨rfl,rfl,rfl,rfl,HJJ.out⟩
 . rintro ⟨tm,df⟩ W ⟨q1,q2,q3,hJ,h8⟩
   simp only at q1 q2 q3
   subst q1
   revert q3
   revert tm
   refine frame104 ?_
   intro v0 v1 v2 v3 v4 v5 v6 v7 v8 v9 v10 v11 v12 v13 v14 v15 v16 v17 v18 v19 v20 v21 v22 v23 v24 v25 v26 v27 v28 v29 v30 v31 v32 v33 v34 v35 v36 v37 v38 v39 v40 v41 v42 v43 v44 v45 v46 v47 v48 v49 v50 v51 v52 v53 v54 v55 v56 v57 v58 v59 v60 v61 v62 v63 v64 v65 v66 v67 v68 v69 v70 v71 v72 v73 v74 v75 v76 v77 v78 v79 v80 v81 v82 v83 v84 v85 v86 v87 v88 v89 v90 v91 v92 v93 v94 v95 v96 v97 v98 v99 v100 v101 v102 v103 q3
   have q4:v0 = .pointer (some ⟨D,0,none⟩):=by simpa using q3
   subst q4
   clear q3
   rw [HJ.out] at hJ
   obtain ⟨x,k,R1,hW,hSt,hOk,hps⟩:=hJ
   have HPSW:Hid (psOf W D=k.ps):=psOf_eq hW.sc.c16
   have e9:k.st=7:=by
    have h9:=hW.sc.c8
    rw [h8] at h9
    simp only [Option.some.injEq,Value.int.injEq,true_and] at h9
    have h10:((7:Nat) : Int)=(k.st:Int):=h9
    omega
   have e9':k.turn 7=k:=by unfold Wk.turn; rw [<- e9]
   have hW1:Went w D B f n S R d W (k.turn 7) x R1:=by rw [e9']; exact hW
   have hlt6:k.ct < 6:=hOk.opn rfl
   have hbig:=hW1.rdy.big
   have HP2:=hide' p2
   clear hW p2 e9 e9' h8
   have hc6:k.ct=0 \/ k.ct=1 \/ k.ct=2 \/ k.ct=3 \/ k.ct=4 \/ k.ct=5:=by omega
   rcases hc6 with hct | hct | hct | hct | hct | hct
   . have h20:=hW1.sc.c20
     rw [show (Stt S x (k.turn 7)).k.ct=0 from hct] at h20
     have d20:W.cell? ⟨D,20,none⟩ = some (.int .i64 0):=h20
     have xx:W.drew.cell? ⟨D,20,none⟩ = some (.int .i64 0):=d20
     have hWd:=hW1.put (k2:=k.turn 7) hW1.sc.drew ((To.refl _ _ _).drew) rfl hOk.how rfl rfl
     have cN:=next_any hWd.sc hWd.rdy hOk.how 6 [67] (fun _ => HCR.out _ _ (by simp) (pk_scal _ _ _))
     have hsg:sgn [67] = [67]:=rfl
     rw [hsg] at cN
     obtain ⟨v,hv⟩ : ∃ v,nx f n (k.turn 7).ps (6:Nat) [67]=v:=⟨_,rfl⟩
     have hst2:step S.inn S.nm f n (k.turn 7)=onNx v (k.turn 7) fun _ s => if s.ct + 1 < 6 then { s with ct:=s.ct + 1 } else { s with ct:=0,st:=8 }:=by
      rw [<- hv]
      refine (step7 (k.turn 7) rfl).trans ?_
      rw [show (k.turn 7).ct=0 from hct]
      rfl
     have hv':nx f n (Stt S x (k.turn 7)).k.ps ((6:Nat) : Int) [67]=v:=hv
     rw [hv'] at cN
     have HPOS:Hid (v.1=0 -> 0 < v.2.2):=fun e => by rw [<- hv] at e ⊢; exact nx_pos e
     have HW1:=hide' hWd
     have HSt:=hide' hSt
     have HOk:=hide' hOk
     have HST2:=hide' hst2
     clear hW1 hWd hSt hOk hv hv' hst2 hsg h20
     obtain ⟨v1',v2',v3'⟩:=v
     have hc0:v1'=0 \/ v1' ≠ 0:=by omega
     rcases hc0 with c0 | c0
     . subst c0
       have hpos:0 < v3':=HPOS.out rfl
       have cN2:Calls _ _ _ _ (fun e w' => e = .returned (.tuple #[.int .i32 (v2':Nat), .bool true]) /\ w'.cell? ⟨D,20,none⟩ = some (.int .i64 0) /\ ∃ x2 R2,Went W.drew D B f n (Stt S x (k.turn 7)) R1 d w' ((k.turn 7).took v3') x2 R2):=Calls.mono cN (fun e w' h => by
        obtain ⟨hE,x2,R2,hW2,hx2⟩:=h
        have hk1:nxK (0,v2',v3') (Stt S x (k.turn 7)).k=(k.turn 7).took v3':=by simp [nxK]; rfl
        rw [hk1] at hW2
        refine ⟨by unfold NxE at hE; rw [if_pos rfl] at hE; exact hE, ?_,x2,R2,hW2⟩
        have h20:=hW2.sc.c20
        rw [show (Stt (Stt S x (k.turn 7)) x2 ((k.turn 7).took v3')).k.ct=0 from hct] at h20
        exact h20)
       have CN:=hide' cN2
       clear cN cN2
       go_wp2_with fail
       go_region_held (fun w' => w'.cell? ⟨D,20,none⟩ = some (.int .i64 0)) (first | (with_reducible exact xx) | (with_reducible exact zz)) (first | (go_at_call 46; refine CN.out.mono ?_; rintro e W2 ⟨rfl,zz,hrest⟩))
       obtain ⟨x2,R2,hW2⟩:=hrest
       have hWW:=HW1.out.trans hW2
       have o2:k.text.length <= 4 * k.ps:=HOk.out.text
       have o3:k.tag.length <= 4 * k.ps:=HOk.out.tag
       have o4:k.attr.length <= 4 * k.ps:=HOk.out.attr
       have o5:k.val.length <= 4 * k.ps:=HOk.out.val
       have o6:k.ref.length <= k.ps:=HOk.out.ref
       have o7:k.ct <= k.ps:=HOk.out.ct
       have o8:k.attrs.length <= k.ps:=HOk.out.attrs
       have hstep2:=HST2.out
       simp only [onNx,if_true] at hstep2
       have hle:k.ps + v3' <= n:=Nat.le_trans hWW.rdy.qe hWW.rdy.fn
       have g20:=hWW.sc.fz 20
       have hWa:=hWW.put (k2 := { (k.turn 7).took v3' with ct:=1 }) (hWW.sc.put 20 (.int .i64 1) _ rfl ⟨rfl,rfl,rfl,rfl,rfl,rfl,rfl,rfl⟩) ((To.refl _ _ _).setCell 20 _ rfl) rfl HOk.out.how rfl rfl
       rw [if_pos (show ((k.turn 7).took v3').ct + 1 < 6 by show k.ct + 1 < 6; omega),show ((k.turn 7).took v3').ct + 1=1 by show k.ct + 1=1; omega] at hstep2
       have hc8:=hWa.sc.c8
       dsimp only [Stt,Wk.took,Wk.turn] at hc8
       have HC8:=hide' hc8
       clear hc8
       have hok:Ok S.nm x2 (({ (k.turn 7).took v3' with ct:=1 }).turn 7):=by
        refine ⟨HOk.out.how, ?_, ?_, ?_, ?_, ?_, ?_, ?_, ?_, ?_, ?_, ?_, ?_, ?_⟩
        all_goals (simp only [Wk.took,Wk.turn])
        all_goals omega
       have hj:Jw 7 (W2.setCell ⟨D,20,none⟩ (.int .i64 1)):=by
        rw [HJ.out]
        exact ⟨x2,_,R2,hWa,HSt.out.trans (.one HOk.out.how hstep2),hok,by show S.k.ps <= k.ps + v3'; omega⟩
       have hmu:n - psOf ((W2.setCell ⟨D,20,none⟩ (.int .i64 1))) D < n - psOf W D:=by
        rw [show psOf ((W2.setCell ⟨D,20,none⟩ (.int .i64 1))) D=k.ps + v3' from psOf_eq hWa.sc.c16,HPSW.out]
        omega
       have HJJ:=hide' hj
       have HMU:=hide' hmu
       clear hj hmu hok hstep2 hWW hWa hW2 xx
       go_wp2_with fail
       go_step3
       exact .inl ⟨rfl,⟨rfl,rfl,rfl,HJJ.out,HC8.out⟩,HMU.out⟩
     . have cN2:Calls _ _ _ _ (fun e w' => e = .returned (.tuple #[.int .i32 0, .bool false]) /\ w'.cell? ⟨D,20,none⟩ = some (.int .i64 0) /\ ∃ x2 R2,Went W.drew D B f n (Stt S x (k.turn 7)) R1 d w' (nxK (v1',v2',v3') (k.turn 7)) x2 R2):=Calls.mono cN (fun e w' h => by
        obtain ⟨hE,x2,R2,hW2,hx2⟩:=h
        refine ⟨by unfold NxE at hE; rw [if_neg c0] at hE; exact hE, ?_,x2,R2,hW2⟩
        have h20:=hW2.sc.c20
        rw [show (Stt (Stt S x (k.turn 7)) x2 (nxK (v1',v2',v3') (Stt S x (k.turn 7)).k)).k.ct=0 by show (nxK (v1',v2',v3') (k.turn 7)).ct=0; unfold nxK; rw [if_neg c0]; split <;> exact hct] at h20
        exact h20)
       have CN:=hide' cN2
       clear cN cN2
       go_wp2_with fail
       go_region_held (fun w' => w'.cell? ⟨D,20,none⟩ = some (.int .i64 0)) (first | (with_reducible exact xx) | (with_reducible exact zz)) (first | (go_at_call 46; refine CN.out.mono ?_; rintro e W2 ⟨rfl,zz,hrest⟩))
       obtain ⟨x2,R2,hW2⟩:=hrest
       have hWW:=HW1.out.trans hW2
       have hfin:Part w D B f n S R d (.returned (.bool false)) W2:=by
        by_cases c2:v1'=2
        . subst c2
          refine ⟨false,x2,_,R2,rfl,hWW,HSt.out.trans (.one HOk.out.how (by rw [HST2.out]; simp [onNx]; rfl)), ?_⟩
          rw [if_neg (by decide)]
          left
          simp [nxK,Wk.fails]
        . refine ⟨false,x2,_,R2,rfl,hWW, ?_, ?_⟩
          . simp only [nxK,if_neg c0,if_neg c2]
            exact HSt.out
          . rw [if_neg (by decide)]
            right
            simp only [nxK,if_neg c0,if_neg c2]
            show step S.inn S.nm f n (k.turn 7)=none
            rw [HST2.out]
            simp [onNx,c0,c2]
       have HFIN:=hide' hfin
       clear hfin hWW hW2 xx
       go_wp2_with fail
       simp only [jumps2]
       exact bodyPost_ret (v := .bool false) (by simp [results,Tryd.results34,go_sem]) rfl HFIN.out
   . have h20:=hW1.sc.c20
     rw [show (Stt S x (k.turn 7)).k.ct=1 from hct] at h20
     have d20:W.cell? ⟨D,20,none⟩ = some (.int .i64 1):=h20
     have xx:W.drew.cell? ⟨D,20,none⟩ = some (.int .i64 1):=d20
     have hWd:=hW1.put (k2:=k.turn 7) hW1.sc.drew ((To.refl _ _ _).drew) rfl hOk.how rfl rfl
     have cN:=next_any hWd.sc hWd.rdy hOk.how 6 [68] (fun _ => HCR.out _ _ (by simp) (pk_scal _ _ _))
     have hsg:sgn [68] = [68]:=rfl
     rw [hsg] at cN
     obtain ⟨v,hv⟩ : ∃ v,nx f n (k.turn 7).ps (6:Nat) [68]=v:=⟨_,rfl⟩
     have hst2:step S.inn S.nm f n (k.turn 7)=onNx v (k.turn 7) fun _ s => if s.ct + 1 < 6 then { s with ct:=s.ct + 1 } else { s with ct:=0,st:=8 }:=by
      rw [<- hv]
      refine (step7 (k.turn 7) rfl).trans ?_
      rw [show (k.turn 7).ct=1 from hct]
      rfl
     have hv':nx f n (Stt S x (k.turn 7)).k.ps ((6:Nat) : Int) [68]=v:=hv
     rw [hv'] at cN
     have HPOS:Hid (v.1=0 -> 0 < v.2.2):=fun e => by rw [<- hv] at e ⊢; exact nx_pos e
     have HW1:=hide' hWd
     have HSt:=hide' hSt
     have HOk:=hide' hOk
     have HST2:=hide' hst2
     clear hW1 hWd hSt hOk hv hv' hst2 hsg h20
     obtain ⟨v1',v2',v3'⟩:=v
     have hc0:v1'=0 \/ v1' ≠ 0:=by omega
     rcases hc0 with c0 | c0
     . subst c0
       have hpos:0 < v3':=HPOS.out rfl
       have cN2:Calls _ _ _ _ (fun e w' => e = .returned (.tuple #[.int .i32 (v2':Nat), .bool true]) /\ w'.cell? ⟨D,20,none⟩ = some (.int .i64 1) /\ ∃ x2 R2,Went W.drew D B f n (Stt S x (k.turn 7)) R1 d w' ((k.turn 7).took v3') x2 R2):=Calls.mono cN (fun e w' h => by
        obtain ⟨hE,x2,R2,hW2,hx2⟩:=h
        have hk1:nxK (0,v2',v3') (Stt S x (k.turn 7)).k=(k.turn 7).took v3':=by simp [nxK]; rfl
        rw [hk1] at hW2
        refine ⟨by unfold NxE at hE; rw [if_pos rfl] at hE; exact hE, ?_,x2,R2,hW2⟩
        have h20:=hW2.sc.c20
        rw [show (Stt (Stt S x (k.turn 7)) x2 ((k.turn 7).took v3')).k.ct=1 from hct] at h20
        exact h20)
       have CN:=hide' cN2
       clear cN cN2
       go_wp2_with fail
       go_region_held (fun w' => w'.cell? ⟨D,20,none⟩ = some (.int .i64 1)) (first | (with_reducible exact xx) | (with_reducible exact zz)) (first | (go_at_call 46; refine CN.out.mono ?_; rintro e W2 ⟨rfl,zz,hrest⟩))
       obtain ⟨x2,R2,hW2⟩:=hrest
       have hWW:=HW1.out.trans hW2
       have o2:k.text.length <= 4 * k.ps:=HOk.out.text
       have o3:k.tag.length <= 4 * k.ps:=HOk.out.tag
       have o4:k.attr.length <= 4 * k.ps:=HOk.out.attr
       have o5:k.val.length <= 4 * k.ps:=HOk.out.val
       have o6:k.ref.length <= k.ps:=HOk.out.ref
       have o7:k.ct <= k.ps:=HOk.out.ct
       have o8:k.attrs.length <= k.ps:=HOk.out.attrs
       have hstep2:=HST2.out
       simp only [onNx,if_true] at hstep2
       have hle:k.ps + v3' <= n:=Nat.le_trans hWW.rdy.qe hWW.rdy.fn
       have g20:=hWW.sc.fz 20
       have hWa:=hWW.put (k2 := { (k.turn 7).took v3' with ct:=2 }) (hWW.sc.put 20 (.int .i64 2) _ rfl ⟨rfl,rfl,rfl,rfl,rfl,rfl,rfl,rfl⟩) ((To.refl _ _ _).setCell 20 _ rfl) rfl HOk.out.how rfl rfl
       rw [if_pos (show ((k.turn 7).took v3').ct + 1 < 6 by show k.ct + 1 < 6; omega),show ((k.turn 7).took v3').ct + 1=2 by show k.ct + 1=2; omega] at hstep2
       have hc8:=hWa.sc.c8
       dsimp only [Stt,Wk.took,Wk.turn] at hc8
       have HC8:=hide' hc8
       clear hc8
       have hok:Ok S.nm x2 (({ (k.turn 7).took v3' with ct:=2 }).turn 7):=by
        refine ⟨HOk.out.how, ?_, ?_, ?_, ?_, ?_, ?_, ?_, ?_, ?_, ?_, ?_, ?_, ?_⟩
        all_goals (simp only [Wk.took,Wk.turn])
        all_goals omega
       have hj:Jw 7 (W2.setCell ⟨D,20,none⟩ (.int .i64 2)):=by
        rw [HJ.out]
        exact ⟨x2,_,R2,hWa,HSt.out.trans (.one HOk.out.how hstep2),hok,by show S.k.ps <= k.ps + v3'; omega⟩
       have hmu:n - psOf ((W2.setCell ⟨D,20,none⟩ (.int .i64 2))) D < n - psOf W D:=by
        rw [show psOf ((W2.setCell ⟨D,20,none⟩ (.int .i64 2))) D=k.ps + v3' from psOf_eq hWa.sc.c16,HPSW.out]
        omega
       have HJJ:=hide' hj
       have HMU:=hide' hmu
       clear hj hmu hok hstep2 hWW hWa hW2 xx
       go_wp2_with fail
       go_step3
       exact .inl ⟨rfl,⟨rfl,rfl,rfl,HJJ.out,HC8.out⟩,HMU.out⟩
     . have cN2:Calls _ _ _ _ (fun e w' => e = .returned (.tuple #[.int .i32 0, .bool false]) /\ w'.cell? ⟨D,20,none⟩ = some (.int .i64 1) /\ ∃ x2 R2,Went W.drew D B f n (Stt S x (k.turn 7)) R1 d w' (nxK (v1',v2',v3') (k.turn 7)) x2 R2):=Calls.mono cN (fun e w' h => by
        obtain ⟨hE,x2,R2,hW2,hx2⟩:=h
        refine ⟨by unfold NxE at hE; rw [if_neg c0] at hE; exact hE, ?_,x2,R2,hW2⟩
        have h20:=hW2.sc.c20
        rw [show (Stt (Stt S x (k.turn 7)) x2 (nxK (v1',v2',v3') (Stt S x (k.turn 7)).k)).k.ct=1 by show (nxK (v1',v2',v3') (k.turn 7)).ct=1; unfold nxK; rw [if_neg c0]; split <;> exact hct] at h20
        exact h20)
       have CN:=hide' cN2
       clear cN cN2
       go_wp2_with fail
       go_region_held (fun w' => w'.cell? ⟨D,20,none⟩ = some (.int .i64 1)) (first | (with_reducible exact xx) | (with_reducible exact zz)) (first | (go_at_call 46; refine CN.out.mono ?_; rintro e W2 ⟨rfl,zz,hrest⟩))
       obtain ⟨x2,R2,hW2⟩:=hrest
       have hWW:=HW1.out.trans hW2
       have hfin:Part w D B f n S R d (.returned (.bool false)) W2:=by
        by_cases c2:v1'=2
        . subst c2
          refine ⟨false,x2,_,R2,rfl,hWW,HSt.out.trans (.one HOk.out.how (by rw [HST2.out]; simp [onNx]; rfl)), ?_⟩
          rw [if_neg (by decide)]
          left
          simp [nxK,Wk.fails]
        . refine ⟨false,x2,_,R2,rfl,hWW, ?_, ?_⟩
          . simp only [nxK,if_neg c0,if_neg c2]
            exact HSt.out
          . rw [if_neg (by decide)]
            right
            simp only [nxK,if_neg c0,if_neg c2]
            show step S.inn S.nm f n (k.turn 7)=none
            rw [HST2.out]
            simp [onNx,c0,c2]
       have HFIN:=hide' hfin
       clear hfin hWW hW2 xx
       go_wp2_with fail
       simp only [jumps2]
       exact bodyPost_ret (v := .bool false) (by simp [results,Tryd.results34,go_sem]) rfl HFIN.out
   . have h20:=hW1.sc.c20
     rw [show (Stt S x (k.turn 7)).k.ct=2 from hct] at h20
     have d20:W.cell? ⟨D,20,none⟩ = some (.int .i64 2):=h20
     have xx:W.drew.cell? ⟨D,20,none⟩ = some (.int .i64 2):=d20
     have hWd:=hW1.put (k2:=k.turn 7) hW1.sc.drew ((To.refl _ _ _).drew) rfl hOk.how rfl rfl
     have cN:=next_any hWd.sc hWd.rdy hOk.how 6 [65] (fun _ => HCR.out _ _ (by simp) (pk_scal _ _ _))
     have hsg:sgn [65] = [65]:=rfl
     rw [hsg] at cN
     obtain ⟨v,hv⟩ : ∃ v,nx f n (k.turn 7).ps (6:Nat) [65]=v:=⟨_,rfl⟩
     have hst2:step S.inn S.nm f n (k.turn 7)=onNx v (k.turn 7) fun _ s => if s.ct + 1 < 6 then { s with ct:=s.ct + 1 } else { s with ct:=0,st:=8 }:=by
      rw [<- hv]
      refine (step7 (k.turn 7) rfl).trans ?_
      rw [show (k.turn 7).ct=2 from hct]
      rfl
     have hv':nx f n (Stt S x (k.turn 7)).k.ps ((6:Nat) : Int) [65]=v:=hv
     rw [hv'] at cN
     have HPOS:Hid (v.1=0 -> 0 < v.2.2):=fun e => by rw [<- hv] at e ⊢; exact nx_pos e
     have HW1:=hide' hWd
     have HSt:=hide' hSt
     have HOk:=hide' hOk
     have HST2:=hide' hst2
     clear hW1 hWd hSt hOk hv hv' hst2 hsg h20
     obtain ⟨v1',v2',v3'⟩:=v
     have hc0:v1'=0 \/ v1' ≠ 0:=by omega
     rcases hc0 with c0 | c0
     . subst c0
       have hpos:0 < v3':=HPOS.out rfl
       have cN2:Calls _ _ _ _ (fun e w' => e = .returned (.tuple #[.int .i32 (v2':Nat), .bool true]) /\ w'.cell? ⟨D,20,none⟩ = some (.int .i64 2) /\ ∃ x2 R2,Went W.drew D B f n (Stt S x (k.turn 7)) R1 d w' ((k.turn 7).took v3') x2 R2):=Calls.mono cN (fun e w' h => by
        obtain ⟨hE,x2,R2,hW2,hx2⟩:=h
        have hk1:nxK (0,v2',v3') (Stt S x (k.turn 7)).k=(k.turn 7).took v3':=by simp [nxK]; rfl
        rw [hk1] at hW2
        refine ⟨by unfold NxE at hE; rw [if_pos rfl] at hE; exact hE, ?_,x2,R2,hW2⟩
        have h20:=hW2.sc.c20
        rw [show (Stt (Stt S x (k.turn 7)) x2 ((k.turn 7).took v3')).k.ct=2 from hct] at h20
        exact h20)
       have CN:=hide' cN2
       clear cN cN2
       go_wp2_with fail
       go_region_held (fun w' => w'.cell? ⟨D,20,none⟩ = some (.int .i64 2)) (first | (with_reducible exact xx) | (with_reducible exact zz)) (first | (go_at_call 46; refine CN.out.mono ?_; rintro e W2 ⟨rfl,zz,hrest⟩))
       obtain ⟨x2,R2,hW2⟩:=hrest
       have hWW:=HW1.out.trans hW2
       have o2:k.text.length <= 4 * k.ps:=HOk.out.text
       have o3:k.tag.length <= 4 * k.ps:=HOk.out.tag
       have o4:k.attr.length <= 4 * k.ps:=HOk.out.attr
       have o5:k.val.length <= 4 * k.ps:=HOk.out.val
       have o6:k.ref.length <= k.ps:=HOk.out.ref
       have o7:k.ct <= k.ps:=HOk.out.ct
       have o8:k.attrs.length <= k.ps:=HOk.out.attrs
       have hstep2:=HST2.out
       simp only [onNx,if_true] at hstep2
       have hle:k.ps + v3' <= n:=Nat.le_trans hWW.rdy.qe hWW.rdy.fn
       have g20:=hWW.sc.fz 20
       have hWa:=hWW.put (k2 := { (k.turn 7).took v3' with ct:=3 }) (hWW.sc.put 20 (.int .i64 3) _ rfl ⟨rfl,rfl,rfl,rfl,rfl,rfl,rfl,rfl⟩) ((To.refl _ _ _).setCell 20 _ rfl) rfl HOk.out.how rfl rfl
       rw [if_pos (show ((k.turn 7).took v3').ct + 1 < 6 by show k.ct + 1 < 6; omega),show ((k.turn 7).took v3').ct + 1=3 by show k.ct + 1=3; omega] at hstep2
       have hc8:=hWa.sc.c8
       dsimp only [Stt,Wk.took,Wk.turn] at hc8
       have HC8:=hide' hc8
       clear hc8
       have hok:Ok S.nm x2 (({ (k.turn 7).took v3' with ct:=3 }).turn 7):=by
        refine ⟨HOk.out.how, ?_, ?_, ?_, ?_, ?_, ?_, ?_, ?_, ?_, ?_, ?_, ?_, ?_⟩
        all_goals (simp only [Wk.took,Wk.turn])
        all_goals omega
       have hj:Jw 7 (W2.setCell ⟨D,20,none⟩ (.int .i64 3)):=by
        rw [HJ.out]
        exact ⟨x2,_,R2,hWa,HSt.out.trans (.one HOk.out.how hstep2),hok,by show S.k.ps <= k.ps + v3'; omega⟩
       have hmu:n - psOf ((W2.setCell ⟨D,20,none⟩ (.int .i64 3))) D < n - psOf W D:=by
        rw [show psOf ((W2.setCell ⟨D,20,none⟩ (.int .i64 3))) D=k.ps + v3' from psOf_eq hWa.sc.c16,HPSW.out]
        omega
       have HJJ:=hide' hj
       have HMU:=hide' hmu
       clear hj hmu hok hstep2 hWW hWa hW2 xx
       go_wp2_with fail
       go_step3
       exact .inl ⟨rfl,⟨rfl,rfl,rfl,HJJ.out,HC8.out⟩,HMU.out⟩
     . have cN2:Calls _ _ _ _ (fun e w' => e = .returned (.tuple #[.int .i32 0, .bool false]) /\ w'.cell? ⟨D,20,none⟩ = some (.int .i64 2) /\ ∃ x2 R2,Went W.drew D B f n (Stt S x (k.turn 7)) R1 d w' (nxK (v1',v2',v3') (k.turn 7)) x2 R2):=Calls.mono cN (fun e w' h => by
        obtain ⟨hE,x2,R2,hW2,hx2⟩:=h
        refine ⟨by unfold NxE at hE; rw [if_neg c0] at hE; exact hE, ?_,x2,R2,hW2⟩
        have h20:=hW2.sc.c20
        rw [show (Stt (Stt S x (k.turn 7)) x2 (nxK (v1',v2',v3') (Stt S x (k.turn 7)).k)).k.ct=2 by show (nxK (v1',v2',v3') (k.turn 7)).ct=2; unfold nxK; rw [if_neg c0]; split <;> exact hct] at h20
        exact h20)
       have CN:=hide' cN2
       clear cN cN2
       go_wp2_with fail
       go_region_held (fun w' => w'.cell? ⟨D,20,none⟩ = some (.int .i64 2)) (first | (with_reducible exact xx) | (with_reducible exact zz)) (first | (go_at_call 46; refine CN.out.mono ?_; rintro e W2 ⟨rfl,zz,hrest⟩))
       obtain ⟨x2,R2,hW2⟩:=hrest
       have hWW:=HW1.out.trans hW2
       have hfin:Part w D B f n S R d (.returned (.bool false)) W2:=by
        by_cases c2:v1'=2
        . subst c2
          refine ⟨false,x2,_,R2,rfl,hWW,HSt.out.trans (.one HOk.out.how (by rw [HST2.out]; simp [onNx]; rfl)), ?_⟩
          rw [if_neg (by decide)]
          left
          simp [nxK,Wk.fails]
        . refine ⟨false,x2,_,R2,rfl,hWW, ?_, ?_⟩
          . simp only [nxK,if_neg c0,if_neg c2]
            exact HSt.out
          . rw [if_neg (by decide)]
            right
            simp only [nxK,if_neg c0,if_neg c2]
            show step S.inn S.nm f n (k.turn 7)=none
            rw [HST2.out]
            simp [onNx,c0,c2]
       have HFIN:=hide' hfin
       clear hfin hWW hW2 xx
       go_wp2_with fail
       simp only [jumps2]
       exact bodyPost_ret (v := .bool false) (by simp [results,Tryd.results34,go_sem]) rfl HFIN.out
   . have h20:=hW1.sc.c20
     rw [show (Stt S x (k.turn 7)).k.ct=3 from hct] at h20
     have d20:W.cell? ⟨D,20,none⟩ = some (.int .i64 3):=h20
     have xx:W.drew.cell? ⟨D,20,none⟩ = some (.int .i64 3):=d20
     have hWd:=hW1.put (k2:=k.turn 7) hW1.sc.drew ((To.refl _ _ _).drew) rfl hOk.how rfl rfl
     have cN:=next_any hWd.sc hWd.rdy hOk.how 6 [84] (fun _ => HCR.out _ _ (by simp) (pk_scal _ _ _))
     have hsg:sgn [84] = [84]:=rfl
     rw [hsg] at cN
     obtain ⟨v,hv⟩ : ∃ v,nx f n (k.turn 7).ps (6:Nat) [84]=v:=⟨_,rfl⟩
     have hst2:step S.inn S.nm f n (k.turn 7)=onNx v (k.turn 7) fun _ s => if s.ct + 1 < 6 then { s with ct:=s.ct + 1 } else { s with ct:=0,st:=8 }:=by
      rw [<- hv]
      refine (step7 (k.turn 7) rfl).trans ?_
      rw [show (k.turn 7).ct=3 from hct]
      rfl
     have hv':nx f n (Stt S x (k.turn 7)).k.ps ((6:Nat) : Int) [84]=v:=hv
     rw [hv'] at cN
     have HPOS:Hid (v.1=0 -> 0 < v.2.2):=fun e => by rw [<- hv] at e ⊢; exact nx_pos e
     have HW1:=hide' hWd
     have HSt:=hide' hSt
     have HOk:=hide' hOk
     have HST2:=hide' hst2
     clear hW1 hWd hSt hOk hv hv' hst2 hsg h20
     obtain ⟨v1',v2',v3'⟩:=v
     have hc0:v1'=0 \/ v1' ≠ 0:=by omega
     rcases hc0 with c0 | c0
     . subst c0
       have hpos:0 < v3':=HPOS.out rfl
       have cN2:Calls _ _ _ _ (fun e w' => e = .returned (.tuple #[.int .i32 (v2':Nat), .bool true]) /\ w'.cell? ⟨D,20,none⟩ = some (.int .i64 3) /\ ∃ x2 R2,Went W.drew D B f n (Stt S x (k.turn 7)) R1 d w' ((k.turn 7).took v3') x2 R2):=Calls.mono cN (fun e w' h => by
        obtain ⟨hE,x2,R2,hW2,hx2⟩:=h
        have hk1:nxK (0,v2',v3') (Stt S x (k.turn 7)).k=(k.turn 7).took v3':=by simp [nxK]; rfl
        rw [hk1] at hW2
        refine ⟨by unfold NxE at hE; rw [if_pos rfl] at hE; exact hE, ?_,x2,R2,hW2⟩
        have h20:=hW2.sc.c20
        rw [show (Stt (Stt S x (k.turn 7)) x2 ((k.turn 7).took v3')).k.ct=3 from hct] at h20
        exact h20)
       have CN:=hide' cN2
       clear cN cN2
       go_wp2_with fail
       go_region_held (fun w' => w'.cell? ⟨D,20,none⟩ = some (.int .i64 3)) (first | (with_reducible exact xx) | (with_reducible exact zz)) (first | (go_at_call 46; refine CN.out.mono ?_; rintro e W2 ⟨rfl,zz,hrest⟩))
       obtain ⟨x2,R2,hW2⟩:=hrest
       have hWW:=HW1.out.trans hW2
       have o2:k.text.length <= 4 * k.ps:=HOk.out.text
       have o3:k.tag.length <= 4 * k.ps:=HOk.out.tag
       have o4:k.attr.length <= 4 * k.ps:=HOk.out.attr
       have o5:k.val.length <= 4 * k.ps:=HOk.out.val
       have o6:k.ref.length <= k.ps:=HOk.out.ref
       have o7:k.ct <= k.ps:=HOk.out.ct
       have o8:k.attrs.length <= k.ps:=HOk.out.attrs
       have hstep2:=HST2.out
       simp only [onNx,if_true] at hstep2
       have hle:k.ps + v3' <= n:=Nat.le_trans hWW.rdy.qe hWW.rdy.fn
       have g20:=hWW.sc.fz 20
       have hWa:=hWW.put (k2 := { (k.turn 7).took v3' with ct:=4 }) (hWW.sc.put 20 (.int .i64 4) _ rfl ⟨rfl,rfl,rfl,rfl,rfl,rfl,rfl,rfl⟩) ((To.refl _ _ _).setCell 20 _ rfl) rfl HOk.out.how rfl rfl
       rw [if_pos (show ((k.turn 7).took v3').ct + 1 < 6 by show k.ct + 1 < 6; omega),show ((k.turn 7).took v3').ct + 1=4 by show k.ct + 1=4; omega] at hstep2
       have hc8:=hWa.sc.c8
       dsimp only [Stt,Wk.took,Wk.turn] at hc8
       have HC8:=hide' hc8
       clear hc8
       have hok:Ok S.nm x2 (({ (k.turn 7).took v3' with ct:=4 }).turn 7):=by
        refine ⟨HOk.out.how, ?_, ?_, ?_, ?_, ?_, ?_, ?_, ?_, ?_, ?_, ?_, ?_, ?_⟩
        all_goals (simp only [Wk.took,Wk.turn])
        all_goals omega
       have hj:Jw 7 (W2.setCell ⟨D,20,none⟩ (.int .i64 4)):=by
        rw [HJ.out]
        exact ⟨x2,_,R2,hWa,HSt.out.trans (.one HOk.out.how hstep2),hok,by show S.k.ps <= k.ps + v3'; omega⟩
       have hmu:n - psOf ((W2.setCell ⟨D,20,none⟩ (.int .i64 4))) D < n - psOf W D:=by
        rw [show psOf ((W2.setCell ⟨D,20,none⟩ (.int .i64 4))) D=k.ps + v3' from psOf_eq hWa.sc.c16,HPSW.out]
        omega
       have HJJ:=hide' hj
       have HMU:=hide' hmu
       clear hj hmu hok hstep2 hWW hWa hW2 xx
       go_wp2_with fail
       go_step3
       exact .inl ⟨rfl,⟨rfl,rfl,rfl,HJJ.out,HC8.out⟩,HMU.out⟩
     . have cN2:Calls _ _ _ _ (fun e w' => e = .returned (.tuple #[.int .i32 0, .bool false]) /\ w'.cell? ⟨D,20,none⟩ = some (.int .i64 3) /\ ∃ x2 R2,Went W.drew D B f n (Stt S x (k.turn 7)) R1 d w' (nxK (v1',v2',v3') (k.turn 7)) x2 R2):=Calls.mono cN (fun e w' h => by
        obtain ⟨hE,x2,R2,hW2,hx2⟩:=h
        refine ⟨by unfold NxE at hE; rw [if_neg c0] at hE; exact hE, ?_,x2,R2,hW2⟩
        have h20:=hW2.sc.c20
        rw [show (Stt (Stt S x (k.turn 7)) x2 (nxK (v1',v2',v3') (Stt S x (k.turn 7)).k)).k.ct=3 by show (nxK (v1',v2',v3') (k.turn 7)).ct=3; unfold nxK; rw [if_neg c0]; split <;> exact hct] at h20
        exact h20)
       have CN:=hide' cN2
       clear cN cN2
       go_wp2_with fail
       go_region_held (fun w' => w'.cell? ⟨D,20,none⟩ = some (.int .i64 3)) (first | (with_reducible exact xx) | (with_reducible exact zz)) (first | (go_at_call 46; refine CN.out.mono ?_; rintro e W2 ⟨rfl,zz,hrest⟩))
       obtain ⟨x2,R2,hW2⟩:=hrest
       have hWW:=HW1.out.trans hW2
       have hfin:Part w D B f n S R d (.returned (.bool false)) W2:=by
        by_cases c2:v1'=2
        . subst c2
          refine ⟨false,x2,_,R2,rfl,hWW,HSt.out.trans (.one HOk.out.how (by rw [HST2.out]; simp [onNx]; rfl)), ?_⟩
          rw [if_neg (by decide)]
          left
          simp [nxK,Wk.fails]
        . refine ⟨false,x2,_,R2,rfl,hWW, ?_, ?_⟩
          . simp only [nxK,if_neg c0,if_neg c2]
            exact HSt.out
          . rw [if_neg (by decide)]
            right
            simp only [nxK,if_neg c0,if_neg c2]
            show step S.inn S.nm f n (k.turn 7)=none
            rw [HST2.out]
            simp [onNx,c0,c2]
       have HFIN:=hide' hfin
       clear hfin hWW hW2 xx
       go_wp2_with fail
       simp only [jumps2]
       exact bodyPost_ret (v := .bool false) (by simp [results,Tryd.results34,go_sem]) rfl HFIN.out
   . have h20:=hW1.sc.c20
     rw [show (Stt S x (k.turn 7)).k.ct=4 from hct] at h20
     have d20:W.cell? ⟨D,20,none⟩ = some (.int .i64 4):=h20
     have xx:W.drew.cell? ⟨D,20,none⟩ = some (.int .i64 4):=d20
     have hWd:=hW1.put (k2:=k.turn 7) hW1.sc.drew ((To.refl _ _ _).drew) rfl hOk.how rfl rfl
     have cN:=next_any hWd.sc hWd.rdy hOk.how 6 [65] (fun _ => HCR.out _ _ (by simp) (pk_scal _ _ _))
     have hsg:sgn [65] = [65]:=rfl
     rw [hsg] at cN
     obtain ⟨v,hv⟩ : ∃ v,nx f n (k.turn 7).ps (6:Nat) [65]=v:=⟨_,rfl⟩
     have hst2:step S.inn S.nm f n (k.turn 7)=onNx v (k.turn 7) fun _ s => if s.ct + 1 < 6 then { s with ct:=s.ct + 1 } else { s with ct:=0,st:=8 }:=by
      rw [<- hv]
      refine (step7 (k.turn 7) rfl).trans ?_
      rw [show (k.turn 7).ct=4 from hct]
      rfl
     have hv':nx f n (Stt S x (k.turn 7)).k.ps ((6:Nat) : Int) [65]=v:=hv
     rw [hv'] at cN
     have HPOS:Hid (v.1=0 -> 0 < v.2.2):=fun e => by rw [<- hv] at e ⊢; exact nx_pos e
     have HW1:=hide' hWd
     have HSt:=hide' hSt
     have HOk:=hide' hOk
     have HST2:=hide' hst2
     clear hW1 hWd hSt hOk hv hv' hst2 hsg h20
     obtain ⟨v1',v2',v3'⟩:=v
     have hc0:v1'=0 \/ v1' ≠ 0:=by omega
     rcases hc0 with c0 | c0
     . subst c0
       have hpos:0 < v3':=HPOS.out rfl
       have cN2:Calls _ _ _ _ (fun e w' => e = .returned (.tuple #[.int .i32 (v2':Nat), .bool true]) /\ w'.cell? ⟨D,20,none⟩ = some (.int .i64 4) /\ ∃ x2 R2,Went W.drew D B f n (Stt S x (k.turn 7)) R1 d w' ((k.turn 7).took v3') x2 R2):=Calls.mono cN (fun e w' h => by
        obtain ⟨hE,x2,R2,hW2,hx2⟩:=h
        have hk1:nxK (0,v2',v3') (Stt S x (k.turn 7)).k=(k.turn 7).took v3':=by simp [nxK]; rfl
        rw [hk1] at hW2
        refine ⟨by unfold NxE at hE; rw [if_pos rfl] at hE; exact hE, ?_,x2,R2,hW2⟩
        have h20:=hW2.sc.c20
        rw [show (Stt (Stt S x (k.turn 7)) x2 ((k.turn 7).took v3')).k.ct=4 from hct] at h20
        exact h20)
       have CN:=hide' cN2
       clear cN cN2
       go_wp2_with fail
       go_region_held (fun w' => w'.cell? ⟨D,20,none⟩ = some (.int .i64 4)) (first | (with_reducible exact xx) | (with_reducible exact zz)) (first | (go_at_call 46; refine CN.out.mono ?_; rintro e W2 ⟨rfl,zz,hrest⟩))
       obtain ⟨x2,R2,hW2⟩:=hrest
       have hWW:=HW1.out.trans hW2
       have o2:k.text.length <= 4 * k.ps:=HOk.out.text
       have o3:k.tag.length <= 4 * k.ps:=HOk.out.tag
       have o4:k.attr.length <= 4 * k.ps:=HOk.out.attr
       have o5:k.val.length <= 4 * k.ps:=HOk.out.val
       have o6:k.ref.length <= k.ps:=HOk.out.ref
       have o7:k.ct <= k.ps:=HOk.out.ct
       have o8:k.attrs.length <= k.ps:=HOk.out.attrs
       have hstep2:=HST2.out
       simp only [onNx,if_true] at hstep2
       have hle:k.ps + v3' <= n:=Nat.le_trans hWW.rdy.qe hWW.rdy.fn
       have g20:=hWW.sc.fz 20
       have hWa:=hWW.put (k2 := { (k.turn 7).took v3' with ct:=5 }) (hWW.sc.put 20 (.int .i64 5) _ rfl ⟨rfl,rfl,rfl,rfl,rfl,rfl,rfl,rfl⟩) ((To.refl _ _ _).setCell 20 _ rfl) rfl HOk.out.how rfl rfl
       rw [if_pos (show ((k.turn 7).took v3').ct + 1 < 6 by show k.ct + 1 < 6; omega),show ((k.turn 7).took v3').ct + 1=5 by show k.ct + 1=5; omega] at hstep2
       have hc8:=hWa.sc.c8
       dsimp only [Stt,Wk.took,Wk.turn] at hc8
       have HC8:=hide' hc8
       clear hc8
       have hok:Ok S.nm x2 (({ (k.turn 7).took v3' with ct:=5 }).turn 7):=by
        refine ⟨HOk.out.how, ?_, ?_, ?_, ?_, ?_, ?_, ?_, ?_, ?_, ?_, ?_, ?_, ?_⟩
        all_goals (simp only [Wk.took,Wk.turn])
        all_goals omega
       have hj:Jw 7 (W2.setCell ⟨D,20,none⟩ (.int .i64 5)):=by
        rw [HJ.out]
        exact ⟨x2,_,R2,hWa,HSt.out.trans (.one HOk.out.how hstep2),hok,by show S.k.ps <= k.ps + v3'; omega⟩
       have hmu:n - psOf ((W2.setCell ⟨D,20,none⟩ (.int .i64 5))) D < n - psOf W D:=by
        rw [show psOf ((W2.setCell ⟨D,20,none⟩ (.int .i64 5))) D=k.ps + v3' from psOf_eq hWa.sc.c16,HPSW.out]
        omega
       have HJJ:=hide' hj
       have HMU:=hide' hmu
       clear hj hmu hok hstep2 hWW hWa hW2 xx
       go_wp2_with fail
       go_step3
       exact .inl ⟨rfl,⟨rfl,rfl,rfl,HJJ.out,HC8.out⟩,HMU.out⟩
     . have cN2:Calls _ _ _ _ (fun e w' => e = .returned (.tuple #[.int .i32 0, .bool false]) /\ w'.cell? ⟨D,20,none⟩ = some (.int .i64 4) /\ ∃ x2 R2,Went W.drew D B f n (Stt S x (k.turn 7)) R1 d w' (nxK (v1',v2',v3') (k.turn 7)) x2 R2):=Calls.mono cN (fun e w' h => by
        obtain ⟨hE,x2,R2,hW2,hx2⟩:=h
        refine ⟨by unfold NxE at hE; rw [if_neg c0] at hE; exact hE, ?_,x2,R2,hW2⟩
        have h20:=hW2.sc.c20
        rw [show (Stt (Stt S x (k.turn 7)) x2 (nxK (v1',v2',v3') (Stt S x (k.turn 7)).k)).k.ct=4 by show (nxK (v1',v2',v3') (k.turn 7)).ct=4; unfold nxK; rw [if_neg c0]; split <;> exact hct] at h20
        exact h20)
       have CN:=hide' cN2
       clear cN cN2
       go_wp2_with fail
       go_region_held (fun w' => w'.cell? ⟨D,20,none⟩ = some (.int .i64 4)) (first | (with_reducible exact xx) | (with_reducible exact zz)) (first | (go_at_call 46; refine CN.out.mono ?_; rintro e W2 ⟨rfl,zz,hrest⟩))
       obtain ⟨x2,R2,hW2⟩:=hrest
       have hWW:=HW1.out.trans hW2
       have hfin:Part w D B f n S R d (.returned (.bool false)) W2:=by
        by_cases c2:v1'=2
        . subst c2
          refine ⟨false,x2,_,R2,rfl,hWW,HSt.out.trans (.one HOk.out.how (by rw [HST2.out]; simp [onNx]; rfl)), ?_⟩
          rw [if_neg (by decide)]
          left
          simp [nxK,Wk.fails]
        . refine ⟨false,x2,_,R2,rfl,hWW, ?_, ?_⟩
          . simp only [nxK,if_neg c0,if_neg c2]
            exact HSt.out
          . rw [if_neg (by decide)]
            right
            simp only [nxK,if_neg c0,if_neg c2]
            show step S.inn S.nm f n (k.turn 7)=none
            rw [HST2.out]
            simp [onNx,c0,c2]
       have HFIN:=hide' hfin
       clear hfin hWW hW2 xx
       go_wp2_with fail
       simp only [jumps2]
       exact bodyPost_ret (v := .bool false) (by simp [results,Tryd.results34,go_sem]) rfl HFIN.out
   . have h20:=hW1.sc.c20
     rw [show (Stt S x (k.turn 7)).k.ct=5 from hct] at h20
     have d20:W.cell? ⟨D,20,none⟩ = some (.int .i64 5):=h20
     have xx:W.drew.cell? ⟨D,20,none⟩ = some (.int .i64 5):=d20
     have hWd:=hW1.put (k2:=k.turn 7) hW1.sc.drew ((To.refl _ _ _).drew) rfl hOk.how rfl rfl
     have cN:=next_any hWd.sc hWd.rdy hOk.how 6 [91] (fun _ => HCR.out _ _ (by simp) (pk_scal _ _ _))
     have hsg:sgn [91] = [91]:=rfl
     rw [hsg] at cN
     obtain ⟨v,hv⟩ : ∃ v,nx f n (k.turn 7).ps (6:Nat) [91]=v:=⟨_,rfl⟩
     have hst2:step S.inn S.nm f n (k.turn 7)=onNx v (k.turn 7) fun _ s => if s.ct + 1 < 6 then { s with ct:=s.ct + 1 } else { s with ct:=0,st:=8 }:=by
      rw [<- hv]
      refine (step7 (k.turn 7) rfl).trans ?_
      rw [show (k.turn 7).ct=5 from hct]
      rfl
     have hv':nx f n (Stt S x (k.turn 7)).k.ps ((6:Nat) : Int) [91]=v:=hv
     rw [hv'] at cN
     have HPOS:Hid (v.1=0 -> 0 < v.2.2):=fun e => by rw [<- hv] at e ⊢; exact nx_pos e
     have HW1:=hide' hWd
     have HSt:=hide' hSt
     have HOk:=hide' hOk
     have HST2:=hide' hst2
     clear hW1 hWd hSt hOk hv hv' hst2 hsg h20
     obtain ⟨v1',v2',v3'⟩:=v
     have hc0:v1'=0 \/ v1' ≠ 0:=by omega
     rcases hc0 with c0 | c0
     . subst c0
       have hpos:0 < v3':=HPOS.out rfl
       have cN2:Calls _ _ _ _ (fun e w' => e = .returned (.tuple #[.int .i32 (v2':Nat), .bool true]) /\ w'.cell? ⟨D,20,none⟩ = some (.int .i64 5) /\ ∃ x2 R2,Went W.drew D B f n (Stt S x (k.turn 7)) R1 d w' ((k.turn 7).took v3') x2 R2):=Calls.mono cN (fun e w' h => by
        obtain ⟨hE,x2,R2,hW2,hx2⟩:=h
        have hk1:nxK (0,v2',v3') (Stt S x (k.turn 7)).k=(k.turn 7).took v3':=by simp [nxK]; rfl
        rw [hk1] at hW2
        refine ⟨by unfold NxE at hE; rw [if_pos rfl] at hE; exact hE, ?_,x2,R2,hW2⟩
        have h20:=hW2.sc.c20
        rw [show (Stt (Stt S x (k.turn 7)) x2 ((k.turn 7).took v3')).k.ct=5 from hct] at h20
        exact h20)
       have CN:=hide' cN2
       clear cN cN2
       go_wp2_with fail
       go_region_held (fun w' => w'.cell? ⟨D,20,none⟩ = some (.int .i64 5)) (first | (with_reducible exact xx) | (with_reducible exact zz)) (first | (go_at_call 46; refine CN.out.mono ?_; rintro e W2 ⟨rfl,zz,hrest⟩))
       obtain ⟨x2,R2,hW2⟩:=hrest
       have hWW:=HW1.out.trans hW2
       have o2:k.text.length <= 4 * k.ps:=HOk.out.text
       have o3:k.tag.length <= 4 * k.ps:=HOk.out.tag
       have o4:k.attr.length <= 4 * k.ps:=HOk.out.attr
       have o5:k.val.length <= 4 * k.ps:=HOk.out.val
       have o6:k.ref.length <= k.ps:=HOk.out.ref
       have o7:k.ct <= k.ps:=HOk.out.ct
       have o8:k.attrs.length <= k.ps:=HOk.out.attrs
       have hstep2:=HST2.out
       simp only [onNx,if_true] at hstep2
       have hle:k.ps + v3' <= n:=Nat.le_trans hWW.rdy.qe hWW.rdy.fn
       have g20:=hWW.sc.fz 20
       have hWa:=hWW.put (k2 := { (k.turn 7).took v3' with ct:=6 }) (hWW.sc.put 20 (.int .i64 6) _ rfl ⟨rfl,rfl,rfl,rfl,rfl,rfl,rfl,rfl⟩) ((To.refl _ _ _).setCell 20 _ rfl) rfl HOk.out.how rfl rfl
       rw [if_neg (show ¬ ((k.turn 7).took v3').ct + 1 < 6 by show ¬ k.ct + 1 < 6; omega)] at hstep2
       have hWb:=hWa.put (k2 := { (k.turn 7).took v3' with ct:=0 }) (hWa.sc.put 20 (.int .i64 0) _ rfl ⟨rfl,rfl,rfl,rfl,rfl,rfl,rfl,rfl⟩) ((To.refl _ _ _).setCell 20 _ rfl) rfl HOk.out.how rfl rfl
       have hok:Ok S.nm x2 (({ (k.turn 7).took v3' with ct:=0 }).turn 8):=by
        refine ⟨HOk.out.how, ?_, ?_, ?_, ?_, ?_, ?_, ?_, ?_, ?_, ?_, ?_, ?_, ?_⟩
        all_goals (simp only [Wk.took,Wk.turn])
        all_goals omega
       have hj:Jw 8 ((W2.setCell ⟨D,20,none⟩ (.int .i64 6)).setCell ⟨D,20,none⟩ (.int .i64 0)):=by
        rw [HJ.out]
        exact ⟨x2,_,R2,hWb,HSt.out.trans (.one HOk.out.how hstep2),hok,by show S.k.ps <= k.ps + v3'; omega⟩
       have hmu:n - psOf (((W2.setCell ⟨D,20,none⟩ (.int .i64 6)).setCell ⟨D,20,none⟩ (.int .i64 0))) D < n - psOf W D:=by
        rw [show psOf (((W2.setCell ⟨D,20,none⟩ (.int .i64 6)).setCell ⟨D,20,none⟩ (.int .i64 0))) D=k.ps + v3' from psOf_eq hWb.sc.c16,HPSW.out]
        omega
       have HJJ:=hide' hj
       have HMU:=hide' hmu
       clear hj hmu hok hstep2 hWW hWa hWb hW2 xx
       go_wp2_with fail
       refine wp_label ?_
       rename_i hK
       refine hK _ _ ?_
       exact wp_mono (HP2.out _ _ ⟨rfl,rfl,rfl,HJJ.out⟩) (jumps2_mono (fun _ _ h => ⟨h.1,Nat.lt_trans h.2 HMU.out⟩) (fun _ _ h => ⟨h.1,Nat.lt_trans h.2 HMU.out⟩))
     . have cN2:Calls _ _ _ _ (fun e w' => e = .returned (.tuple #[.int .i32 0, .bool false]) /\ w'.cell? ⟨D,20,none⟩ = some (.int .i64 5) /\ ∃ x2 R2,Went W.drew D B f n (Stt S x (k.turn 7)) R1 d w' (nxK (v1',v2',v3') (k.turn 7)) x2 R2):=Calls.mono cN (fun e w' h => by
        obtain ⟨hE,x2,R2,hW2,hx2⟩:=h
        refine ⟨by unfold NxE at hE; rw [if_neg c0] at hE; exact hE, ?_,x2,R2,hW2⟩
        have h20:=hW2.sc.c20
        rw [show (Stt (Stt S x (k.turn 7)) x2 (nxK (v1',v2',v3') (Stt S x (k.turn 7)).k)).k.ct=5 by show (nxK (v1',v2',v3') (k.turn 7)).ct=5; unfold nxK; rw [if_neg c0]; split <;> exact hct] at h20
        exact h20)
       have CN:=hide' cN2
       clear cN cN2
       go_wp2_with fail
       go_region_held (fun w' => w'.cell? ⟨D,20,none⟩ = some (.int .i64 5)) (first | (with_reducible exact xx) | (with_reducible exact zz)) (first | (go_at_call 46; refine CN.out.mono ?_; rintro e W2 ⟨rfl,zz,hrest⟩))
       obtain ⟨x2,R2,hW2⟩:=hrest
       have hWW:=HW1.out.trans hW2
       have hfin:Part w D B f n S R d (.returned (.bool false)) W2:=by
        by_cases c2:v1'=2
        . subst c2
          refine ⟨false,x2,_,R2,rfl,hWW,HSt.out.trans (.one HOk.out.how (by rw [HST2.out]; simp [onNx]; rfl)), ?_⟩
          rw [if_neg (by decide)]
          left
          simp [nxK,Wk.fails]
        . refine ⟨false,x2,_,R2,rfl,hWW, ?_, ?_⟩
          . simp only [nxK,if_neg c0,if_neg c2]
            exact HSt.out
          . rw [if_neg (by decide)]
            right
            simp only [nxK,if_neg c0,if_neg c2]
            show step S.inn S.nm f n (k.turn 7)=none
            rw [HST2.out]
            simp [onNx,c0,c2]
       have HFIN:=hide' hfin
       clear hfin hWW hW2 xx
       go_wp2_with fail
       simp only [jumps2]
       exact bodyPost_ret (v := .bool false) (by simp [results,Tryd.results34,go_sem]) rfl HFIN.out
 . rintro ⟨tm,df⟩ W ⟨q1,q2,q3,hJ⟩
   simp only at q1 q2 q3
   subst q1
   revert q3
   revert tm
   refine frame104 ?_
   intro v0 v1 v2 v3 v4 v5 v6 v7 v8 v9 v10 v11 v12 v13 v14 v15 v16 v17 v18 v19 v20 v21 v22 v23 v24 v25 v26 v27 v28 v29 v30 v31 v32 v33 v34 v35 v36 v37 v38 v39 v40 v41 v42 v43 v44 v45 v46 v47 v48 v49 v50 v51 v52 v53 v54 v55 v56 v57 v58 v59 v60 v61 v62 v63 v64 v65 v66 v67 v68 v69 v70 v71 v72 v73 v74 v75 v76 v77 v78 v79 v80 v81 v82 v83 v84 v85 v86 v87 v88 v89 v90 v91 v92 v93 v94 v95 v96 v97 v98 v99 v100 v101 v102 v103 q3
   have q4:v0 = .pointer (some ⟨D,0,none⟩):=by simpa using q3
   subst q4
   clear q3
   rw [HJ.out] at hJ
   obtain ⟨x,k,R1,hW,hSt,hOk,hps⟩:=hJ
   have HPSW:Hid (psOf W D=k.ps):=psOf_eq hW.sc.c16
   have d8:=hW.sc.c8
   have g8:=hW.sc.fz 8
   have hW1:=hW.put (hW.sc.put 8 (.int .i64 8) (Stt S x (k.turn 8)) rfl ⟨rfl,rfl,rfl,rfl,rfl,rfl,rfl,rfl⟩) ((To.refl _ _ _).setCell 8 _ rfl) rfl hOk.how rfl rfl
   clear hW
   have cN:=next_any hW1.sc hW1.rdy hOk.how 0 [] (fun _ => HCR.out _ _ (by simp) (pk_scal _ _ _))
   have hsg:sgn [] = []:=rfl
   rw [hsg] at cN
   obtain ⟨v,hv⟩ : ∃ v,nx f n (k.turn 8).ps (0:Nat) []=v:=⟨_,rfl⟩
   have hst2:step S.inn S.nm f n (k.turn 8)=onNx v (k.turn 8) fun r s => if r=62 /\ 2 <= s.ct then { s with text:=s.text.take (s.text.length - 2),ct:=0,st:=0 } else (s.add r s.tg).tally r 93:=by
    rw [<- hv]
    rfl
   have hv':nx f n (Stt S x (k.turn 8)).k.ps ((0:Nat) : Int) []=v:=hv
   rw [hv'] at cN
   have HPOS:Hid (v.1=0 -> 0 < v.2.2):=fun e => by rw [<- hv] at e ⊢; exact nx_pos e
   have HONE:Hid (v.1=0 -> v.2.1 < 128 -> v.2.1 ≠ 10 -> v.2.2=1):=fun e1 e2 e3 => by rw [<- hv] at e1 e2 e3 ⊢; exact nx_one e1 e2 e3
   have HSC:Hid (v.1=0 -> Rn.scal v.2.1):=fun e => by rw [<- hv] at e ⊢; exact nx_scal e
   have HW1:=hide' hW1
   have HSt:=hide' hSt
   have HOk:=hide' hOk
   have HST2:=hide' hst2
   have CN:=hide' cN
   clear hW1 hSt hOk hv hv' hst2 hsg cN
   go_wp2_with fail
   refine CN.out.mono ?_
   rintro e W2 ⟨hE,x2,R2,hW2,hx2⟩
   have hWW:=HW1.out.trans hW2
   obtain ⟨v1',v2',v3'⟩:=v
   unfold NxE at hE
   simp only at hE hx2
   clear CN hW2 d8 g8
   have hc0:v1'=0 \/ v1' ≠ 0:=by omega
   rcases hc0 with c0 | c0
   . subst c0
     rw [if_pos rfl] at hE
     subst hE
     have hk1:nxK (0,v2',v3') (Stt S x (k.turn 8)).k=(k.turn 8).took v3':=by simp [nxK]; rfl
     rw [hk1] at hWW
     have hpos:0 < v3':=HPOS.out rfl
     have o2:k.text.length <= 4 * k.ps:=HOk.out.text
     have o3:k.tag.length <= 4 * k.ps:=HOk.out.tag
     have o4:k.attr.length <= 4 * k.ps:=HOk.out.attr
     have o5:k.val.length <= 4 * k.ps:=HOk.out.val
     have o6:k.ref.length <= k.ps:=HOk.out.ref
     have o7:k.ct <= k.ps:=HOk.out.ct
     have o8:k.attrs.length <= k.ps:=HOk.out.attrs
     have hbig:=HW1.out.rdy.big
     have hstep2:=HST2.out
     simp only [onNx,if_true] at hstep2
     have hle:k.ps + v3' <= n:=Nat.le_trans hWW.rdy.qe hWW.rdy.fn
     have d20:=hWW.sc.c20
     by_cases r62:v2'=62 /\ 2 <= k.ct
     . rw [if_pos (show v2'=62 /\ 2 <= ((k.turn 8).took v3').ct from r62)] at hstep2
       have r62a:v2'=62:=r62.1
       have r62b:2 <= k.ct:=r62.2
       subst r62a
       have i20:(2:Int) <= (k.ct:Int):=by omega
       have hdl:k.ct <= k.text.length:=HOk.out.dat rfl
       obtain ⟨g,cap,cur,hv,hb,hg,h1,h2,h3,h4⟩ : ∃ g cap cur,R2.text = .slice (some ⟨g,0,none⟩) k.text.length cap /\ B <= g /\ W2.heap[g]? = some (.cells cur 5 (0,0)) /\ k.text.length <= cap /\ cap <= maxLen /\ cur.size=cap * 1 /\ cur.toList.take (k.text.length * 1)=byteCells k.text:=by
        rcases hWW.sc.text.2 with ⟨e1,e2⟩ | h
        . have e3:k.text.length=0:=e2
          omega
        . exact h
       have d18:=hWW.sc.c18
       rw [hv] at d18
       have g18:=hWW.sc.fz 18
       have g20:=hWW.sc.fz 20
       have hWd:=hWW.put (k2:=(k.turn 8).took v3') hWW.sc.drew ((To.refl _ _ _).drew) rfl HOk.out.how rfl rfl
       have hrow:RowB W2.drew B (.slice (some ⟨g,0,none⟩) (k.text.length - 2) cap) (k.text.take (k.text.length - 2)):=by
        refine ⟨by simp [byteCells], .inr ⟨g,cap,cur, ?_,hb,hg, ?_,h2,h3, ?_⟩⟩
        . simp
        . simp; omega
        . have e1:byteCells (k.text.take (k.text.length - 2))=(byteCells k.text).take (k.text.length - 2):=by simp [byteCells,List.map_take]
          rw [e1, <- h4,List.take_take]
          congr 1
          simp
       have hgw:Grew W2.drew R2.text W2.drew (.slice (some ⟨g,0,none⟩) (k.text.length - 2) cap):=⟨rfl,rfl,rfl,Nat.le_refl _,fun _ _ _ => rfl, .inl (by rw [hv]; rfl)⟩
       have hWt:=hWd.put (k2 := { (k.turn 8).took v3' with text:=k.text.take (k.text.length - 2) }) (hWd.sc.text' hgw hrow) (To.text' hgw) rfl HOk.out.how rfl rfl
       have hWa:=hWt.put (k2 := { (k.turn 8).took v3' with text:=k.text.take (k.text.length - 2),ct:=0 }) (hWt.sc.put 20 (.int .i64 0) _ rfl ⟨rfl,rfl,rfl,rfl,rfl,rfl,rfl,rfl⟩) ((To.refl _ _ _).setCell 20 _ rfl) rfl HOk.out.how rfl rfl
       have j1:(2:Int) <= (k.text.length:Int):=by omega
       have j2:(k.text.length:Int) - 2 <= cap:=by omega
       have j3:(0:Int) <= (k.text.length:Int) - 2:=by omega
       have j4:((k.text.length:Int) - 2).toNat=k.text.length - 2:=by omega
       have HWA:=hide' hWa
       have HS5:=hide' hstep2
       have hl2:(k.text.take (k.text.length - 2)).length <= 4 * k.ps:=by rw [List.length_take]; omega
       have HL2:=hide' hl2
       dsimp only [Stt,Wk.took,Wk.turn] at d18 d20
       clear hWW hWd hWt hWa hrow hgw hstep2 hv h4 hg hb hl2
       go_wp2_with fail
       go_region
       have hW5:=HWA.out
       have hstep2:=HS5.out
       have hl2:=HL2.out
       have cT:=turn_any hW5.sc 0
       have HWa:=hide' hW5
       have HCT:=hide' cT
       have HS2:=hide' hstep2
       clear hW5 cT hstep2
       go_wp2_with fail
       refine HCT.out.mono ?_
       rintro e W9 ⟨rfl,hS3,hTo3⟩
       have hWc:=HWa.out.put (k2:=({ (k.turn 8).took v3' with text:=k.text.take (k.text.length - 2),ct:=0 }).turn 0) hS3 hTo3 rfl HOk.out.how rfl rfl
       have hfin:Part w D B f n S R d (.returned (.bool true)) W9:=by
        refine ⟨true,x2,_,_,rfl,hWc,HSt.out.trans (.one HOk.out.how HS2.out), ?_⟩
        rw [if_pos rfl]
        refine ⟨?_, ?_⟩
        . refine ⟨HOk.out.how, ?_, ?_, ?_, ?_, ?_, ?_, ?_, ?_, ?_, ?_, ?_, ?_, ?_⟩
          all_goals (simp only [Wk.took,Wk.turn])
          all_goals omega
        . show S.k.ps < k.ps + v3'
          omega
       have HFIN:=hide' hfin
       clear hfin hWc hS3 hTo3 HCT HWa
       go_wp2_with fail
       simp only [jumps2]
       exact bodyPost_ret (v := .bool true) (by simp [results,Tryd.results34,go_sem]) rfl HFIN.out
     . rw [if_neg (show ¬ (v2'=62 /\ 2 <= ((k.turn 8).took v3').ct) from r62)] at hstep2
       have hsc:Rn.scal v2':=HSC.out rfl
       have d22:=hWW.sc.c22
       dsimp only [Stt,Wk.took,Wk.turn] at d20 d22
       have cA:=add_any hWW.sc v2' k.tg hsc (by show k.text.length + 4 <= _; omega) hWW.rdy.bw
       have i62:((v2':Int) == 62)=false \/ (((v2':Int) == 62)=true /\ ¬ (2:Int) <= (k.ct:Int)):=by
        by_cases e:v2'=62
        . right
          refine ⟨by simp; omega,fun h => r62 ⟨e,by omega⟩⟩
        . left
          simp
          omega
       have HCA:=hide' cA
       have HWW:=hide' hWW
       have HS2:=hide' hstep2
       have hdl:k.ct <= k.text.length:=HOk.out.dat rfl
       clear cA hWW hstep2 r62
       rcases i62 with i62 | ⟨i62,j62⟩
       all_goals (
        go_wp2_with fail
        refine HCA.out.mono ?_
        rintro e W3 ⟨rfl,R3,hS3,hTo3,hR3⟩
        have hW3:=HWW.out.put (k2:=((k.turn 8).took v3').add v2' k.tg) hS3 hTo3 rfl HOk.out.how (by rw [hR3]) (by rw [hR3])
        have cT:=tally_any hW3.sc v2' 93 (by show k.ct + 1 < _; omega)
        have HCT:=hide' cT
        have HW3:=hide' hW3
        clear cT hW3 hS3 hTo3 hR3
        go_wp2_with fail
        refine HCT.out.mono ?_
        rintro e W4 ⟨rfl,hS4,hTo4⟩
        have hW4:=HW3.out.put (k2:=(((k.turn 8).took v3').add v2' k.tg).tally v2' 93) hS4 hTo4 rfl HOk.out.how rfl rfl
        have hen:=Rn.enc_length (v2':Int)
        have hel:=Rn.el_pos (v2':Int)
        have hstep2:=HS2.out
        have hok:Ok S.nm x2 (((((k.turn 8).took v3').add v2' k.tg).tally v2' 93).turn 8):=by
         refine ⟨HOk.out.how, ?_, ?_, ?_, ?_, ?_, ?_, ?_, ?_, ?_, ?_, ?_, ?_, ?_⟩
         all_goals (simp only [Wk.took,Wk.turn,Wk.add,Wk.tally,List.length_append])
         all_goals (first | omega | (split <;> omega))
        have hj:Jw 8 W4:=by
         rw [HJ.out]
         exact ⟨x2,_,R3,hW4,HSt.out.trans (.one HOk.out.how hstep2),hok,by show S.k.ps <= k.ps + v3'; omega⟩
        have hmu:n - psOf (W4) D < n - psOf W D:=by
         rw [show psOf (W4) D=k.ps + v3' from psOf_eq hW4.sc.c16,HPSW.out]
         omega
        have HJJ:=hide' hj
        have HMU:=hide' hmu
        clear hj hmu hok hstep2 hW4 hS4 hTo4 HCT HW3
        go_wp2_with fail
        go_step3
        exact .inr ⟨rfl,⟨rfl,rfl,rfl,HJJ.out⟩,HMU.out⟩)
   . rw [if_neg c0] at hE
     subst hE
     have hfin:Part w D B f n S R d (.returned (.bool false)) W2:=by
      by_cases c2:v1'=2
      . subst c2
        refine ⟨false,x2,_,R2,rfl,hWW,HSt.out.trans (.one HOk.out.how (by rw [HST2.out]; simp [onNx]; rfl)), ?_⟩
        rw [if_neg (by decide)]
        left
        simp [nxK,Wk.fails]
      . refine ⟨false,x2,_,R2,rfl,hWW, ?_, ?_⟩
        . simp only [nxK,if_neg c0,if_neg c2]
          exact HSt.out
        . rw [if_neg (by decide)]
          right
          simp only [nxK,if_neg c0,if_neg c2]
          show step S.inn S.nm f n (k.turn 8)=none
          rw [HST2.out]
          simp [onNx,c0,c2]
     have HFIN:=hide' hfin
     clear hfin hWW
     go_wp2_with fail
     simp only [jumps2]
     exact bodyPost_ret (v := .bool false) (by simp [results,Tryd.results34,go_sem]) rfl HFIN.out
end
section
variable {w:World} {D B n:Nat} {f:Nat -> Nat} {S:St} {R:Raw} {d:Nat}
theorem comment_any (h:SC w D B f n S R) (hy:Rdy w B n f S R d) (ok:Ok S.nm S.fed S.k) (hst:S.k.st=4 \/ S.k.st=5 \/ S.k.st=6) (hCR:CRs) :
 Calls Tryd.prog 33 #[.pointer (some ⟨D,0,none⟩)] w (Part w D B f n S R d):=by
 have c8:=h.c8
 have hst0:Went w D B f n S R d w S.k S.fed R:=by
  have e:Stt S S.fed S.k=S:=by
   have q1:=hy.q
   have q2:=hy.e
   unfold Stt
   cases S
   simp only at q1 q2
   subst q1 q2
   rfl
  exact ⟨by rw [e]; exact h,To.refl _ _ _,by rw [e]; exact hy,fun k => by have:=ok.how; omega,rfl⟩
 have HST:=hide' hst0
 have OK:=hide' ok
 have HCR:=hide' hCR
 clear h hy hst0 ok hCR
 obtain ⟨Jw,hJw⟩ : ∃ Jw:Nat -> World -> Prop,Jw=fun st w' => ∃ x k R',Went w D B f n S R d w' k x R' /\ Steps S.inn S.nm f n S.k (k.turn st) /\ Ok S.nm x (k.turn st) /\ S.k.ps <= k.ps:=⟨_,rfl⟩
 have HJ:=hide' hJw
 clear hJw
 go_enter Tryd.func33,Tryd.ntmps33
 go_wp2
 refine (fun p2 => (fun p1 => wp_scope2 0 1 (fun a w' => a.defers = [] /\ a.tmps.size=58 /\ a.tmps[0]? = some (.pointer (some ⟨D,0,none⟩)) /\ Jw 5 w') (fun a w' => a.defers = [] /\ a.tmps.size=58 /\ a.tmps[0]? = some (.pointer (some ⟨D,0,none⟩)) /\ Jw 6 w') (fun _ w' => n - psOf w' D) (fun _ w' => n - psOf w' D) (by decide) (by decide) rfl rfl ?_ p1 p2) ?_) ?_
 . rcases hst with e | e | e
   . have HP1:=hide' p1
     clear p1 p2
     rw [e] at c8
     have hW1:=HST.out
     have hOk:=OK.out
     have hSt:Steps S.inn S.nm f n S.k S.k := .refl _
     have cN:=next_any hW1.sc hW1.rdy hOk.how 6 [45] (fun _ => HCR.out _ _ (by simp) (pk_scal _ _ _))
     have hsg:sgn [45] = [45]:=rfl
     rw [hsg] at cN
     obtain ⟨v,hv⟩ : ∃ v,nx f n (S.k).ps (6:Nat) [45]=v:=⟨_,rfl⟩
     have hst2:step S.inn S.nm f n (S.k)=onNx v (S.k) fun _ s => s.turn 5:=by
      rw [<- hv]
      unfold step; rw [e]; rfl
     have hv':nx f n (Stt S S.fed (S.k)).k.ps ((6:Nat) : Int) [45]=v:=hv
     rw [hv'] at cN
     have HPOS:Hid (v.1=0 -> 0 < v.2.2):=fun e => by rw [<- hv] at e ⊢; exact nx_pos e
     have HONE:Hid (v.1=0 -> v.2.1 < 128 -> v.2.1 ≠ 10 -> v.2.2=1):=fun e1 e2 e3 => by rw [<- hv] at e1 e2 e3 ⊢; exact nx_one e1 e2 e3
     have HSC:Hid (v.1=0 -> Rn.scal v.2.1):=fun e => by rw [<- hv] at e ⊢; exact nx_scal e
     have HW1:=hide' hW1
     have HSt:=hide' hSt
     have HOk:=hide' hOk
     have HST2:=hide' hst2
     have CN:=hide' cN
     clear hW1 hSt hOk hv hv' hst2 hsg cN
     clear e
     go_wp2_with fail
     refine CN.out.mono ?_
     rintro e W2 ⟨hE,x2,R2,hW2,hx2⟩
     have hWW:=HW1.out.trans hW2
     obtain ⟨v1',v2',v3'⟩:=v
     unfold NxE at hE
     simp only at hE hx2
     clear CN hW2 
     have hc0:v1'=0 \/ v1' ≠ 0:=by omega
     rcases hc0 with c0 | c0
     . subst c0
       rw [if_pos rfl] at hE
       subst hE
       have hk1:nxK (0,v2',v3') (Stt S S.fed (S.k)).k=(S.k).took v3':=by simp [nxK]; rfl
       rw [hk1] at hWW
       have hpos:0 < v3':=HPOS.out rfl
       have o2:S.k.text.length <= 4 * S.k.ps:=HOk.out.text
       have o3:S.k.tag.length <= 4 * S.k.ps:=HOk.out.tag
       have o4:S.k.attr.length <= 4 * S.k.ps:=HOk.out.attr
       have o5:S.k.val.length <= 4 * S.k.ps:=HOk.out.val
       have o6:S.k.ref.length <= S.k.ps:=HOk.out.ref
       have o7:S.k.ct <= S.k.ps:=HOk.out.ct
       have o8:S.k.attrs.length <= S.k.ps:=HOk.out.attrs
       have hbig:=HW1.out.rdy.big
       have hstep2:=HST2.out
       simp only [onNx,if_true] at hstep2
       have hle:S.k.ps + v3' <= n:=Nat.le_trans hWW.rdy.qe hWW.rdy.fn
       have hok:Ok S.nm x2 ((S.k.took v3').turn 5):=by
        refine ⟨HOk.out.how, ?_, ?_, ?_, ?_, ?_, ?_, ?_, ?_, ?_, ?_, ?_, ?_, ?_⟩
        all_goals (simp only [Wk.took,Wk.turn])
        all_goals omega
       have hj:Jw 5 W2:=by
        rw [HJ.out]
        exact ⟨x2,_,R2,hWW,HSt.out.trans (.one HOk.out.how hstep2),hok,by show S.k.ps <= S.k.ps + v3'; omega⟩
       have HJJ:=hide' hj
       clear hj hok hstep2 hWW
       go_wp2_with fail
       refine wp_label ?_
       rename_i hK
       refine hK _ _ ?_
       exact wp_mono (HP1.out _ _ ⟨rfl,rfl,rfl,HJJ.out⟩) (jumps2_mono (fun _ _ h => h.1) (fun _ _ h => h.1))
     . rw [if_neg c0] at hE
       subst hE
       have hfin:Part w D B f n S R d (.returned (.bool false)) W2:=by
        by_cases c2:v1'=2
        . subst c2
          refine ⟨false,x2,_,R2,rfl,hWW,HSt.out.trans (.one HOk.out.how (by rw [HST2.out]; simp [onNx]; rfl)), ?_⟩
          rw [if_neg (by decide)]
          left
          simp [nxK,Wk.fails]
        . refine ⟨false,x2,_,R2,rfl,hWW, ?_, ?_⟩
          . simp only [nxK,if_neg c0,if_neg c2]
            exact HSt.out
          . rw [if_neg (by decide)]
            right
            simp only [nxK,if_neg c0,if_neg c2]
            show step S.inn S.nm f n (S.k)=none
            rw [HST2.out]
            simp [onNx,c0,c2]
       have HFIN:=hide' hfin
       clear hfin hWW
       go_wp2_with fail
       simp only [jumps2]
       exact bodyPost_ret (v := .bool false) (by simp [results,Tryd.results33,go_sem]) rfl HFIN.out
   . have hj:Jw 5 w:=by
      rw [HJ.out]
      have e0:S.k.turn 5=S.k:=by unfold Wk.turn; rw [<- e]
      exact ⟨S.fed,S.k,R,HST.out,by rw [e0]; exact .refl _,by rw [e0]; exact OK.out,Nat.le_refl _⟩
     rw [e] at c8
     have HJJ:=hide' hj
     clear hj e p1 p2
     go_wp2
     go_step3
     exact .inl ⟨rfl,rfl,rfl,rfl,HJJ.out⟩
   . have hj:Jw 6 w:=by
      rw [HJ.out]
      have e0:S.k.turn 6=S.k:=by unfold Wk.turn; rw [<- e]
      exact ⟨S.fed,S.k,R,HST.out,by rw [e0]; exact .refl _,by rw [e0]; exact OK.out,Nat.le_refl _⟩
     rw [e] at c8
     have HJJ:=hide' hj
     clear hj e p1 p2
     go_wp2
     go_step3
     exact .inr ⟨rfl,rfl,rfl,rfl,HJJ.out⟩
 . rintro ⟨tm,df⟩ W ⟨q1,q2,q3,hJ⟩
   simp only at q1 q2 q3
   subst q1
   revert q3
   revert tm
   refine frame58 ?_
   intro v0 v1 v2 v3 v4 v5 v6 v7 v8 v9 v10 v11 v12 v13 v14 v15 v16 v17 v18 v19 v20 v21 v22 v23 v24 v25 v26 v27 v28 v29 v30 v31 v32 v33 v34 v35 v36 v37 v38 v39 v40 v41 v42 v43 v44 v45 v46 v47 v48 v49 v50 v51 v52 v53 v54 v55 v56 v57 q3
   have q4:v0 = .pointer (some ⟨D,0,none⟩):=by simpa using q3
   subst q4
   clear q3
   rw [HJ.out] at hJ
   obtain ⟨x,k,R1,hW,hSt,hOk,hps⟩:=hJ
   have HPSW:Hid (psOf W D=k.ps):=psOf_eq hW.sc.c16
   have d8:=hW.sc.c8
   have g8:=hW.sc.fz 8
   have hW1:=hW.put (hW.sc.put 8 (.int .i64 5) (Stt S x (k.turn 5)) rfl ⟨rfl,rfl,rfl,rfl,rfl,rfl,rfl,rfl⟩) ((To.refl _ _ _).setCell 8 _ rfl) rfl hOk.how rfl rfl
   clear hW
   have cN:=next_any hW1.sc hW1.rdy hOk.how 0 [] (fun _ => HCR.out _ _ (by simp) (pk_scal _ _ _))
   have hsg:sgn [] = []:=rfl
   rw [hsg] at cN
   obtain ⟨v,hv⟩ : ∃ v,nx f n (k.turn 5).ps (0:Nat) []=v:=⟨_,rfl⟩
   have hst2:step S.inn S.nm f n (k.turn 5)=onNx v (k.turn 5) fun r s => if (s.tally r 45).ct < 2 then s.tally r 45 else (s.tally r 45).turn 6:=by
    rw [<- hv]
    rfl
   have hv':nx f n (Stt S x (k.turn 5)).k.ps ((0:Nat) : Int) []=v:=hv
   rw [hv'] at cN
   have HPOS:Hid (v.1=0 -> 0 < v.2.2):=fun e => by rw [<- hv] at e ⊢; exact nx_pos e
   have HONE:Hid (v.1=0 -> v.2.1 < 128 -> v.2.1 ≠ 10 -> v.2.2=1):=fun e1 e2 e3 => by rw [<- hv] at e1 e2 e3 ⊢; exact nx_one e1 e2 e3
   have HSC:Hid (v.1=0 -> Rn.scal v.2.1):=fun e => by rw [<- hv] at e ⊢; exact nx_scal e
   have HW1:=hide' hW1
   have HSt:=hide' hSt
   have HOk:=hide' hOk
   have HST2:=hide' hst2
   have CN:=hide' cN
   clear hW1 hSt hOk hv hv' hst2 hsg cN
   go_wp2_with fail
   refine CN.out.mono ?_
   rintro e W2 ⟨hE,x2,R2,hW2,hx2⟩
   have hWW:=HW1.out.trans hW2
   obtain ⟨v1',v2',v3'⟩:=v
   unfold NxE at hE
   simp only at hE hx2
   clear CN hW2 d8 g8
   have hc0:v1'=0 \/ v1' ≠ 0:=by omega
   rcases hc0 with c0 | c0
   . subst c0
     rw [if_pos rfl] at hE
     subst hE
     have hk1:nxK (0,v2',v3') (Stt S x (k.turn 5)).k=(k.turn 5).took v3':=by simp [nxK]; rfl
     rw [hk1] at hWW
     have hpos:0 < v3':=HPOS.out rfl
     have o2:k.text.length <= 4 * k.ps:=HOk.out.text
     have o3:k.tag.length <= 4 * k.ps:=HOk.out.tag
     have o4:k.attr.length <= 4 * k.ps:=HOk.out.attr
     have o5:k.val.length <= 4 * k.ps:=HOk.out.val
     have o6:k.ref.length <= k.ps:=HOk.out.ref
     have o7:k.ct <= k.ps:=HOk.out.ct
     have o8:k.attrs.length <= k.ps:=HOk.out.attrs
     have hbig:=HW1.out.rdy.big
     have hstep2:=HST2.out
     simp only [onNx,if_true] at hstep2
     have hle:k.ps + v3' <= n:=Nat.le_trans hWW.rdy.qe hWW.rdy.fn
     have cT:=tally_any hWW.sc v2' 45 (by show k.ct + 1 < _; omega)
     have HWW:=hide' hWW
     have HCT:=hide' cT
     have HP2:=hide' p2
     clear hWW cT p2
     go_wp2_with fail
     refine HCT.out.mono ?_
     rintro e W3 ⟨rfl,hS3,hTo3⟩
     have hWc:=HWW.out.put (k2:=((k.turn 5).took v3').tally v2' 45) hS3 hTo3 rfl HOk.out.how rfl rfl
     have d20:=hWc.sc.c20
     dsimp only [Stt] at d20
     have hps3:psOf W3 D=k.ps + v3':=psOf_eq hWc.sc.c16
     have hmu:n - psOf W3 D < n - psOf W D:=by rw [hps3,HPSW.out]; omega
     by_cases hct:(((k.turn 5).took v3').tally v2' 45).ct < 2
     . rw [if_pos hct] at hstep2
       have hok:Ok S.nm x2 ((((k.turn 5).took v3').tally v2' 45).turn 5):=by
        refine ⟨HOk.out.how, ?_, ?_, ?_, ?_, ?_, ?_, ?_, ?_, ?_, ?_, ?_, ?_, ?_⟩
        all_goals (simp only [Wk.took,Wk.turn,Wk.tally])
        all_goals (first | omega | (split <;> omega))
       have hj:Jw 5 W3:=by
        rw [HJ.out]
        exact ⟨x2,_,R2,hWc,HSt.out.trans (.one HOk.out.how hstep2),hok,by show S.k.ps <= k.ps + v3'; omega⟩
       have i20:(((((k.turn 5).took v3').tally v2' 45).ct:Nat) : Int) < 2:=by omega
       have HJJ:=hide' hj
       have HMU:=hide' hmu
       generalize (((k.turn 5).took v3').tally v2' 45).ct=C at *
       clear hj hWc hS3 hTo3 HCT hok hstep2 hmu hps3
       go_wp2_with fail
       go_step3
       exact .inl ⟨rfl,⟨rfl,rfl,rfl,HJJ.out⟩,HMU.out⟩
     . rw [if_neg hct] at hstep2
       have hok:Ok S.nm x2 ((((k.turn 5).took v3').tally v2' 45).turn 6):=by
        refine ⟨HOk.out.how, ?_, ?_, ?_, ?_, ?_, ?_, ?_, ?_, ?_, ?_, ?_, ?_, ?_⟩
        all_goals (simp only [Wk.took,Wk.turn,Wk.tally])
        all_goals (first | omega | (split <;> omega))
       have hj:Jw 6 W3:=by
        rw [HJ.out]
        exact ⟨x2,_,R2,hWc,HSt.out.trans (.one HOk.out.how hstep2),hok,by show S.k.ps <= k.ps + v3'; omega⟩
       have i20 : ¬ (((((k.turn 5).took v3').tally v2' 45).ct:Nat) : Int) < 2:=by omega
       have HJJ:=hide' hj
       have HMU:=hide' hmu
       generalize (((k.turn 5).took v3').tally v2' 45).ct=C at *
       clear hj hWc hS3 hTo3 HCT hok hstep2 hmu hps3
       go_wp2_with fail
       refine wp_label ?_
       rename_i hK
       refine hK _ _ ?_
       exact wp_mono (HP2.out _ _ ⟨rfl,rfl,rfl,HJJ.out⟩) (jumps2_mono (fun _ _ h => ⟨h.1,Nat.lt_trans h.2 HMU.out⟩) (fun _ _ h => ⟨h.1,Nat.lt_trans h.2 HMU.out⟩))
   . rw [if_neg c0] at hE
     subst hE
     have hfin:Part w D B f n S R d (.returned (.bool false)) W2:=by
      by_cases c2:v1'=2
      . subst c2
        refine ⟨false,x2,_,R2,rfl,hWW,HSt.out.trans (.one HOk.out.how (by rw [HST2.out]; simp [onNx]; rfl)), ?_⟩
        rw [if_neg (by decide)]
        left
        simp [nxK,Wk.fails]
      . refine ⟨false,x2,_,R2,rfl,hWW, ?_, ?_⟩
        . simp only [nxK,if_neg c0,if_neg c2]
          exact HSt.out
        . rw [if_neg (by decide)]
          right
          simp only [nxK,if_neg c0,if_neg c2]
          show step S.inn S.nm f n (k.turn 5)=none
          rw [HST2.out]
          simp [onNx,c0,c2]
     have HFIN:=hide' hfin
     clear hfin hWW
     go_wp2_with fail
     simp only [jumps2]
     exact bodyPost_ret (v := .bool false) (by simp [results,Tryd.results33,go_sem]) rfl HFIN.out
 . rintro ⟨tm,df⟩ W ⟨q1,q2,q3,hJ⟩
   simp only at q1 q2 q3
   subst q1
   revert q3
   revert tm
   refine frame58 ?_
   intro v0 v1 v2 v3 v4 v5 v6 v7 v8 v9 v10 v11 v12 v13 v14 v15 v16 v17 v18 v19 v20 v21 v22 v23 v24 v25 v26 v27 v28 v29 v30 v31 v32 v33 v34 v35 v36 v37 v38 v39 v40 v41 v42 v43 v44 v45 v46 v47 v48 v49 v50 v51 v52 v53 v54 v55 v56 v57 q3
   have q4:v0 = .pointer (some ⟨D,0,none⟩):=by simpa using q3
   subst q4
   clear q3
   rw [HJ.out] at hJ
   obtain ⟨x,k,R1,hW,hSt,hOk,hps⟩:=hJ
   have HPSW:Hid (psOf W D=k.ps):=psOf_eq hW.sc.c16
   have d8:=hW.sc.c8
   have g8:=hW.sc.fz 8
   have hW1:=hW.put (hW.sc.put 8 (.int .i64 6) (Stt S x (k.turn 6)) rfl ⟨rfl,rfl,rfl,rfl,rfl,rfl,rfl,rfl⟩) ((To.refl _ _ _).setCell 8 _ rfl) rfl hOk.how rfl rfl
   clear hW
   have cN:=next_any hW1.sc hW1.rdy hOk.how 6 [62] (fun _ => HCR.out _ _ (by simp) (pk_scal _ _ _))
   have hsg:sgn [62] = [62]:=rfl
   rw [hsg] at cN
   obtain ⟨v,hv⟩ : ∃ v,nx f n (k.turn 6).ps (6:Nat) [62]=v:=⟨_,rfl⟩
   have hst2:step S.inn S.nm f n (k.turn 6)=onNx v (k.turn 6) fun _ s => { s with ct:=0,st:=0 }:=by
    rw [<- hv]
    rfl
   have hv':nx f n (Stt S x (k.turn 6)).k.ps ((6:Nat) : Int) [62]=v:=hv
   rw [hv'] at cN
   have HPOS:Hid (v.1=0 -> 0 < v.2.2):=fun e => by rw [<- hv] at e ⊢; exact nx_pos e
   have HONE:Hid (v.1=0 -> v.2.1 < 128 -> v.2.1 ≠ 10 -> v.2.2=1):=fun e1 e2 e3 => by rw [<- hv] at e1 e2 e3 ⊢; exact nx_one e1 e2 e3
   have HSC:Hid (v.1=0 -> Rn.scal v.2.1):=fun e => by rw [<- hv] at e ⊢; exact nx_scal e
   have HW1:=hide' hW1
   have HSt:=hide' hSt
   have HOk:=hide' hOk
   have HST2:=hide' hst2
   have CN:=hide' cN
   clear hW1 hSt hOk hv hv' hst2 hsg cN
   go_wp2_with fail
   refine CN.out.mono ?_
   rintro e W2 ⟨hE,x2,R2,hW2,hx2⟩
   have hWW:=HW1.out.trans hW2
   obtain ⟨v1',v2',v3'⟩:=v
   unfold NxE at hE
   simp only at hE hx2
   clear CN hW2 d8 g8
   have hc0:v1'=0 \/ v1' ≠ 0:=by omega
   rcases hc0 with c0 | c0
   . subst c0
     rw [if_pos rfl] at hE
     subst hE
     have hk1:nxK (0,v2',v3') (Stt S x (k.turn 6)).k=(k.turn 6).took v3':=by simp [nxK]; rfl
     rw [hk1] at hWW
     have hpos:0 < v3':=HPOS.out rfl
     have o2:k.text.length <= 4 * k.ps:=HOk.out.text
     have o3:k.tag.length <= 4 * k.ps:=HOk.out.tag
     have o4:k.attr.length <= 4 * k.ps:=HOk.out.attr
     have o5:k.val.length <= 4 * k.ps:=HOk.out.val
     have o6:k.ref.length <= k.ps:=HOk.out.ref
     have o7:k.ct <= k.ps:=HOk.out.ct
     have o8:k.attrs.length <= k.ps:=HOk.out.attrs
     have hbig:=HW1.out.rdy.big
     have hstep2:=HST2.out
     simp only [onNx,if_true] at hstep2
     have hle:k.ps + v3' <= n:=Nat.le_trans hWW.rdy.qe hWW.rdy.fn
     have d20:=hWW.sc.c20
     have g20:=hWW.sc.fz 20
     have hWa:=hWW.put (k2 := { (k.turn 6).took v3' with ct:=0 }) (hWW.sc.put 20 (.int .i64 0) _ rfl ⟨rfl,rfl,rfl,rfl,rfl,rfl,rfl,rfl⟩) ((To.refl _ _ _).setCell 20 _ rfl) rfl HOk.out.how rfl rfl
     have cT:=turn_any hWa.sc 0
     have HWa:=hide' hWa
     have HCT:=hide' cT
     have HS2:=hide' hstep2
     dsimp only [Stt,Wk.took,Wk.turn] at d20
     clear hWW hWa cT hstep2
     go_wp2_with fail
     refine HCT.out.mono ?_
     rintro e W3 ⟨rfl,hS3,hTo3⟩
     have hWc:=HWa.out.put (k2 := { (k.turn 6).took v3' with ct:=0,st:=0 }) hS3 hTo3 rfl HOk.out.how rfl rfl
     have hfin:Part w D B f n S R d (.returned (.bool true)) W3:=by
      refine ⟨true,x2,_,R2,rfl,hWc,HSt.out.trans (.one HOk.out.how HS2.out), ?_⟩
      rw [if_pos rfl]
      refine ⟨?_, ?_⟩
      . refine ⟨HOk.out.how, ?_, ?_, ?_, ?_, ?_, ?_, ?_, ?_, ?_, ?_, ?_, ?_, ?_⟩
        all_goals (simp only [Wk.took,Wk.turn])
        all_goals omega
      . show S.k.ps < k.ps + v3'
        omega
     have HFIN:=hide' hfin
     clear hfin hWc hS3 hTo3 HCT HWa
     go_wp2_with fail
     simp only [jumps2]
     exact bodyPost_ret (v := .bool true) (by simp [results,Tryd.results33,go_sem]) rfl HFIN.out
   . rw [if_neg c0] at hE
     subst hE
     have hfin:Part w D B f n S R d (.returned (.bool false)) W2:=by
      by_cases c2:v1'=2
      . subst c2
        refine ⟨false,x2,_,R2,rfl,hWW,HSt.out.trans (.one HOk.out.how (by rw [HST2.out]; simp [onNx]; rfl)), ?_⟩
        rw [if_neg (by decide)]
        left
        simp [nxK,Wk.fails]
      . refine ⟨false,x2,_,R2,rfl,hWW, ?_, ?_⟩
        . simp only [nxK,if_neg c0,if_neg c2]
          exact HSt.out
        . rw [if_neg (by decide)]
          right
          simp only [nxK,if_neg c0,if_neg c2]
          show step S.inn S.nm f n (k.turn 6)=none
          rw [HST2.out]
          simp [onNx,c0,c2]
     have HFIN:=hide' hfin
     clear hfin hWW
     go_wp2_with fail
     simp only [jumps2]
     exact bodyPost_ret (v := .bool false) (by simp [results,Tryd.results33,go_sem]) rfl HFIN.out
end
theorem onNx_st {x:Nat × Nat × Nat} {s t:Wk} {k:Nat -> Wk -> Wk} (h:onNx x s k=some t) (hs:s.st <= 19) (hk : ∀ r s',s'.st=s.st -> (k r s').st <= 19) : t.st <= 19:=by
 unfold onNx at h
 split at h
 . cases h
   exact hk _ _ rfl
 . split at h
   . cases h
     exact hs
   . cases h
theorem onRef_st {f:Nat -> Nat} {n:Nat} {s t:Wk} {k:Nat -> Wk -> Wk} (h:onRef f n s k=some t) (hs:s.st <= 19) (hk : ∀ r s',s'.st=s.st -> (k r s').st <= 19) : t.st <= 19:=by
 unfold onRef at h
 split at h
 . cases h
 . split at h
   . cases h
     exact hs
   . split at h
     . cases h
       exact hk _ _ rfl
     . cases h
       exact hs
theorem step_st {inn:Nat} {nm:List UInt8} {f:Nat -> Nat} {n:Nat} {s t:Wk} (h:step inn nm f n s=some t) (hs:s.st <= 19) : t.st <= 19:=by
 unfold step at h
 split at h
 case h_2 => exact onRef_st h hs fun r s' e => by simp
 case h_18 => exact onRef_st h hs fun r s' e => by simp
 case h_14 =>
  split at h
  . cases h; exact hs
  . refine onNx_st h hs fun r s' e => ?_
    repeat' split
    all_goals first | (simp [Wk.turn]; done) | (show s'.st <= 19; omega)
 case h_19 =>
  split at h
  . cases h; simp [Wk.turn]
  . split at h
    . cases h
    . split at h <;> (cases h; exact hs)
 all_goals
  refine onNx_st h hs fun r s' e => ?_
  try repeat' split
  all_goals first | (simp [Wk.turn]; done) | (show s'.st <= 19; omega)
theorem Steps.st {inn:Nat} {nm:List UInt8} {f:Nat -> Nat} {n:Nat} {s t:Wk} (h:Steps inn nm f n s t) (hs:s.st <= 19) : t.st <= 19:=by
 induction h with
 | refl => exact hs
 | cons h0 h r ih => exact ih (step_st h hs)
section
variable {w:World} {D B n:Nat} {f:Nat -> Nat} {S:St} {R:Raw} {d:Nat}
def GoInv (w:World) (D B:Nat) (f:Nat -> Nat) (n:Nat) (S:St) (R:Raw) (d:Nat) (on:Value) (wr:World) : Prop :=
 (on = .bool true /\ ∃ x k R',Went w D B f n S R d wr k x R' /\ Steps S.inn S.nm f n S.k k /\ Ok S.nm x k /\ k.st <= 19) \/
 (on = .bool false /\ ∃ x k R',Wend w D B f n S R d wr k x R' /\ Steps S.inn S.nm f n S.k k /\ Ends S.inn S.nm f n k)
def goMu (D n:Nat) (on:Value) (wr:World) : Nat:=match on with | .bool true => n - psOf wr D + 1 | _ => 0
theorem Wend.after {w1 w2:World} {k1 k2:Wk} {x1 x2:Nat} {R1 R2:Raw} (h:Went w D B f n S R d w1 k1 x1 R1) (g:Wend w1 D B f n (Stt S x1 k1) R1 d w2 k2 x2 R2) : Wend w D B f n S R d w2 k2 x2 R2 :=
 ⟨g.sc,h.go.trans g.go,g.tb,g.bw,g.fp,g.psn,g.bad,g.rest.trans h.rest,g.more⟩
theorem part_on {wr W2:World} {x:Nat} {k:Wk} {Rr:Raw} {ev:Ending} (hW:Went w D B f n S R d wr k x Rr) (hSt:Steps S.inn S.nm f n S.k k) (_hOk:Ok S.nm x k) (h19:k.st <= 19) (hps:psOf wr D=k.ps) (h:Part wr D B f n (Stt S x k) Rr d ev W2) :
 (ev = .returned (.bool true) /\ GoInv w D B f n S R d (.bool true) W2 /\ goMu D n (.bool true) W2 < goMu D n (.bool true) wr) \/ (ev = .returned (.bool false) /\ GoInv w D B f n S R d (.bool false) W2 /\ True):=by
 obtain ⟨on,x2,k2,R2,rfl,hW2,hS2,hif⟩:=h
 cases on with
 | true =>
   rw [if_pos rfl] at hif
   left
   refine ⟨rfl, .inl ⟨rfl,x2,k2,R2,hW.trans hW2,hSt.trans hS2,hif.1,hS2.st h19⟩, ?_⟩
   have e2:psOf W2 D=k2.ps:=psOf_eq hW2.sc.c16
   have h1:k2.ps <= n:=Nat.le_trans hW2.rdy.qe hW2.rdy.fn
   have h2:k.ps < k2.ps:=hif.2
   simp only [goMu,e2,hps]
   omega
 | false =>
   rw [if_neg (by decide)] at hif
   right
   exact ⟨rfl, .inr ⟨rfl,x2,k2,R2,(hW.trans hW2).toEnd,hSt.trans hS2,hif⟩,trivial⟩
theorem end_on {wr W2:World} {x:Nat} {k:Wk} {Rr:Raw} {ev:Ending} (hW:Went w D B f n S R d wr k x Rr) (hSt:Steps S.inn S.nm f n S.k k) (h:EndE wr D B f n (Stt S x k) Rr d ev W2) :
 ev = .returned (.bool false) /\ GoInv w D B f n S R d (.bool false) W2:=by
 obtain ⟨x2,k2,R2,rfl,hW2,hS2,hE⟩:=h
 exact ⟨rfl, .inr ⟨rfl,x2,k2,R2,hW2.after hW,hSt.trans hS2,hE⟩⟩
theorem goOn_any (h:SC w D B f n S R) (hy:Rdy w B n f S R d) (ok:Ok S.nm S.fed S.k) (h19:S.k.st <= 19) (hin:S.inn <= 2) (hnm:S.nm.length <= 70368744177664) (hCR:CRs) (hTW:Twices) (hAD:Adds) :
 Calls Tryd.prog 22 #[.pointer (some ⟨D,0,none⟩)] w fun e w' => e = .returned (.tuple #[]) /\ ∃ x k R',Wend w D B f n S R d w' k x R' /\ Steps S.inn S.nm f n S.k k /\ Ends S.inn S.nm f n k:=by
 have hst0:Went w D B f n S R d w S.k S.fed R:=by
  have e:Stt S S.fed S.k=S:=by
   have q1:=hy.q
   have q2:=hy.e
   unfold Stt
   cases S
   simp only at q1 q2
   subst q1 q2
   rfl
  exact ⟨by rw [e]; exact h,To.refl _ _ _,by rw [e]; exact hy,fun k => by have:=ok.how; omega,rfl⟩
 have HST:Hid (GoInv w D B f n S R d (.bool true) w) := .inl ⟨rfl,S.fed,S.k,R,hst0, .refl _,ok,h19⟩
 have HCR:=hide' hCR
 have HTW:=hide' hTW
 have HAD:=hide' hAD
 have HIN:=hide' hin
 have HNM:=hide' hnm
 obtain ⟨Inv,hInv⟩ : ∃ Inv:Value -> World -> Prop,Inv=GoInv w D B f n S R d:=⟨_,rfl⟩
 have HINV:=hide' hInv
 clear hInv h hy ok h19 hin hnm hCR hTW hAD hst0
 go_enter Tryd.func22,Tryd.ntmps22
 go_wp2_with fail
 go_loopw [2] (fun on wr => Inv on wr) (fun on wr => goMu D n on wr)
 case atStart => rw [HINV.out]; exact HST.out
 case round =>
  rw [HINV.out] at hrel
  rcases hrel with ⟨rfl,x,k,Rr,hW,hSt,hOk,h19⟩ | ⟨rfl,x,k,Rr,hW,hSt,hE⟩
  . have d8:=hW.sc.c8
    have hcs:k.st=0 \/ k.st=1 \/ k.st=2 \/ k.st=3 \/ k.st=4 \/ k.st=5 \/ k.st=6 \/ k.st=7 \/ k.st=8 \/ k.st=9 \/ k.st=10 \/ k.st=11 \/ k.st=12 \/ k.st=13 \/ k.st=14 \/ k.st=15 \/ k.st=16 \/ k.st=17 \/ k.st=18 \/ k.st=19:=by omega
    rcases hcs with e | e | e | e | e | e | e | e | e | e | e | e | e | e | e | e | e | e | e | e
    . have cP:=content_any hW.sc hW.rdy hOk (.inl e) HCR.out
      rw [show (Stt S x k).k.st=0 from e] at d8
      have CP:=hide' cP
      have HW:=hide' hW
      have HSt:=hide' hSt
      have HOk:=hide' hOk
      have HPSW:Hid (psOf wr D=k.ps):=psOf_eq hW.sc.c16
      have HST19:=hide' h19
      clear cP hW hSt hOk e h19
      go_wp2_with fail
      refine CP.out.mono ?_
      rintro ev W2 hP
      have hR:=part_on HW.out HSt.out HOk.out HST19.out HPSW.out hP
      clear hP CP
      rcases hR with ⟨rfl,hI,hM⟩ | ⟨rfl,hI,hM⟩
      . have HI:=hide' hI
        have HM:=hide' hM
        clear hI hM
        go_wp2_with fail
        go_roundw
        case rel => rw [HINV.out]; exact HI.out
        case measure => exact HM.out
      . have HI:=hide' hI
        clear hI hM
        go_wp2_with fail
        go_roundw
        case rel => rw [HINV.out]; exact HI.out
        case measure => simp [goMu]
    . have cP:=content_any hW.sc hW.rdy hOk (.inr e) HCR.out
      rw [show (Stt S x k).k.st=1 from e] at d8
      have CP:=hide' cP
      have HW:=hide' hW
      have HSt:=hide' hSt
      have HOk:=hide' hOk
      have HPSW:Hid (psOf wr D=k.ps):=psOf_eq hW.sc.c16
      have HST19:=hide' h19
      clear cP hW hSt hOk e h19
      go_wp2_with fail
      refine CP.out.mono ?_
      rintro ev W2 hP
      have hR:=part_on HW.out HSt.out HOk.out HST19.out HPSW.out hP
      clear hP CP
      rcases hR with ⟨rfl,hI,hM⟩ | ⟨rfl,hI,hM⟩
      . have HI:=hide' hI
        have HM:=hide' hM
        clear hI hM
        go_wp2_with fail
        go_roundw
        case rel => rw [HINV.out]; exact HI.out
        case measure => exact HM.out
      . have HI:=hide' hI
        clear hI hM
        go_wp2_with fail
        go_roundw
        case rel => rw [HINV.out]; exact HI.out
        case measure => simp [goMu]
    . have cP:=sign_any hW.sc hW.rdy hOk (.inl e) HIN.out HCR.out
      rw [show (Stt S x k).k.st=2 from e] at d8
      have CP:=hide' cP
      have HW:=hide' hW
      have HSt:=hide' hSt
      have HOk:=hide' hOk
      have HPSW:Hid (psOf wr D=k.ps):=psOf_eq hW.sc.c16
      have HST19:=hide' h19
      clear cP hW hSt hOk e h19
      go_wp2_with fail
      refine CP.out.mono ?_
      rintro ev W2 hP
      have hR:=part_on HW.out HSt.out HOk.out HST19.out HPSW.out hP
      clear hP CP
      rcases hR with ⟨rfl,hI,hM⟩ | ⟨rfl,hI,hM⟩
      . have HI:=hide' hI
        have HM:=hide' hM
        clear hI hM
        go_wp2_with fail
        go_roundw
        case rel => rw [HINV.out]; exact HI.out
        case measure => exact HM.out
      . have HI:=hide' hI
        clear hI hM
        go_wp2_with fail
        go_roundw
        case rel => rw [HINV.out]; exact HI.out
        case measure => simp [goMu]
    . have cP:=sign_any hW.sc hW.rdy hOk (.inr e) HIN.out HCR.out
      rw [show (Stt S x k).k.st=3 from e] at d8
      have CP:=hide' cP
      have HW:=hide' hW
      have HSt:=hide' hSt
      have HOk:=hide' hOk
      have HPSW:Hid (psOf wr D=k.ps):=psOf_eq hW.sc.c16
      have HST19:=hide' h19
      clear cP hW hSt hOk e h19
      go_wp2_with fail
      refine CP.out.mono ?_
      rintro ev W2 hP
      have hR:=part_on HW.out HSt.out HOk.out HST19.out HPSW.out hP
      clear hP CP
      rcases hR with ⟨rfl,hI,hM⟩ | ⟨rfl,hI,hM⟩
      . have HI:=hide' hI
        have HM:=hide' hM
        clear hI hM
        go_wp2_with fail
        go_roundw
        case rel => rw [HINV.out]; exact HI.out
        case measure => exact HM.out
      . have HI:=hide' hI
        clear hI hM
        go_wp2_with fail
        go_roundw
        case rel => rw [HINV.out]; exact HI.out
        case measure => simp [goMu]
    . have cP:=comment_any hW.sc hW.rdy hOk (.inl e) HCR.out
      rw [show (Stt S x k).k.st=4 from e] at d8
      have CP:=hide' cP
      have HW:=hide' hW
      have HSt:=hide' hSt
      have HOk:=hide' hOk
      have HPSW:Hid (psOf wr D=k.ps):=psOf_eq hW.sc.c16
      have HST19:=hide' h19
      clear cP hW hSt hOk e h19
      go_wp2_with fail
      refine CP.out.mono ?_
      rintro ev W2 hP
      have hR:=part_on HW.out HSt.out HOk.out HST19.out HPSW.out hP
      clear hP CP
      rcases hR with ⟨rfl,hI,hM⟩ | ⟨rfl,hI,hM⟩
      . have HI:=hide' hI
        have HM:=hide' hM
        clear hI hM
        go_wp2_with fail
        go_roundw
        case rel => rw [HINV.out]; exact HI.out
        case measure => exact HM.out
      . have HI:=hide' hI
        clear hI hM
        go_wp2_with fail
        go_roundw
        case rel => rw [HINV.out]; exact HI.out
        case measure => simp [goMu]
    . have cP:=comment_any hW.sc hW.rdy hOk (.inr (.inl e)) HCR.out
      rw [show (Stt S x k).k.st=5 from e] at d8
      have CP:=hide' cP
      have HW:=hide' hW
      have HSt:=hide' hSt
      have HOk:=hide' hOk
      have HPSW:Hid (psOf wr D=k.ps):=psOf_eq hW.sc.c16
      have HST19:=hide' h19
      clear cP hW hSt hOk e h19
      go_wp2_with fail
      refine CP.out.mono ?_
      rintro ev W2 hP
      have hR:=part_on HW.out HSt.out HOk.out HST19.out HPSW.out hP
      clear hP CP
      rcases hR with ⟨rfl,hI,hM⟩ | ⟨rfl,hI,hM⟩
      . have HI:=hide' hI
        have HM:=hide' hM
        clear hI hM
        go_wp2_with fail
        go_roundw
        case rel => rw [HINV.out]; exact HI.out
        case measure => exact HM.out
      . have HI:=hide' hI
        clear hI hM
        go_wp2_with fail
        go_roundw
        case rel => rw [HINV.out]; exact HI.out
        case measure => simp [goMu]
    . have cP:=comment_any hW.sc hW.rdy hOk (.inr (.inr e)) HCR.out
      rw [show (Stt S x k).k.st=6 from e] at d8
      have CP:=hide' cP
      have HW:=hide' hW
      have HSt:=hide' hSt
      have HOk:=hide' hOk
      have HPSW:Hid (psOf wr D=k.ps):=psOf_eq hW.sc.c16
      have HST19:=hide' h19
      clear cP hW hSt hOk e h19
      go_wp2_with fail
      refine CP.out.mono ?_
      rintro ev W2 hP
      have hR:=part_on HW.out HSt.out HOk.out HST19.out HPSW.out hP
      clear hP CP
      rcases hR with ⟨rfl,hI,hM⟩ | ⟨rfl,hI,hM⟩
      . have HI:=hide' hI
        have HM:=hide' hM
        clear hI hM
        go_wp2_with fail
        go_roundw
        case rel => rw [HINV.out]; exact HI.out
        case measure => exact HM.out
      . have HI:=hide' hI
        clear hI hM
        go_wp2_with fail
        go_roundw
        case rel => rw [HINV.out]; exact HI.out
        case measure => simp [goMu]
    . have cP:=cdata_any hW.sc hW.rdy hOk (.inl e) HCR.out
      rw [show (Stt S x k).k.st=7 from e] at d8
      have CP:=hide' cP
      have HW:=hide' hW
      have HSt:=hide' hSt
      have HOk:=hide' hOk
      have HPSW:Hid (psOf wr D=k.ps):=psOf_eq hW.sc.c16
      have HST19:=hide' h19
      clear cP hW hSt hOk e h19
      go_wp2_with fail
      refine CP.out.mono ?_
      rintro ev W2 hP
      have hR:=part_on HW.out HSt.out HOk.out HST19.out HPSW.out hP
      clear hP CP
      rcases hR with ⟨rfl,hI,hM⟩ | ⟨rfl,hI,hM⟩
      . have HI:=hide' hI
        have HM:=hide' hM
        clear hI hM
        go_wp2_with fail
        go_roundw
        case rel => rw [HINV.out]; exact HI.out
        case measure => exact HM.out
      . have HI:=hide' hI
        clear hI hM
        go_wp2_with fail
        go_roundw
        case rel => rw [HINV.out]; exact HI.out
        case measure => simp [goMu]
    . have cP:=cdata_any hW.sc hW.rdy hOk (.inr e) HCR.out
      rw [show (Stt S x k).k.st=8 from e] at d8
      have CP:=hide' cP
      have HW:=hide' hW
      have HSt:=hide' hSt
      have HOk:=hide' hOk
      have HPSW:Hid (psOf wr D=k.ps):=psOf_eq hW.sc.c16
      have HST19:=hide' h19
      clear cP hW hSt hOk e h19
      go_wp2_with fail
      refine CP.out.mono ?_
      rintro ev W2 hP
      have hR:=part_on HW.out HSt.out HOk.out HST19.out HPSW.out hP
      clear hP CP
      rcases hR with ⟨rfl,hI,hM⟩ | ⟨rfl,hI,hM⟩
      . have HI:=hide' hI
        have HM:=hide' hM
        clear hI hM
        go_wp2_with fail
        go_roundw
        case rel => rw [HINV.out]; exact HI.out
        case measure => exact HM.out
      . have HI:=hide' hI
        clear hI hM
        go_wp2_with fail
        go_roundw
        case rel => rw [HINV.out]; exact HI.out
        case measure => simp [goMu]
    . have cP:=startTag_any hW.sc hW.rdy hOk (.inl e) HCR.out
      rw [show (Stt S x k).k.st=9 from e] at d8
      have CP:=hide' cP
      have HW:=hide' hW
      have HSt:=hide' hSt
      have HOk:=hide' hOk
      have HPSW:Hid (psOf wr D=k.ps):=psOf_eq hW.sc.c16
      have HST19:=hide' h19
      clear cP hW hSt hOk e h19
      go_wp2_with fail
      refine CP.out.mono ?_
      rintro ev W2 hP
      have hR:=part_on HW.out HSt.out HOk.out HST19.out HPSW.out hP
      clear hP CP
      rcases hR with ⟨rfl,hI,hM⟩ | ⟨rfl,hI,hM⟩
      . have HI:=hide' hI
        have HM:=hide' hM
        clear hI hM
        go_wp2_with fail
        go_roundw
        case rel => rw [HINV.out]; exact HI.out
        case measure => exact HM.out
      . have HI:=hide' hI
        clear hI hM
        go_wp2_with fail
        go_roundw
        case rel => rw [HINV.out]; exact HI.out
        case measure => simp [goMu]
    . have cP:=startTag_any hW.sc hW.rdy hOk (.inr (.inl e)) HCR.out
      rw [show (Stt S x k).k.st=10 from e] at d8
      have CP:=hide' cP
      have HW:=hide' hW
      have HSt:=hide' hSt
      have HOk:=hide' hOk
      have HPSW:Hid (psOf wr D=k.ps):=psOf_eq hW.sc.c16
      have HST19:=hide' h19
      clear cP hW hSt hOk e h19
      go_wp2_with fail
      refine CP.out.mono ?_
      rintro ev W2 hP
      have hR:=part_on HW.out HSt.out HOk.out HST19.out HPSW.out hP
      clear hP CP
      rcases hR with ⟨rfl,hI,hM⟩ | ⟨rfl,hI,hM⟩
      . have HI:=hide' hI
        have HM:=hide' hM
        clear hI hM
        go_wp2_with fail
        go_roundw
        case rel => rw [HINV.out]; exact HI.out
        case measure => exact HM.out
      . have HI:=hide' hI
        clear hI hM
        go_wp2_with fail
        go_roundw
        case rel => rw [HINV.out]; exact HI.out
        case measure => simp [goMu]
    . have cP:=startTag_any hW.sc hW.rdy hOk (.inr (.inr (.inl e))) HCR.out
      rw [show (Stt S x k).k.st=11 from e] at d8
      have CP:=hide' cP
      have HW:=hide' hW
      have HSt:=hide' hSt
      have HOk:=hide' hOk
      have HPSW:Hid (psOf wr D=k.ps):=psOf_eq hW.sc.c16
      have HST19:=hide' h19
      clear cP hW hSt hOk e h19
      go_wp2_with fail
      refine CP.out.mono ?_
      rintro ev W2 hP
      have hR:=part_on HW.out HSt.out HOk.out HST19.out HPSW.out hP
      clear hP CP
      rcases hR with ⟨rfl,hI,hM⟩ | ⟨rfl,hI,hM⟩
      . have HI:=hide' hI
        have HM:=hide' hM
        clear hI hM
        go_wp2_with fail
        go_roundw
        case rel => rw [HINV.out]; exact HI.out
        case measure => exact HM.out
      . have HI:=hide' hI
        clear hI hM
        go_wp2_with fail
        go_roundw
        case rel => rw [HINV.out]; exact HI.out
        case measure => simp [goMu]
    . have cP:=startTag_any hW.sc hW.rdy hOk (.inr (.inr (.inr e))) HCR.out
      rw [show (Stt S x k).k.st=12 from e] at d8
      have CP:=hide' cP
      have HW:=hide' hW
      have HSt:=hide' hSt
      have HOk:=hide' hOk
      have HPSW:Hid (psOf wr D=k.ps):=psOf_eq hW.sc.c16
      have HST19:=hide' h19
      clear cP hW hSt hOk e h19
      go_wp2_with fail
      refine CP.out.mono ?_
      rintro ev W2 hP
      have hR:=part_on HW.out HSt.out HOk.out HST19.out HPSW.out hP
      clear hP CP
      rcases hR with ⟨rfl,hI,hM⟩ | ⟨rfl,hI,hM⟩
      . have HI:=hide' hI
        have HM:=hide' hM
        clear hI hM
        go_wp2_with fail
        go_roundw
        case rel => rw [HINV.out]; exact HI.out
        case measure => exact HM.out
      . have HI:=hide' hI
        clear hI hM
        go_wp2_with fail
        go_roundw
        case rel => rw [HINV.out]; exact HI.out
        case measure => simp [goMu]
    . have cP:=attribute_any hW.sc hW.rdy hOk (.inl e) HCR.out HTW.out
      rw [show (Stt S x k).k.st=13 from e] at d8
      have CP:=hide' cP
      have HW:=hide' hW
      have HSt:=hide' hSt
      have HOk:=hide' hOk
      have HPSW:Hid (psOf wr D=k.ps):=psOf_eq hW.sc.c16
      have HST19:=hide' h19
      clear cP hW hSt hOk e h19
      go_wp2_with fail
      refine CP.out.mono ?_
      rintro ev W2 hP
      have hR:=part_on HW.out HSt.out HOk.out HST19.out HPSW.out hP
      clear hP CP
      rcases hR with ⟨rfl,hI,hM⟩ | ⟨rfl,hI,hM⟩
      . have HI:=hide' hI
        have HM:=hide' hM
        clear hI hM
        go_wp2_with fail
        go_roundw
        case rel => rw [HINV.out]; exact HI.out
        case measure => exact HM.out
      . have HI:=hide' hI
        clear hI hM
        go_wp2_with fail
        go_roundw
        case rel => rw [HINV.out]; exact HI.out
        case measure => simp [goMu]
    . have cP:=attribute_any hW.sc hW.rdy hOk (.inr (.inl e)) HCR.out HTW.out
      rw [show (Stt S x k).k.st=14 from e] at d8
      have CP:=hide' cP
      have HW:=hide' hW
      have HSt:=hide' hSt
      have HOk:=hide' hOk
      have HPSW:Hid (psOf wr D=k.ps):=psOf_eq hW.sc.c16
      have HST19:=hide' h19
      clear cP hW hSt hOk e h19
      go_wp2_with fail
      refine CP.out.mono ?_
      rintro ev W2 hP
      have hR:=part_on HW.out HSt.out HOk.out HST19.out HPSW.out hP
      clear hP CP
      rcases hR with ⟨rfl,hI,hM⟩ | ⟨rfl,hI,hM⟩
      . have HI:=hide' hI
        have HM:=hide' hM
        clear hI hM
        go_wp2_with fail
        go_roundw
        case rel => rw [HINV.out]; exact HI.out
        case measure => exact HM.out
      . have HI:=hide' hI
        clear hI hM
        go_wp2_with fail
        go_roundw
        case rel => rw [HINV.out]; exact HI.out
        case measure => simp [goMu]
    . have cP:=attribute_any hW.sc hW.rdy hOk (.inr (.inr e)) HCR.out HTW.out
      rw [show (Stt S x k).k.st=15 from e] at d8
      have CP:=hide' cP
      have HW:=hide' hW
      have HSt:=hide' hSt
      have HOk:=hide' hOk
      have HPSW:Hid (psOf wr D=k.ps):=psOf_eq hW.sc.c16
      have HST19:=hide' h19
      clear cP hW hSt hOk e h19
      go_wp2_with fail
      refine CP.out.mono ?_
      rintro ev W2 hP
      have hR:=part_on HW.out HSt.out HOk.out HST19.out HPSW.out hP
      clear hP CP
      rcases hR with ⟨rfl,hI,hM⟩ | ⟨rfl,hI,hM⟩
      . have HI:=hide' hI
        have HM:=hide' hM
        clear hI hM
        go_wp2_with fail
        go_roundw
        case rel => rw [HINV.out]; exact HI.out
        case measure => exact HM.out
      . have HI:=hide' hI
        clear hI hM
        go_wp2_with fail
        go_roundw
        case rel => rw [HINV.out]; exact HI.out
        case measure => simp [goMu]
    . have cP:=quoted_any hW.sc hW.rdy hOk (.inl e) HCR.out HAD.out
      rw [show (Stt S x k).k.st=16 from e] at d8
      have CP:=hide' cP
      have HW:=hide' hW
      have HSt:=hide' hSt
      have HOk:=hide' hOk
      have HPSW:Hid (psOf wr D=k.ps):=psOf_eq hW.sc.c16
      have HST19:=hide' h19
      clear cP hW hSt hOk e h19
      go_wp2_with fail
      refine CP.out.mono ?_
      rintro ev W2 hP
      have hR:=part_on HW.out HSt.out HOk.out HST19.out HPSW.out hP
      clear hP CP
      rcases hR with ⟨rfl,hI,hM⟩ | ⟨rfl,hI,hM⟩
      . have HI:=hide' hI
        have HM:=hide' hM
        clear hI hM
        go_wp2_with fail
        go_roundw
        case rel => rw [HINV.out]; exact HI.out
        case measure => exact HM.out
      . have HI:=hide' hI
        clear hI hM
        go_wp2_with fail
        go_roundw
        case rel => rw [HINV.out]; exact HI.out
        case measure => simp [goMu]
    . have cP:=quoted_any hW.sc hW.rdy hOk (.inr e) HCR.out HAD.out
      rw [show (Stt S x k).k.st=17 from e] at d8
      have CP:=hide' cP
      have HW:=hide' hW
      have HSt:=hide' hSt
      have HOk:=hide' hOk
      have HPSW:Hid (psOf wr D=k.ps):=psOf_eq hW.sc.c16
      have HST19:=hide' h19
      clear cP hW hSt hOk e h19
      go_wp2_with fail
      refine CP.out.mono ?_
      rintro ev W2 hP
      have hR:=part_on HW.out HSt.out HOk.out HST19.out HPSW.out hP
      clear hP CP
      rcases hR with ⟨rfl,hI,hM⟩ | ⟨rfl,hI,hM⟩
      . have HI:=hide' hI
        have HM:=hide' hM
        clear hI hM
        go_wp2_with fail
        go_roundw
        case rel => rw [HINV.out]; exact HI.out
        case measure => exact HM.out
      . have HI:=hide' hI
        clear hI hM
        go_wp2_with fail
        go_roundw
        case rel => rw [HINV.out]; exact HI.out
        case measure => simp [goMu]
    . have cP:=endTag_any hW.sc hW.rdy hOk (.inl e) HCR.out HNM.out
      rw [show (Stt S x k).k.st=18 from e] at d8
      have CP:=hide' cP
      have HW:=hide' hW
      have HSt:=hide' hSt
      clear cP hW hSt hOk e h19
      go_wp2_with fail
      refine CP.out.mono ?_
      rintro ev W2 hP
      obtain ⟨rfl,hI⟩:=end_on HW.out HSt.out hP
      clear hP CP
      have HI:=hide' hI
      clear hI
      go_wp2_with fail
      go_roundw
      case rel => rw [HINV.out]; exact HI.out
      case measure => simp [goMu]
    . have cP:=endTag_any hW.sc hW.rdy hOk (.inr e) HCR.out HNM.out
      rw [show (Stt S x k).k.st=19 from e] at d8
      have CP:=hide' cP
      have HW:=hide' hW
      have HSt:=hide' hSt
      clear cP hW hSt hOk e h19
      go_wp2_with fail
      refine CP.out.mono ?_
      rintro ev W2 hP
      obtain ⟨rfl,hI⟩:=end_on HW.out HSt.out hP
      clear hP CP
      have HI:=hide' hI
      clear hI
      go_wp2_with fail
      go_roundw
      case rel => rw [HINV.out]; exact HI.out
      case measure => simp [goMu]
  . have HF:Hid (∃ x k R',Wend w D B f n S R d wr k x R' /\ Steps S.inn S.nm f n S.k k /\ Ends S.inn S.nm f n k):=⟨x,k,Rr,hW,hSt,hE⟩
    clear hW hSt hE
    go_wp2_with fail
    first | go_end0 | (simp only [Exit.inBlock,Exit.then]; refine bodyPost_ret (results_none rfl _ _ _) rfl ?_) | refine bodyPost_ret (results_none rfl _ _ _) rfl ?_
    exact ⟨rfl,HF.out⟩
end
end Sc
end Go.Proofs.YteiiepjegdlbeaaDoor
