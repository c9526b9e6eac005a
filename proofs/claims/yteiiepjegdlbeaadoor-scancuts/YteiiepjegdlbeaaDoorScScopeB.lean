import Derived.Test.YteiiepjegdlbeaaDoorScRefMath
import Derived.WalkMore
set_option maxHeartbeats 4000000
set_option maxRecDepth 10000
namespace Go.Proofs.YteiiepjegdlbeaaDoor
open Go.RowKit Go.Lib
namespace Sc
theorem nx_pos {f:Nat -> Nat} {n a:Nat} {c:Int} {sg:List Nat} (h:(nx f n a c sg).1=0) : 0 < (nx f n a c sg).2.2:=by
 unfold nx at h ⊢
 split at h
 . next hc =>
   rw [if_pos hc]
   cases hp:Fd.pk f n a false with
   | mk r y => cases y with
     | mk a0 z => cases z with
       | mk wd m =>
         rw [hp] at hc
         obtain rfl:m=0:=hc.1
         exact (Fd.pk_have hp).2.1
 . split at h
   . cases h
   . split at h <;> cases h
theorem nx_scal {f:Nat -> Nat} {n a:Nat} {c:Int} {sg:List Nat} (h:(nx f n a c sg).1=0) : Rn.scal (nx f n a c sg).2.1:=by
 unfold nx at h ⊢
 split at h
 . next hc =>
   rw [if_pos hc]
   exact pk_scal _ _ _
 . split at h
   . cases h
   . split at h <;> cases h
section
variable {w:World} {D B n:Nat} {f:Nat -> Nat} {S:St} {R:Raw} {d:Nat}
theorem content_any (h:SC w D B f n S R) (hy:Rdy w B n f S R d) (ok:Ok S.nm S.fed S.k) (hst:S.k.st=0 \/ S.k.st=1) (hCR:CRs) :
 Calls Tryd.prog 31 #[.pointer (some ⟨D,0,none⟩)] w (Part w D B f n S R d):=by
 have c8:=h.c8
 have hst0:Went w D B f n S R d w S.k S.fed R:=by
  have e:Stt S S.fed S.k=S:=by
   have q1:=hy.q
   have q2:=hy.e
   unfold Stt
   cases S
   simp only at q1 q2
   subst q1 q2
   rfl
  exact ⟨by rw [e]; exact h,To.refl _ _ _,by rw [e]; exact hy,fun k => by have:=ok.how; omega,rfl⟩
 have HST:=hide' hst0
 have OK:=hide' ok
 have hCR':=hCR
 have HCR:=hide' hCR'
 clear h hy hst0 ok hCR hCR'
 obtain ⟨Jw,hJw⟩ : ∃ Jw:Nat -> World -> Prop,Jw=fun st w' => ∃ x k R',Went w D B f n S R d w' k x R' /\ Steps S.inn S.nm f n S.k (k.turn st) /\ Ok S.nm x (k.turn st) /\ S.k.ps <= k.ps:=⟨_,rfl⟩
 have HJ:=hide' hJw
 clear hJw
 go_enter Tryd.func31,Tryd.ntmps31
 go_wp2
 refine (fun p1 p2 => wp_scope2 1 0 (fun a w' => a.defers = [] /\ a.tmps.size=117 /\ a.tmps[0]? = some (.pointer (some ⟨D,0,none⟩)) /\ Jw 0 w') (fun a w' => a.defers = [] /\ a.tmps.size=117 /\ a.tmps[0]? = some (.pointer (some ⟨D,0,none⟩)) /\ Jw 1 w') (fun _ w' => n - psOf w' D) (fun _ w' => n - psOf w' D) (by decide) (by decide) rfl rfl ?_ p1 p2) ?_ ?_
 . rcases hst with e | e
   . have hj:Jw 0 w:=by
      rw [HJ.out]
      have e0:S.k.turn 0=S.k:=by unfold Wk.turn; rw [<- e]
      exact ⟨S.fed,S.k,R,HST.out,by rw [e0]; exact .refl _,by rw [e0]; exact OK.out,Nat.le_refl _⟩
     rw [e] at c8
     have HJJ:=hide' hj
     have HP1:=hide' p1
     clear hj e p1 p2
     go_wp2
     refine wp_label ?_
     rename_i hK
     refine hK _ _ ?_
     exact wp_mono (HP1.out _ _ ⟨rfl,rfl,rfl,HJJ.out⟩) (jumps2_mono (fun _ _ h => h.1) (fun _ _ h => h.1))
   . have hj:Jw 1 w:=by
      rw [HJ.out]
      have e0:S.k.turn 1=S.k:=by unfold Wk.turn; rw [<- e]
      exact ⟨S.fed,S.k,R,HST.out,by rw [e0]; exact .refl _,by rw [e0]; exact OK.out,Nat.le_refl _⟩
     rw [e] at c8
     have HJJ:=hide' hj
     clear hj e p1 p2
     go_wp2
     go_step3
     exact .inr ⟨rfl,rfl,rfl,rfl,HJJ.out⟩
 . rintro ⟨tm, df⟩ W ⟨q1, q2, q3, hJ⟩
   simp only at q1 q2 q3
   subst q1
   revert q3
   revert tm
   refine frame117 ?_
   intro v0 v1 v2 v3 v4 v5 v6 v7 v8 v9 v10 v11 v12 v13 v14 v15 v16 v17 v18 v19 v20 v21 v22 v23 v24 v25 v26 v27 v28 v29 v30 v31 v32 v33 v34 v35 v36 v37 v38 v39 v40 v41 v42 v43 v44 v45 v46 v47 v48 v49 v50 v51 v52 v53 v54 v55 v56 v57 v58 v59 v60 v61 v62 v63 v64 v65 v66 v67 v68 v69 v70 v71 v72 v73 v74 v75 v76 v77 v78 v79 v80 v81 v82 v83 v84 v85 v86 v87 v88 v89 v90 v91 v92 v93 v94 v95 v96 v97 v98 v99 v100 v101 v102 v103 v104 v105 v106 v107 v108 v109 v110 v111 v112 v113 v114 v115 v116 q3
   have q4:v0 = .pointer (some ⟨D,0,none⟩):=by simpa using q3
   subst q4
   clear q3
   rw [HJ.out] at hJ
   obtain ⟨x,k,R1,hW,hSt,hOk,hps⟩:=hJ
   have d8:=hW.sc.c8
   have g8:=hW.sc.fz 8
   have hW1:=hW.put (hW.sc.put 8 (.int .i64 0) (Stt S x (k.turn 0)) rfl ⟨rfl,rfl,rfl,rfl,rfl,rfl,rfl,rfl⟩) ((To.refl _ _ _).setCell 8 _ rfl) rfl hOk.how rfl rfl
   have cC:=class_any hW1.sc
   have cN:=next_any hW1.sc hW1.rdy hOk.how (if S.inn=1 then 0 else 1) [60] (fun _ => HCR.out _ _ (by simp) (pk_scal _ _ _))
   obtain ⟨cls,hcls⟩ : ∃ cls,(if S.inn=1 then 0 else 1:Nat)=cls:=⟨_,rfl⟩
   rw [hcls] at cN
   have cC':Calls Tryd.prog 47 #[.pointer (some ⟨D,0,none⟩)] (W.setCell ⟨D,8,none⟩ (.int .i64 0)) fun e w' => e = .returned (.int .i64 (cls:Int)) /\ w'=W.setCell ⟨D,8,none⟩ (.int .i64 0):=by rw [<- hcls]; exact cC
   clear cC
   have hsg:sgn [60] = [60]:=rfl
   rw [hsg] at cN
   have hstep : ∀ v,nx f n k.ps (cls:Int) [60]=v -> step S.inn S.nm f n (k.turn 0)=onNx v (k.turn 0) fun r s =>
    if r=60 then { s with tg:=s.fr,ct:=0,st:=2 } else if S.inn ≠ 1 then s else if r=38 then { s with ref := [38],st:=1 } else if r=62 /\ 2 <= s.ct then s.fails s.fr else (s.add r s.fr).tally r 93:=by
    intro v hv
    rw [<- hv, <- hcls]
    unfold step
    simp only [Wk.turn]
    by_cases e:S.inn=1 <;> simp [e]
   obtain ⟨v,hv⟩ : ∃ v,nx f n k.ps (cls:Int) [60]=v:=⟨_,rfl⟩
   have HPOS:Hid (v.1=0 -> 0 < v.2.2):=fun e => by rw [<- hv] at e ⊢; exact nx_pos e
   have HONE:Hid (v.1=0 -> v.2.1 < 128 -> v.2.1 ≠ 10 -> v.2.2=1):=fun e1 e2 e3 => by rw [<- hv] at e1 e2 e3 ⊢; exact nx_one e1 e2 e3
   have HSC:Hid (v.1=0 -> Rn.scal v.2.1):=fun e => by rw [<- hv] at e ⊢; exact nx_scal e
   have HPSW:Hid (psOf W D=k.ps):=psOf_eq hW.sc.c16
   have hst2:=hstep v hv
   have hv':nx f n (Stt S x (k.turn 0)).k.ps (cls:Int) [60]=v:=hv
   rw [hv'] at cN
   have HW1:=hide' hW1
   have HSt:=hide' hSt
   have HOk:=hide' hOk
   have HST2:=hide' hst2
   have c9:=hW1.sc.c6
   have CN:=hide' cN
   have CC:=hide' cC'
   clear hW hW1 hSt hOk hstep hv hv' hst2 hsg cN cC' c9 hcls
   go_wp2_with fail
   refine CC.out.mono ?_
   rintro e w1 ⟨rfl,rfl⟩
   clear CC d8 g8
   go_wp2_with fail
   refine CN.out.mono ?_
   rintro e W2 ⟨hE,x2,R2,hW2,hx2⟩
   have hWW:=HW1.out.trans hW2
   obtain ⟨v1',v2',v3'⟩:=v
   unfold NxE at hE
   simp only at hE hx2
   clear CN hW2
   have hc0:v1'=0 \/ v1' ≠ 0:=by omega
   rcases hc0 with c0 | c0
   . subst c0
     rw [if_pos rfl] at hE
     subst hE
     have hk1:nxK (0,v2',v3') (Stt S x (k.turn 0)).k=(k.turn 0).took v3':=by simp [nxK]; rfl
     rw [hk1] at hWW
     have hpos:0 < v3':=HPOS.out rfl
     have o2:k.text.length <= 4 * k.ps:=HOk.out.text
     have o3:k.tag.length <= 4 * k.ps:=HOk.out.tag
     have o4:k.attr.length <= 4 * k.ps:=HOk.out.attr
     have o5:k.val.length <= 4 * k.ps:=HOk.out.val
     have o6:k.ref.length <= k.ps:=HOk.out.ref
     have o7:k.ct <= k.ps:=HOk.out.ct
     have o8:k.attrs.length <= k.ps:=HOk.out.attrs
     have hbig:=HW1.out.rdy.big
     have hstep2:=HST2.out
     simp only [onNx,if_true] at hstep2
     have hle:k.ps + v3' <= n:=Nat.le_trans hWW.rdy.qe hWW.rdy.fn
     have hJc : ∀ (W':World) (k':Wk) (x':Nat) (R':Raw) (st:Nat),Went w D B f n S R d W' k' x' R' -> step S.inn S.nm f n (k.turn 0)=some (k'.turn st) -> Ok S.nm x' (k'.turn st) -> k'.ps=k.ps + v3' -> Jw st W' /\ n - psOf W' D < n - psOf W D:=by
      intro W' k' x' R' st g1 g2 g3 g4
      refine ⟨?_, ?_⟩
      . rw [HJ.out]
        exact ⟨x',k',R',g1,HSt.out.trans (.one HOk.out.how g2),g3,by omega⟩
      . rw [psOf_eq g1.sc.c16,HPSW.out]
        show n - k'.ps < n - k.ps
        omega
     have HJC:=hide' hJc
     clear hJc
     by_cases r60:v2'=60
     . subst r60
       have h1w:v3'=1:=HONE.out rfl (show (60:Nat) < 128 by decide) (show (60:Nat) ≠ 10 by decide)
       simp only [if_true] at hstep2
       have HS2:=hide' hstep2
       have d17:=hWW.sc.c17
       have d22:=hWW.sc.c22
       have g22:=hWW.sc.fz 22
       have d20:=hWW.sc.c20
       have g20:=hWW.sc.fz 20
       have hWa:=hWW.put (k2 := { (k.turn 0).took v3' with tg:=((k.turn 0).took v3').fr }) (hWW.sc.put 22 (.int .i64 (((k.turn 0).took v3').fr:Nat)) _ rfl ⟨rfl,rfl,rfl,rfl,rfl,rfl,rfl,rfl⟩) ((To.refl _ _ _).setCell 22 _ rfl) rfl HOk.out.how rfl rfl
       have hWb:=hWa.put (k2 := { (k.turn 0).took v3' with tg:=((k.turn 0).took v3').fr,ct:=0 }) (hWa.sc.put 20 (.int .i64 0) _ rfl ⟨rfl,rfl,rfl,rfl,rfl,rfl,rfl,rfl⟩) ((To.refl _ _ _).setCell 20 _ rfl) rfl HOk.out.how rfl rfl
       have cT:=turn_any hWb.sc 2
       have HWb:=hide' hWb
       clear hWW hWa hWb hstep2
       dsimp only [Stt,Wk.took,Wk.turn] at d17 d22 d20 cT
       have HCT:=hide' cT
       clear cT
       go_wp2_with fail
       refine HCT.out.mono ?_
       rintro e W3 ⟨rfl,hS3,hTo3⟩
       have hWc:=HWb.out.put (k2 := { (k.turn 0).took v3' with tg:=((k.turn 0).took v3').fr,ct:=0,st:=2 }) hS3 hTo3 rfl HOk.out.how rfl rfl
       have hfin:Part w D B f n S R d (.returned (.bool true)) W3:=by
        refine ⟨true,x2,_,R2,rfl,hWc,HSt.out.trans (.one HOk.out.how HS2.out), ?_⟩
        rw [if_pos rfl]
        refine ⟨⟨HOk.out.how, ?_, ?_, ?_, ?_, ?_, ?_, ?_, ?_, ?_, ?_, ?_, ?_, ?_⟩, ?_⟩
        all_goals first | (simp only [Wk.took,Wk.turn]; omega) | exact fun _ => rfl
       have HFIN:=hide' hfin
       clear hfin hWc hS3 hTo3 HCT HWb
       go_wp2_with fail
       simp only [jumps2]
       exact bodyPost_ret (v := .bool true) (by simp [results,Tryd.results31,go_sem]) rfl HFIN.out
     . rw [if_neg r60] at hstep2
       have i60:((v2':Int) == 60)=false:=by simp; omega
       have d6:=hWW.sc.c6
       by_cases hin:S.inn=1
       . rw [if_neg (by simpa using hin)] at hstep2
         have d6':W2.cell? ⟨D,6,none⟩ = some (.int .i64 1):=by
          rw [d6]
          show some (Value.int .i64 (S.inn:Int))=_
          rw [hin]
          rfl
         by_cases r38:v2'=38
         . subst r38
           simp only [if_true] at hstep2
           have hx:x2=k.ps + v3':=hx2 rfl (by omega)
           obtain ⟨i0,hi,hz0,hz1,hz2⟩:=info_parts scByte
           obtain ⟨pr,cr,hrow0,hcr,hgr,hz⟩ : ∃ pr cr,R2.ref = .slice pr k.ref.length cr /\ k.ref.length <= cr /\ W2.ownsRow B 5 1 (.slice pr 0 cr) 0 [] /\ (Value.slice pr 0 cr).ownBlock=R2.ref.ownBlock:=by
            rcases hWW.sc.ref.2 with ⟨e1,e2⟩ | ⟨g,cap,cur,hv,hb,hg,h1,h2,h3,h4⟩
            . have e3:k.ref.length=0:=e2
              exact ⟨none,0,by rw [e1,e3],by omega,World.ownsRow_nil _ _ _ _,by rw [e1]⟩
            . exact ⟨some ⟨g,0,none⟩,cap,hv,h1,⟨by simp, .inr ⟨g,cap,cur,rfl,hb,hg,Nat.zero_le _,h2,h3,by simp⟩⟩,by rw [hv]; rfl⟩
           have d21:=hWW.sc.c21
           rw [hrow0] at d21
           have i1:(0:Int) <= cr:=by omega
           have HWW:=hide' hWW
           have HS2:=hide' hstep2
           have HGR:=hide' hgr
           have HZ:=hide' hz
           have HR0:=hide' hrow0
           have hBW:=hWW.rdy.bw
           clear hWW hstep2 d6 hrow0 hgr hz hx2
           go_wp2_with (at_builtin; refine wpList_append_own_at _ rfl _ _ 22 rfl B 5 i0 (.int .u8 0) 1 1 Tryd.underlying22 hi hz0 hz1 hz2 rfl (by decide) (.slice pr 0 cr) 0 [] rfl (HGR.out.alloc _) ⟨W2.heap.size,0,none⟩ 1 1 [.int .u8 38] rfl rfl ?c1 ?c2 ?c3 ?c4 ?c5 ?_)
           case c1 => exact cell_one_new _ _ _
           case c2 => intro u hu; simp at hu; subst hu; rfl
           case c3 => unfold maxLen; omega
           case c4 => omega
           case c5 => simp; omega
           intro v' w3 hown3 hgrow3 _ hat3
           obtain ⟨pa',m',cap',rfl⟩:=own_shape3 hown3
           have hs3:=hgrow3.size
           simp at hs3
           have hgw:Grew W2 R2.ref w3 (.slice pa' m' cap'):=by
            refine ⟨hgrow3.os,hgrow3.tape,hgrow3.output,by omega,fun i hi hn => ?_, ?_⟩
            . rw [<- HZ.out] at hn
              exact (hgrow3.block i (by simp; omega) fun e => hn e.symm).trans (((Below.refl W2.heap.size W2).alloc (Nat.le_refl _) _).block i hi)
            . rw [<- HZ.out]
              rcases hat3 with e | e
              . exact .inl e
              . right
                intro q hq
                rw [hq] at e
                cases e
                simp
           have hrow:RowB w3 B (.slice pa' m' cap') [38]:=hown3
           have hS3:=HWW.out.sc.ref' hgw hrow
           have hW3:=HWW.out.put (k2 := { (k.turn 0).took v3' with ref := [38] }) hS3 (To.ref' hgw) rfl HOk.out.how rfl rfl
           have hneD:R2.ref.ownBlock ≠ some D:=fun e => by have:=HWW.out.sc.apart 0 5 D rfl (by rw [<- e]; rfl); omega
           have hD3:=hgw.block D HWW.out.sc.lt0 hneD
           have e21:w3.cell? ⟨D,21,none⟩ = some (.slice pr k.ref.length cr):=(World.cell?_of_block (a:=⟨D,21,none⟩) hD3).trans d21
           have g21:w3.frozen? ⟨D,21,none⟩ = false:=(World.frozen?_of_block (a:=⟨D,21,none⟩) hD3).trans (HWW.out.sc.fz 21)
           have hj:=HJC.out _ _ x2 _ 1 hW3 HS2.out (by
            refine ⟨HOk.out.how, ?_, ?_, ?_, ?_, ?_, ?_, ?_, ?_, ?_, ?_, ?_, ?_, ?_⟩
            all_goals (simp only [Wk.took,Wk.turn,List.length_cons,List.length_nil])
            all_goals omega) rfl
           have HJJ:=hide' hj
           clear hj hW3 hS3 hrow hgw hown3 hgrow3 hat3 hD3 hneD d21
           go_wp2_with fail
           go_step3
           exact .inr ⟨rfl,⟨rfl,rfl,rfl,HJJ.out.1⟩,HJJ.out.2⟩
         . rw [if_neg r38] at hstep2
           have i38:((v2':Int) == 38)=false:=by simp; omega
           have d20:=hWW.sc.c20
           have d17:=hWW.sc.c17
           dsimp only [Stt,Wk.took,Wk.turn] at d20 d17
           by_cases r62:v2'=62 /\ 2 <= k.ct
           . rw [if_pos (show v2'=62 /\ 2 <= ((k.turn 0).took v3').ct from r62)] at hstep2
             obtain ⟨r62a,r62b⟩:=r62
             subst r62a
             have i20:(2:Int) <= (k.ct:Int):=by omega
             have cF:=fail_any hWW.sc k.ps HW1.out.rdy.lt (by omega) (by omega) HW1.out.rdy.pl60
             have HCF:=hide' cF
             have HGO:=hide' hWW.go
             have HWW:=hide' hWW
             have HS2:=hide' hstep2
             clear cF hWW hstep2 d6 r62b
             go_wp2_with fail
             refine HCF.out.mono ?_
             rintro e W3 ⟨rfl,hS3,hTo3⟩
             have hfin:Part w D B f n S R d (.returned (.bool false)) W3:=by
              refine ⟨false,x2,((k.turn 0).took v3').fails k.ps,_,rfl,⟨hS3,HGO.out.trans hTo3, ?_,fun _ => rfl,HWW.out.rest⟩,HSt.out.trans (.one HOk.out.how HS2.out), ?_⟩
              . exact ⟨HWW.out.rdy.tb.to (HWW.out.sc.to_below hTo3),Nat.le_trans HWW.out.rdy.bw hTo3.mv.size,HWW.out.rdy.fp,rfl,rfl,HWW.out.rdy.qe,HWW.out.rdy.fn,HWW.out.rdy.mn,HWW.out.rdy.lt,HWW.out.rdy.big,HWW.out.rdy.pl⟩
              . rw [if_neg (by decide)]
                left
                simp [Wk.fails]
             have HFIN:=hide' hfin
             clear hfin hS3 hTo3 HCF
             go_wp2_with fail
             simp only [jumps2]
             exact bodyPost_ret (v := .bool false) (by simp [results,Tryd.results31,go_sem]) rfl HFIN.out
           . rw [if_neg (show ¬ (v2'=62 /\ 2 <= ((k.turn 0).took v3').ct) from r62)] at hstep2
             have hsc:Rn.scal v2':=HSC.out rfl
             have cA:=add_any hWW.sc v2' k.ps hsc (by show k.text.length + 4 <= _; omega) hWW.rdy.bw
             have i62:((v2':Int) == 62)=false \/ (((v2':Int) == 62)=true /\ ¬ (2:Int) <= (k.ct:Int)):=by
              by_cases e:v2'=62
              . right
                refine ⟨by simp; omega,fun h => r62 ⟨e,by omega⟩⟩
              . left
                simp
                omega
             have HCA:=hide' cA
             have HWW:=hide' hWW
             have HS2:=hide' hstep2
             clear cA hWW hstep2 d6 r62
             rcases i62 with i62 | ⟨i62,j62⟩
             all_goals (
              go_wp2_with fail
              refine HCA.out.mono ?_
              rintro e W3 ⟨rfl,R3,hS3,hTo3,hR3⟩
              have hW3:=HWW.out.put (k2:=((k.turn 0).took v3').add v2' k.ps) hS3 hTo3 rfl HOk.out.how (by rw [hR3]) (by rw [hR3])
              have cT:=tally_any hW3.sc v2' 93 (by show k.ct + 1 < _; omega)
              have HCT:=hide' cT
              have HW3:=hide' hW3
              clear cT hW3 hS3 hTo3 hR3
              go_wp2_with fail
              refine HCT.out.mono ?_
              rintro e W4 ⟨rfl,hS4,hTo4⟩
              have hW4:=HW3.out.put (k2:=(((k.turn 0).took v3').add v2' k.ps).tally v2' 93) hS4 hTo4 rfl HOk.out.how rfl rfl
              have hen:=Rn.enc_length (v2':Int)
              have hel:=Rn.el_pos (v2':Int)
              have hj:=HJC.out W4 _ x2 R3 0 hW4 HS2.out (by
               refine ⟨HOk.out.how, ?_, ?_, ?_, ?_, ?_, ?_, ?_, ?_, ?_, ?_, ?_, ?_, ?_⟩
               all_goals (simp only [Wk.took,Wk.turn,Wk.add,Wk.tally,List.length_append])
               all_goals (first | omega | (split <;> omega))) rfl
              have HJJ:=hide' hj
              clear hj hW4 hS4 hTo4 HCT HW3
              go_wp2_with fail
              go_step3
              exact .inl ⟨rfl,⟨rfl,rfl,rfl,HJJ.out.1⟩,HJJ.out.2⟩)
       . rw [if_pos hin] at hstep2
         have hj:=HJC.out W2 _ x2 R2 0 hWW hstep2 (by
          refine ⟨HOk.out.how, ?_, ?_, ?_, ?_, ?_, ?_, ?_, ?_, ?_, ?_, ?_, ?_, ?_⟩
          all_goals (simp only [Wk.took,Wk.turn]; omega)) rfl
         have ii:((S.inn:Int) == 1)=false:=by simp; omega
         have HJJ:=hide' hj
         have d6':W2.cell? ⟨D,6,none⟩ = some (.int .i64 (S.inn:Nat)):=d6
         clear hj hWW hstep2 hin d6
         go_wp2_with fail
         go_step3
         exact .inl ⟨rfl,⟨rfl,rfl,rfl,HJJ.out.1⟩,HJJ.out.2⟩
   . rw [if_neg c0] at hE
     subst hE
     have hfin:Part w D B f n S R d (.returned (.bool false)) W2:=by
      by_cases c2:v1'=2
      . subst c2
        refine ⟨false,x2,_,R2,rfl,hWW,HSt.out.trans (.one HOk.out.how (by rw [HST2.out]; simp [onNx]; rfl)), ?_⟩
        rw [if_neg (by decide)]
        left
        simp [nxK,Wk.fails]
      . refine ⟨false,x2,_,R2,rfl,hWW, ?_, ?_⟩
        . simp only [nxK,if_neg c0,if_neg c2]
          exact HSt.out
        . rw [if_neg (by decide)]
          right
          simp only [nxK,if_neg c0,if_neg c2]
          show step S.inn S.nm f n (k.turn 0)=none
          rw [HST2.out]
          simp [onNx,c0,c2]
     have HFIN:=hide' hfin
     clear hfin hWW
     go_wp2_with fail
     simp only [jumps2]
     exact bodyPost_ret (v := .bool false) (by simp [results,Tryd.results31,go_sem]) rfl HFIN.out
 . rintro ⟨tm,df⟩ W ⟨q1,q2,q3,hJ⟩
   simp only at q1 q2 q3
   subst q1
   revert q3
   revert tm
   refine frame117 ?_
   intro v0 v1 v2 v3 v4 v5 v6 v7 v8 v9 v10 v11 v12 v13 v14 v15 v16 v17 v18 v19 v20 v21 v22 v23 v24 v25 v26 v27 v28 v29 v30 v31 v32 v33 v34 v35 v36 v37 v38 v39 v40 v41 v42 v43 v44 v45 v46 v47 v48 v49 v50 v51 v52 v53 v54 v55 v56 v57 v58 v59 v60 v61 v62 v63 v64 v65 v66 v67 v68 v69 v70 v71 v72 v73 v74 v75 v76 v77 v78 v79 v80 v81 v82 v83 v84 v85 v86 v87 v88 v89 v90 v91 v92 v93 v94 v95 v96 v97 v98 v99 v100 v101 v102 v103 v104 v105 v106 v107 v108 v109 v110 v111 v112 v113 v114 v115 v116 q3
   have q4:v0 = .pointer (some ⟨D,0,none⟩):=by simpa using q3
   subst q4
   clear q3
   rw [HJ.out] at hJ
   obtain ⟨x,k,R1,hW,hSt,hOk,hps⟩:=hJ
   have d8:=hW.sc.c8
   have g8:=hW.sc.fz 8
   have hx:x=k.ps:=hOk.non (.inl rfl)
   subst hx
   have hW1:=hW.put (hW.sc.put 8 (.int .i64 1) (Stt S k.ps (k.turn 1)) rfl ⟨rfl,rfl,rfl,rfl,rfl,rfl,rfl,rfl⟩) ((To.refl _ _ _).setCell 8 _ rfl) rfl hOk.how rfl rfl
   have cR:=refer_any hW1.sc hW1.rdy hOk.how rfl hOk.ref
   have hv:=refRun_steps (inn:=S.inn) (nm:=S.nm) (f:=f) (n:=n) (fun r s => { s.add r s.fr with ct:=0,st:=0 }) 1 (fun k' e => by unfold step; rw [e]; rfl) (n - k.ps) (k.turn 1) rfl hOk.how rfl hOk.ref
   have hkn:k.ps <= n:=Nat.le_trans hW1.rdy.qe hW1.rdy.fn
   obtain ⟨v,hvv⟩ : ∃ v,refRun f n (n - k.ps) (k.turn 1)=v:=⟨_,rfl⟩
   have hvv':refRun f n (n - (Stt S k.ps (k.turn 1)).k.ps) (Stt S k.ps (k.turn 1)).k=v:=hvv
   rw [hvv'] at cR
   rw [hvv] at hv
   have HPSW:Hid (psOf W D=k.ps):=psOf_eq hW.sc.c16
   have HW1:=hide' hW1
   have HSt:=hide' hSt
   have HOk:=hide' hOk
   have HCR2:=hide' cR
   have HV:=hide' hv
   clear hW hW1 hSt hOk cR hv hvv hvv'
   go_wp2_with fail
   refine HCR2.out.mono ?_
   rintro e W2 ⟨hE,R2,hW2⟩
   have hWW:=HW1.out.trans hW2
   obtain ⟨v1',v2',k2⟩:=v
   unfold RfE at hE
   simp only at hE hWW
   obtain ⟨hal,hrl,hpl,hv3⟩:=HV.out
   simp only at hal hrl hpl hv3
   clear HCR2 hW2 d8 g8
   rcases hv3 with ⟨e0,k1,k3,k4,k5,k6⟩ | hno
   . subst e0
     rw [if_pos rfl] at hE
     subst hE
     obtain ⟨a1,a2,a3,a4,a5,a6,a7,a8,a9,a10,a11,a12⟩:=hal
     have o2:k.text.length <= 4 * k.ps:=HOk.out.text
     have o3:k.tag.length <= 4 * k.ps:=HOk.out.tag
     have o4:k.attr.length <= 4 * k.ps:=HOk.out.attr
     have o5:k.val.length <= 4 * k.ps:=HOk.out.val
     have o8:k.attrs.length <= k.ps:=HOk.out.attrs
     have hbig:=HW1.out.rdy.big
     have hk4:k.ps < k2.ps:=k4
     have p2:k2.text.length=k.text.length:=by rw [a3]; rfl
     have p3:k2.tag.length=k.tag.length:=by rw [a8]; rfl
     have p4:k2.attr.length=k.attr.length:=by rw [a10]; rfl
     have p5:k2.val.length=k.val.length:=by rw [a11]; rfl
     have p8:k2.attrs.length=k.attrs.length:=by rw [a9]; rfl
     have d17:=hWW.sc.c17
     dsimp only [Stt] at d17
     have cA:=add_any hWW.sc v2' k2.fr k3 (by show k2.text.length + 4 <= _; omega) hWW.rdy.bw
     have hle:k2.ps <= n:=Nat.le_trans hWW.rdy.qe hWW.rdy.fn
     have HCA:=hide' cA
     have HWW:=hide' hWW
     have HK6:=hide' k6
     have HK1:=hide' k1
     clear cA hWW k6 k1 a1 a2 a3 a4 a5 a6 a7 a8 a9 a10 a11 a12
     go_wp2_with fail
     refine HCA.out.mono ?_
     rintro e W3 ⟨rfl,R3,hS3,hTo3,hR3⟩
     have hW3:=HWW.out.put (k2:=k2.add v2' k2.fr) hS3 hTo3 rfl HK1.out (by rw [hR3]) (by rw [hR3])
     have d20:=hW3.sc.c20
     have g20:=hW3.sc.fz 20
     have hW4:=hW3.put (k2 := { k2.add v2' k2.fr with ct:=0 }) (hW3.sc.put 20 (.int .i64 0) _ rfl ⟨rfl,rfl,rfl,rfl,rfl,rfl,rfl,rfl⟩) ((To.refl _ _ _).setCell 20 _ rfl) rfl HK1.out rfl rfl
     have hen:=Rn.enc_length (v2':Int)
     have hel:=Rn.el_pos (v2':Int)
     have hok:Ok S.nm k2.ps ({ k2.add v2' k2.fr with ct:=0 }.turn 0):=by
      refine ⟨HK1.out, ?_, ?_, ?_, ?_, ?_, ?_, ?_, ?_, ?_, ?_, ?_, ?_, ?_⟩
      all_goals (simp only [Wk.turn,Wk.add,List.length_append])
      all_goals omega
     have hj:Jw 0 (W3.setCell ⟨D,20,none⟩ (.int .i64 0)) /\ n - psOf (W3.setCell ⟨D,20,none⟩ (.int .i64 0)) D < n - psOf W D:=by
      refine ⟨?_, ?_⟩
      . rw [HJ.out]
        exact ⟨k2.ps,_,R3,hW4,HSt.out.trans HK6.out,hok,by show S.k.ps <= k2.ps; omega⟩
      . rw [psOf_eq hW4.sc.c16,HPSW.out]
        show n - k2.ps < n - k.ps
        omega
     have HJJ:=hide' hj
     dsimp only [Stt,Wk.add] at d20
     clear hj hW4 hW3 hS3 hTo3 hR3 hok HCA
     go_wp2_with fail
     go_step3
     exact .inl ⟨rfl,⟨rfl,rfl,rfl,HJJ.out.1⟩,HJJ.out.2⟩
   . have hne:v1' ≠ 0:=by rcases hno with ⟨e,_⟩ | ⟨e,_⟩ <;> omega
     rw [if_neg hne] at hE
     subst hE
     have hfin:Part w D B f n S R d (.returned (.bool false)) W2:=by
      rcases hno with ⟨e,k1,k3⟩ | ⟨e,k1,k3⟩
      . exact ⟨false,k2.ps,k2,R2,rfl,hWW,HSt.out.trans k3,by rw [if_neg (by decide)]; left; omega⟩
      . exact ⟨false,k2.ps,k2,R2,rfl,hWW,HSt.out.trans k1,by rw [if_neg (by decide)]; right; exact k3⟩
     have HFIN:=hide' hfin
     clear hfin hWW
     go_wp2_with fail
     simp only [jumps2]
     exact bodyPost_ret (v := .bool false) (by simp [results,Tryd.results31,go_sem]) rfl HFIN.out
end
end Sc
end Go.Proofs.YteiiepjegdlbeaaDoor
namespace Go.Proofs.YteiiepjegdlbeaaDoor
namespace Sc
theorem frame58 {C:Array Value -> Prop} (h : ∀ u0 u1 u2 u3 u4 u5 u6 u7 u8 u9 u10 u11 u12 u13 u14 u15 u16 u17 u18 u19 u20 u21 u22 u23 u24 u25 u26 u27 u28 u29 u30 u31 u32 u33 u34 u35 u36 u37 u38 u39 u40 u41 u42 u43 u44 u45 u46 u47 u48 u49 u50 u51 u52 u53 u54 u55 u56 u57:Value,C (List.toArray (u0 :: u1 :: u2 :: u3 :: u4 :: u5 :: u6 :: u7 :: u8 :: u9 :: u10 :: u11 :: u12 :: u13 :: u14 :: u15 :: u16 :: u17 :: u18 :: u19 :: u20 :: u21 :: u22 :: u23 :: u24 :: u25 :: u26 :: u27 :: u28 :: u29 :: u30 :: u31 :: u32 :: u33 :: u34 :: u35 :: u36 :: u37 :: u38 :: u39 :: u40 :: u41 :: u42 :: u43 :: u44 :: u45 :: u46 :: u47 :: u48 :: u49 :: u50 :: u51 :: u52 :: u53 :: u54 :: u55 :: u56 :: u57 :: []))) (t:Array Value) (hs:t.size=58) : C t:=cur_all 58 (fun l => C l.toArray) h t.toList hs
theorem frame63 {C:Array Value -> Prop} (h : ∀ u0 u1 u2 u3 u4 u5 u6 u7 u8 u9 u10 u11 u12 u13 u14 u15 u16 u17 u18 u19 u20 u21 u22 u23 u24 u25 u26 u27 u28 u29 u30 u31 u32 u33 u34 u35 u36 u37 u38 u39 u40 u41 u42 u43 u44 u45 u46 u47 u48 u49 u50 u51 u52 u53 u54 u55 u56 u57 u58 u59 u60 u61 u62:Value,C (List.toArray (u0 :: u1 :: u2 :: u3 :: u4 :: u5 :: u6 :: u7 :: u8 :: u9 :: u10 :: u11 :: u12 :: u13 :: u14 :: u15 :: u16 :: u17 :: u18 :: u19 :: u20 :: u21 :: u22 :: u23 :: u24 :: u25 :: u26 :: u27 :: u28 :: u29 :: u30 :: u31 :: u32 :: u33 :: u34 :: u35 :: u36 :: u37 :: u38 :: u39 :: u40 :: u41 :: u42 :: u43 :: u44 :: u45 :: u46 :: u47 :: u48 :: u49 :: u50 :: u51 :: u52 :: u53 :: u54 :: u55 :: u56 :: u57 :: u58 :: u59 :: u60 :: u61 :: u62 :: []))) (t:Array Value) (hs:t.size=63) : C t:=cur_all 63 (fun l => C l.toArray) h t.toList hs
theorem frame92 {C:Array Value -> Prop} (h : ∀ u0 u1 u2 u3 u4 u5 u6 u7 u8 u9 u10 u11 u12 u13 u14 u15 u16 u17 u18 u19 u20 u21 u22 u23 u24 u25 u26 u27 u28 u29 u30 u31 u32 u33 u34 u35 u36 u37 u38 u39 u40 u41 u42 u43 u44 u45 u46 u47 u48 u49 u50 u51 u52 u53 u54 u55 u56 u57 u58 u59 u60 u61 u62 u63 u64 u65 u66 u67 u68 u69 u70 u71 u72 u73 u74 u75 u76 u77 u78 u79 u80 u81 u82 u83 u84 u85 u86 u87 u88 u89 u90 u91:Value,C (List.toArray (u0 :: u1 :: u2 :: u3 :: u4 :: u5 :: u6 :: u7 :: u8 :: u9 :: u10 :: u11 :: u12 :: u13 :: u14 :: u15 :: u16 :: u17 :: u18 :: u19 :: u20 :: u21 :: u22 :: u23 :: u24 :: u25 :: u26 :: u27 :: u28 :: u29 :: u30 :: u31 :: u32 :: u33 :: u34 :: u35 :: u36 :: u37 :: u38 :: u39 :: u40 :: u41 :: u42 :: u43 :: u44 :: u45 :: u46 :: u47 :: u48 :: u49 :: u50 :: u51 :: u52 :: u53 :: u54 :: u55 :: u56 :: u57 :: u58 :: u59 :: u60 :: u61 :: u62 :: u63 :: u64 :: u65 :: u66 :: u67 :: u68 :: u69 :: u70 :: u71 :: u72 :: u73 :: u74 :: u75 :: u76 :: u77 :: u78 :: u79 :: u80 :: u81 :: u82 :: u83 :: u84 :: u85 :: u86 :: u87 :: u88 :: u89 :: u90 :: u91 :: []))) (t:Array Value) (hs:t.size=92) : C t:=cur_all 92 (fun l => C l.toArray) h t.toList hs
theorem frame94 {C:Array Value -> Prop} (h : ∀ u0 u1 u2 u3 u4 u5 u6 u7 u8 u9 u10 u11 u12 u13 u14 u15 u16 u17 u18 u19 u20 u21 u22 u23 u24 u25 u26 u27 u28 u29 u30 u31 u32 u33 u34 u35 u36 u37 u38 u39 u40 u41 u42 u43 u44 u45 u46 u47 u48 u49 u50 u51 u52 u53 u54 u55 u56 u57 u58 u59 u60 u61 u62 u63 u64 u65 u66 u67 u68 u69 u70 u71 u72 u73 u74 u75 u76 u77 u78 u79 u80 u81 u82 u83 u84 u85 u86 u87 u88 u89 u90 u91 u92 u93:Value,C (List.toArray (u0 :: u1 :: u2 :: u3 :: u4 :: u5 :: u6 :: u7 :: u8 :: u9 :: u10 :: u11 :: u12 :: u13 :: u14 :: u15 :: u16 :: u17 :: u18 :: u19 :: u20 :: u21 :: u22 :: u23 :: u24 :: u25 :: u26 :: u27 :: u28 :: u29 :: u30 :: u31 :: u32 :: u33 :: u34 :: u35 :: u36 :: u37 :: u38 :: u39 :: u40 :: u41 :: u42 :: u43 :: u44 :: u45 :: u46 :: u47 :: u48 :: u49 :: u50 :: u51 :: u52 :: u53 :: u54 :: u55 :: u56 :: u57 :: u58 :: u59 :: u60 :: u61 :: u62 :: u63 :: u64 :: u65 :: u66 :: u67 :: u68 :: u69 :: u70 :: u71 :: u72 :: u73 :: u74 :: u75 :: u76 :: u77 :: u78 :: u79 :: u80 :: u81 :: u82 :: u83 :: u84 :: u85 :: u86 :: u87 :: u88 :: u89 :: u90 :: u91 :: u92 :: u93 :: []))) (t:Array Value) (hs:t.size=94) : C t:=cur_all 94 (fun l => C l.toArray) h t.toList hs
theorem frame101 {C:Array Value -> Prop} (h : ∀ u0 u1 u2 u3 u4 u5 u6 u7 u8 u9 u10 u11 u12 u13 u14 u15 u16 u17 u18 u19 u20 u21 u22 u23 u24 u25 u26 u27 u28 u29 u30 u31 u32 u33 u34 u35 u36 u37 u38 u39 u40 u41 u42 u43 u44 u45 u46 u47 u48 u49 u50 u51 u52 u53 u54 u55 u56 u57 u58 u59 u60 u61 u62 u63 u64 u65 u66 u67 u68 u69 u70 u71 u72 u73 u74 u75 u76 u77 u78 u79 u80 u81 u82 u83 u84 u85 u86 u87 u88 u89 u90 u91 u92 u93 u94 u95 u96 u97 u98 u99 u100:Value,C (List.toArray (u0 :: u1 :: u2 :: u3 :: u4 :: u5 :: u6 :: u7 :: u8 :: u9 :: u10 :: u11 :: u12 :: u13 :: u14 :: u15 :: u16 :: u17 :: u18 :: u19 :: u20 :: u21 :: u22 :: u23 :: u24 :: u25 :: u26 :: u27 :: u28 :: u29 :: u30 :: u31 :: u32 :: u33 :: u34 :: u35 :: u36 :: u37 :: u38 :: u39 :: u40 :: u41 :: u42 :: u43 :: u44 :: u45 :: u46 :: u47 :: u48 :: u49 :: u50 :: u51 :: u52 :: u53 :: u54 :: u55 :: u56 :: u57 :: u58 :: u59 :: u60 :: u61 :: u62 :: u63 :: u64 :: u65 :: u66 :: u67 :: u68 :: u69 :: u70 :: u71 :: u72 :: u73 :: u74 :: u75 :: u76 :: u77 :: u78 :: u79 :: u80 :: u81 :: u82 :: u83 :: u84 :: u85 :: u86 :: u87 :: u88 :: u89 :: u90 :: u91 :: u92 :: u93 :: u94 :: u95 :: u96 :: u97 :: u98 :: u99 :: u100 :: []))) (t:Array Value) (hs:t.size=101) : C t:=cur_all 101 (fun l => C l.toArray) h t.toList hs
theorem frame104 {C:Array Value -> Prop} (h : ∀ u0 u1 u2 u3 u4 u5 u6 u7 u8 u9 u10 u11 u12 u13 u14 u15 u16 u17 u18 u19 u20 u21 u22 u23 u24 u25 u26 u27 u28 u29 u30 u31 u32 u33 u34 u35 u36 u37 u38 u39 u40 u41 u42 u43 u44 u45 u46 u47 u48 u49 u50 u51 u52 u53 u54 u55 u56 u57 u58 u59 u60 u61 u62 u63 u64 u65 u66 u67 u68 u69 u70 u71 u72 u73 u74 u75 u76 u77 u78 u79 u80 u81 u82 u83 u84 u85 u86 u87 u88 u89 u90 u91 u92 u93 u94 u95 u96 u97 u98 u99 u100 u101 u102 u103:Value,C (List.toArray (u0 :: u1 :: u2 :: u3 :: u4 :: u5 :: u6 :: u7 :: u8 :: u9 :: u10 :: u11 :: u12 :: u13 :: u14 :: u15 :: u16 :: u17 :: u18 :: u19 :: u20 :: u21 :: u22 :: u23 :: u24 :: u25 :: u26 :: u27 :: u28 :: u29 :: u30 :: u31 :: u32 :: u33 :: u34 :: u35 :: u36 :: u37 :: u38 :: u39 :: u40 :: u41 :: u42 :: u43 :: u44 :: u45 :: u46 :: u47 :: u48 :: u49 :: u50 :: u51 :: u52 :: u53 :: u54 :: u55 :: u56 :: u57 :: u58 :: u59 :: u60 :: u61 :: u62 :: u63 :: u64 :: u65 :: u66 :: u67 :: u68 :: u69 :: u70 :: u71 :: u72 :: u73 :: u74 :: u75 :: u76 :: u77 :: u78 :: u79 :: u80 :: u81 :: u82 :: u83 :: u84 :: u85 :: u86 :: u87 :: u88 :: u89 :: u90 :: u91 :: u92 :: u93 :: u94 :: u95 :: u96 :: u97 :: u98 :: u99 :: u100 :: u101 :: u102 :: u103 :: []))) (t:Array Value) (hs:t.size=104) : C t:=cur_all 104 (fun l => C l.toArray) h t.toList hs
end Sc
end Go.Proofs.YteiiepjegdlbeaaDoor
namespace Go.Proofs.YteiiepjegdlbeaaDoor
open Go.RowKit Go.Lib
def jumps1 (l1:Nat) (J1:Act -> World -> Prop) (Q:Exit -> Act -> World -> Prop) : Exit -> Act -> World -> Prop
 | .goto l,a,w => l=l1 /\ J1 a w
 | e,a,w => Q e a w
theorem wp_scope1 {P:Program} {a:Act} {w:World} {Q:Exit -> Act -> World -> Prop} {c r1:Code} (l1:Nat) (J1:Act -> World -> Prop) (μ1:Act -> World -> Nat)
 (hf1:findLabel c l1=some (Code.skip.seq r1)) (first:c.wp P (jumps1 l1 J1 Q) a w) (pass1 : ∀ a w,J1 a w -> r1.wp P (jumps1 l1 (fun a' w' => J1 a' w' /\ μ1 a' w' < μ1 a w) Q) a w) : (Code.scope c).wp P Q a w:=by
 refine wp_scope_labels (fun l a w => l=l1 /\ J1 a w) (fun _ => μ1) (fun _ => Code.skip.seq r1) (fun l a w h => ?_) (wp_mono first fun e a w h => by cases e <;> exact h) (fun l a w h => ?_)
 . rw [h.1]; exact hf1
 . refine wp_mono (wp_seq (wp_skip (pass1 a w h.2))) fun e a' w' hq => ?_
   cases e with
   | goto l' => exact ⟨⟨hq.1,hq.2.1⟩,hq.2.2⟩
   | _ => exact hq
namespace Sc
section
variable {w:World} {D B n:Nat} {f:Nat -> Nat} {S:St} {R:Raw} {d:Nat}
theorem signs_any (h:SC w D B f n S R) (hin:S.inn <= 2) : Calls Tryd.prog 52 #[.pointer (some ⟨D,0,none⟩)] w fun e w' => e = .returned (.tuple #[.int .i64 ((if S.inn=2 then 6 else 2:Nat) : Int), .string ⟨(if S.inn=1 then [33,47] else [33] : List UInt8).toArray⟩]) /\ w'=w:=by
 have c6:=h.c6
 clear h
 have hc:S.inn=0 \/ S.inn=1 \/ S.inn=2:=by omega
 rcases hc with e | e | e
 all_goals (
  rw [e] at c6
  rw [e]
  go_enter Tryd.func52,Tryd.ntmps52
  go_wp2
  go_ret2
  exact ⟨rfl,rfl⟩)
theorem marks_any (h:SC w D B f n S R) : Calls Tryd.prog 54 #[.pointer (some ⟨D,0,none⟩)] w fun e w' => e = .returned (.string ⟨(if S.inn=1 then [45,91] else [45] : List UInt8).toArray⟩) /\ w'=w:=by
 have c6:=h.c6
 clear h
 by_cases e:S.inn=1
 . rw [e] at c6
   rw [if_pos e]
   clear e
   go_enter Tryd.func54,Tryd.ntmps54
   go_wp2
   go_ret
   exact ⟨rfl,rfl⟩
 . rw [if_neg e]
   have e':((S.inn:Int) == 1)=false:=by simp; omega
   clear e
   go_enter Tryd.func54,Tryd.ntmps54
   go_wp2
   go_ret
   exact ⟨rfl,rfl⟩
end
end Sc
end Go.Proofs.YteiiepjegdlbeaaDoor
