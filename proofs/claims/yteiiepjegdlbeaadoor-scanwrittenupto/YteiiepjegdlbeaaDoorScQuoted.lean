import Derived.Test.YteiiepjegdlbeaaDoorScScopeB
set_option maxHeartbeats 16000000
set_option maxRecDepth 10000
namespace Go.Proofs.YteiiepjegdlbeaaDoor
open Go.RowKit Go.Lib
namespace Sc
section
variable {w:World} {D B n:Nat} {f:Nat -> Nat} {S:St} {R:Raw} {d:Nat}
theorem sign_any (h:SC w D B f n S R) (hy:Rdy w B n f S R d) (ok:Ok S.nm S.fed S.k) (hst:S.k.st=2 \/ S.k.st=3) (hin:S.inn <= 2) (hCR:CRs) :
 Calls Tryd.prog 32 #[.pointer (some ⟨D,0,none⟩)] w (Part w D B f n S R d):=by
 have c8:=h.c8
 have hst0:Went w D B f n S R d w S.k S.fed R:=by
  have e:Stt S S.fed S.k=S:=by
   have q1:=hy.q
   have q2:=hy.e
   unfold Stt
   cases S
   simp only at q1 q2
   subst q1 q2
   rfl
  exact ⟨by rw [e]; exact h,To.refl _ _ _,by rw [e]; exact hy,fun k => by have:=ok.how; omega,rfl⟩
 have HST:=hide' hst0
 have OK:=hide' ok
 have HCR:=hide' hCR
 clear h hy hst0 ok hCR
 obtain ⟨Jw,hJw⟩ : ∃ Jw:Nat -> World -> Prop,Jw=fun st w' => ∃ x k R',Went w D B f n S R d w' k x R' /\ Steps S.inn S.nm f n S.k (k.turn st) /\ Ok S.nm x (k.turn st) /\ S.k.ps <= k.ps:=⟨_,rfl⟩
 have HJ:=hide' hJw
 clear hJw
 go_enter Tryd.func32,Tryd.ntmps32
 go_wp2
 refine (fun p1 => wp_scope1 0 (fun a w' => a.defers = [] /\ a.tmps.size=63 /\ a.tmps[0]? = some (.pointer (some ⟨D,0,none⟩)) /\ Jw 3 w') (fun _ w' => n - psOf w' D) rfl ?_ p1) ?_
 . rcases hst with e | e
   . rw [e] at c8
     clear p1
     have hi3:S.inn=0 \/ S.inn=1 \/ S.inn=2:=by omega
     rcases hi3 with hi | hi | hi
     . have cG:=signs_any HST.out.sc (show (Stt S S.fed S.k).inn <= 2 from hin)
       rw [show (Stt S S.fed S.k).inn=0 from hi] at cG
       have CG:Hid (Calls Tryd.prog 52 #[.pointer (some ⟨D,0,none⟩)] w fun e w' => e = .returned (.tuple #[.int .i64 ((2:Nat) : Int), .string ⟨([33] : List UInt8).toArray⟩]) /\ w'=w):=cG
       clear cG
       have hW1:=HST.out
       have hOk:=OK.out
       have hSt:Steps S.inn S.nm f n S.k S.k := .refl _
       have HE:=hide' e
       have cN:=next_any hW1.sc hW1.rdy hOk.how 2 [33] (fun _ => HCR.out _ _ (by simp) (pk_scal _ _ _))
       have hsg:sgn [33] = [33]:=rfl
       rw [hsg] at cN
       obtain ⟨v,hv⟩ : ∃ v,nx f n (S.k).ps (2:Nat) [33]=v:=⟨_,rfl⟩
       have hst2:step S.inn S.nm f n (S.k)=onNx v (S.k) fun r s => if r=33 then s.turn 3 else if r=47 then s.turn 18 else { s with tag:=s.tag ++ encodeRune r,st:=9 }:=by
        rw [<- hv]
        unfold step; rw [e,hi]; rfl
       have hv':nx f n (Stt S S.fed (S.k)).k.ps ((2:Nat) : Int) [33]=v:=hv
       rw [hv'] at cN
       have HPOS:Hid (v.1=0 -> 0 < v.2.2):=fun e => by rw [<- hv] at e ⊢; exact nx_pos e
       have HONE:Hid (v.1=0 -> v.2.1 < 128 -> v.2.1 ≠ 10 -> v.2.2=1):=fun e1 e2 e3 => by rw [<- hv] at e1 e2 e3 ⊢; exact nx_one e1 e2 e3
       have HSC:Hid (v.1=0 -> Rn.scal v.2.1):=fun e => by rw [<- hv] at e ⊢; exact nx_scal e
       have HW1:=hide' hW1
       have HSt:=hide' hSt
       have HOk:=hide' hOk
       have HST2:=hide' hst2
       have CN:=hide' cN
       clear hW1 hSt hOk hv hv' hst2 hsg cN
       clear e
       go_wp2_with fail
       refine CG.out.mono ?_
       rintro e w1 ⟨rfl,hw1⟩
       rw [hw1]
       clear hw1 w1 CG
       go_wp2_with fail
       refine CN.out.mono ?_
       rintro e W2 ⟨hE,x2,R2,hW2,hx2⟩
       have hWW:=HW1.out.trans hW2
       obtain ⟨v1',v2',v3'⟩:=v
       unfold NxE at hE
       simp only at hE hx2
       clear CN hW2 
       have hc0:v1'=0 \/ v1' ≠ 0:=by omega
       rcases hc0 with c0 | c0
       . subst c0
         rw [if_pos rfl] at hE
         subst hE
         have hk1:nxK (0,v2',v3') (Stt S S.fed (S.k)).k=(S.k).took v3':=by simp [nxK]; rfl
         rw [hk1] at hWW
         have hpos:0 < v3':=HPOS.out rfl
         have o2:S.k.text.length <= 4 * S.k.ps:=HOk.out.text
         have o3:S.k.tag.length <= 4 * S.k.ps:=HOk.out.tag
         have o4:S.k.attr.length <= 4 * S.k.ps:=HOk.out.attr
         have o5:S.k.val.length <= 4 * S.k.ps:=HOk.out.val
         have o6:S.k.ref.length <= S.k.ps:=HOk.out.ref
         have o7:S.k.ct <= S.k.ps:=HOk.out.ct
         have o8:S.k.attrs.length <= S.k.ps:=HOk.out.attrs
         have hbig:=HW1.out.rdy.big
         have hstep2:=HST2.out
         simp only [onNx,if_true] at hstep2
         have hle:S.k.ps + v3' <= n:=Nat.le_trans hWW.rdy.qe hWW.rdy.fn
         have hz:S.k.ct=0:=HOk.out.zer (.inl HE.out)
         have hsg1:S.k.ps=S.k.tg + 1:=HOk.out.sig HE.out
         by_cases r33:v2'=33
         . subst r33
           rw [if_pos rfl] at hstep2
           have hok:Ok S.nm x2 ((S.k.took v3').turn 3):=by
            refine ⟨HOk.out.how, ?_, ?_, ?_, ?_, ?_, ?_, ?_, ?_, ?_, ?_, ?_, ?_, ?_⟩
            all_goals (simp only [Wk.took,Wk.turn])
            all_goals omega
           have hj:Jw 3 W2:=by
            rw [HJ.out]
            exact ⟨x2,_,R2,hWW,HSt.out.trans (.one HOk.out.how hstep2),hok,by show S.k.ps <= S.k.ps + v3'; omega⟩
           have HJJ:=hide' hj
           clear hj hok hstep2 hWW
           go_wp2_with fail
           go_step3
           exact ⟨rfl,rfl,rfl,rfl,HJJ.out⟩
         . rw [if_neg r33] at hstep2
           have i33:((v2':Int) == 33)=false:=by simp; omega
           by_cases r47:v2'=47
           . subst r47
             rw [if_pos rfl] at hstep2
             have h1w:v3'=1:=HONE.out rfl (show (47:Nat) < 128 by decide) (show (47:Nat) ≠ 10 by decide)
             have hxx:x2=S.k.ps + v3':=hx2 rfl (show (47:Nat) ≠ 10 by decide)
             have cT:=turn_any hWW.sc 18
             have HWa:=hide' hWW
             have HCT:=hide' cT
             have HS2:=hide' hstep2
             clear hWW cT hstep2
             go_wp2_with fail
             refine HCT.out.mono ?_
             rintro e W9 ⟨rfl,hS3,hTo3⟩
             have hWc:=HWa.out.put (k2:=(S.k.took v3').turn 18) hS3 hTo3 rfl HOk.out.how rfl rfl
             have hfin:Part w D B f n S R d (.returned (.bool true)) W9:=by
              refine ⟨true,x2,_,R2,rfl,hWc,HSt.out.trans (.one HOk.out.how HS2.out), ?_⟩
              rw [if_pos rfl]
              refine ⟨?_, ?_⟩
              . refine ⟨HOk.out.how, ?_, ?_, ?_, ?_, ?_, ?_, ?_, ?_, ?_, ?_, ?_, ?_, ?_⟩
                all_goals (simp only [Wk.took,Wk.turn])
                all_goals omega
              . show S.k.ps < S.k.ps + v3'
                omega
             have HFIN:=hide' hfin
             clear hfin hWc hS3 hTo3 HCT HWa
             go_wp2_with fail
             simp only [jumps1]
             exact bodyPost_ret (v := .bool true) (by simp [results,Tryd.results32,go_sem]) rfl HFIN.out
           . rw [if_neg r47] at hstep2
             have i47:((v2':Int) == 47)=false:=by simp; omega
             have hsc:Rn.scal v2':=HSC.out rfl
             have dF:=hWW.sc.c24
             obtain ⟨paF,capF,etF⟩:=own_shape hWW.sc.tag
             have cA:=appRune_any B R2.tag S.k.tag v2' W2 hWW.sc.tag (by omega) hWW.rdy.bw hsc
             rw [etF] at dF
             rw [show (#[R2.tag,Value.int .i32 (v2':Nat)] : Array Value) = #[.slice paF S.k.tag.length capF, .int .i32 (v2':Nat)] by rw [etF]; rfl] at cA
             have HWW:=hide' hWW
             have HCA:=hide' cA
             have HS2':=hide' hstep2
             clear hWW cA etF hstep2
             dsimp only [Stt,Wk.took,Wk.turn] at dF
             go_wp2_with fail
             refine HCA.out.mono ?_
             rintro e W4 ⟨v',rfl,hrow,hg⟩
             obtain ⟨pa',m',cap',rfl⟩:=own_shape3 hrow
             have hneD:R2.tag.ownBlock ≠ some D:=fun e => by have:=HWW.out.sc.apart 0 6 D rfl (by rw [<- e]; rfl); omega
             have hD4:=hg.block D HWW.out.sc.lt0 hneD
             have eF:W4.cell? ⟨D,24,none⟩ = some R2.tag:=(World.cell?_of_block (a:=⟨D,24,none⟩) hD4).trans HWW.out.sc.c24
             have gF:W4.frozen? ⟨D,24,none⟩ = false:=(World.frozen?_of_block (a:=⟨D,24,none⟩) hD4).trans (HWW.out.sc.fz 24)
             have hW5:=HWW.out.put (k2 := { S.k.took v3' with tag:=S.k.tag ++ encodeRune v2' }) (HWW.out.sc.tag' hg hrow) (To.tag' hg) rfl HOk.out.how rfl rfl
             have hen:=Rn.enc_length (v2':Int)
             have hel:=Rn.el_pos (v2':Int)
             have hstep2:=HS2'.out
             clear hg hrow hD4 hneD HCA dF
             have cT:=turn_any hW5.sc 9
             have HWa:=hide' hW5
             have HCT:=hide' cT
             have HS2:=hide' hstep2
             clear hW5 cT hstep2
             go_wp2_with fail
             refine HCT.out.mono ?_
             rintro e W9 ⟨rfl,hS3,hTo3⟩
             have hWc:=HWa.out.put (k2:=({ S.k.took v3' with tag:=S.k.tag ++ encodeRune v2' }).turn 9) hS3 hTo3 rfl HOk.out.how rfl rfl
             have hfin:Part w D B f n S R d (.returned (.bool true)) W9:=by
              refine ⟨true,x2,_,_,rfl,hWc,HSt.out.trans (.one HOk.out.how HS2.out), ?_⟩
              rw [if_pos rfl]
              refine ⟨?_, ?_⟩
              . refine ⟨HOk.out.how, ?_, ?_, ?_, ?_, ?_, ?_, ?_, ?_, ?_, ?_, ?_, ?_, ?_⟩
                all_goals (simp only [Wk.took,Wk.turn,List.length_append])
                all_goals omega
              . show S.k.ps < S.k.ps + v3'
                omega
             have HFIN:=hide' hfin
             clear hfin hWc hS3 hTo3 HCT HWa
             go_wp2_with fail
             simp only [jumps1]
             exact bodyPost_ret (v := .bool true) (by simp [results,Tryd.results32,go_sem]) rfl HFIN.out
       . rw [if_neg c0] at hE
         subst hE
         have hfin:Part w D B f n S R d (.returned (.bool false)) W2:=by
          by_cases c2:v1'=2
          . subst c2
            refine ⟨false,x2,_,R2,rfl,hWW,HSt.out.trans (.one HOk.out.how (by rw [HST2.out]; simp [onNx]; rfl)), ?_⟩
            rw [if_neg (by decide)]
            left
            simp [nxK,Wk.fails]
          . refine ⟨false,x2,_,R2,rfl,hWW, ?_, ?_⟩
            . simp only [nxK,if_neg c0,if_neg c2]
              exact HSt.out
            . rw [if_neg (by decide)]
              right
              simp only [nxK,if_neg c0,if_neg c2]
              show step S.inn S.nm f n (S.k)=none
              rw [HST2.out]
              simp [onNx,c0,c2]
         have HFIN:=hide' hfin
         clear hfin hWW
         go_wp2_with fail
         simp only [jumps1]
         exact bodyPost_ret (v := .bool false) (by simp [results,Tryd.results32,go_sem]) rfl HFIN.out
     . have cG:=signs_any HST.out.sc (show (Stt S S.fed S.k).inn <= 2 from hin)
       rw [show (Stt S S.fed S.k).inn=1 from hi] at cG
       have CG:Hid (Calls Tryd.prog 52 #[.pointer (some ⟨D,0,none⟩)] w fun e w' => e = .returned (.tuple #[.int .i64 ((2:Nat) : Int), .string ⟨([33,47] : List UInt8).toArray⟩]) /\ w'=w):=cG
       clear cG
       have hW1:=HST.out
       have hOk:=OK.out
       have hSt:Steps S.inn S.nm f n S.k S.k := .refl _
       have HE:=hide' e
       have cN:=next_any hW1.sc hW1.rdy hOk.how 2 [33,47] (fun _ => HCR.out _ _ (by simp) (pk_scal _ _ _))
       have hsg:sgn [33,47] = [33,47]:=rfl
       rw [hsg] at cN
       obtain ⟨v,hv⟩ : ∃ v,nx f n (S.k).ps (2:Nat) [33,47]=v:=⟨_,rfl⟩
       have hst2:step S.inn S.nm f n (S.k)=onNx v (S.k) fun r s => if r=33 then s.turn 3 else if r=47 then s.turn 18 else { s with tag:=s.tag ++ encodeRune r,st:=9 }:=by
        rw [<- hv]
        unfold step; rw [e,hi]; rfl
       have hv':nx f n (Stt S S.fed (S.k)).k.ps ((2:Nat) : Int) [33,47]=v:=hv
       rw [hv'] at cN
       have HPOS:Hid (v.1=0 -> 0 < v.2.2):=fun e => by rw [<- hv] at e ⊢; exact nx_pos e
       have HONE:Hid (v.1=0 -> v.2.1 < 128 -> v.2.1 ≠ 10 -> v.2.2=1):=fun e1 e2 e3 => by rw [<- hv] at e1 e2 e3 ⊢; exact nx_one e1 e2 e3
       have HSC:Hid (v.1=0 -> Rn.scal v.2.1):=fun e => by rw [<- hv] at e ⊢; exact nx_scal e
       have HW1:=hide' hW1
       have HSt:=hide' hSt
       have HOk:=hide' hOk
       have HST2:=hide' hst2
       have CN:=hide' cN
       clear hW1 hSt hOk hv hv' hst2 hsg cN
       clear e
       go_wp2_with fail
       refine CG.out.mono ?_
       rintro e w1 ⟨rfl,hw1⟩
       rw [hw1]
       clear hw1 w1 CG
       go_wp2_with fail
       refine CN.out.mono ?_
       rintro e W2 ⟨hE,x2,R2,hW2,hx2⟩
       have hWW:=HW1.out.trans hW2
       obtain ⟨v1',v2',v3'⟩:=v
       unfold NxE at hE
       simp only at hE hx2
       clear CN hW2 
       have hc0:v1'=0 \/ v1' ≠ 0:=by omega
       rcases hc0 with c0 | c0
       . subst c0
         rw [if_pos rfl] at hE
         subst hE
         have hk1:nxK (0,v2',v3') (Stt S S.fed (S.k)).k=(S.k).took v3':=by simp [nxK]; rfl
         rw [hk1] at hWW
         have hpos:0 < v3':=HPOS.out rfl
         have o2:S.k.text.length <= 4 * S.k.ps:=HOk.out.text
         have o3:S.k.tag.length <= 4 * S.k.ps:=HOk.out.tag
         have o4:S.k.attr.length <= 4 * S.k.ps:=HOk.out.attr
         have o5:S.k.val.length <= 4 * S.k.ps:=HOk.out.val
         have o6:S.k.ref.length <= S.k.ps:=HOk.out.ref
         have o7:S.k.ct <= S.k.ps:=HOk.out.ct
         have o8:S.k.attrs.length <= S.k.ps:=HOk.out.attrs
         have hbig:=HW1.out.rdy.big
         have hstep2:=HST2.out
         simp only [onNx,if_true] at hstep2
         have hle:S.k.ps + v3' <= n:=Nat.le_trans hWW.rdy.qe hWW.rdy.fn
         have hz:S.k.ct=0:=HOk.out.zer (.inl HE.out)
         have hsg1:S.k.ps=S.k.tg + 1:=HOk.out.sig HE.out
         by_cases r33:v2'=33
         . subst r33
           rw [if_pos rfl] at hstep2
           have hok:Ok S.nm x2 ((S.k.took v3').turn 3):=by
            refine ⟨HOk.out.how, ?_, ?_, ?_, ?_, ?_, ?_, ?_, ?_, ?_, ?_, ?_, ?_, ?_⟩
            all_goals (simp only [Wk.took,Wk.turn])
            all_goals omega
           have hj:Jw 3 W2:=by
            rw [HJ.out]
            exact ⟨x2,_,R2,hWW,HSt.out.trans (.one HOk.out.how hstep2),hok,by show S.k.ps <= S.k.ps + v3'; omega⟩
           have HJJ:=hide' hj
           clear hj hok hstep2 hWW
           go_wp2_with fail
           go_step3
           exact ⟨rfl,rfl,rfl,rfl,HJJ.out⟩
         . rw [if_neg r33] at hstep2
           have i33:((v2':Int) == 33)=false:=by simp; omega
           by_cases r47:v2'=47
           . subst r47
             rw [if_pos rfl] at hstep2
             have h1w:v3'=1:=HONE.out rfl (show (47:Nat) < 128 by decide) (show (47:Nat) ≠ 10 by decide)
             have hxx:x2=S.k.ps + v3':=hx2 rfl (show (47:Nat) ≠ 10 by decide)
             have cT:=turn_any hWW.sc 18
             have HWa:=hide' hWW
             have HCT:=hide' cT
             have HS2:=hide' hstep2
             clear hWW cT hstep2
             go_wp2_with fail
             refine HCT.out.mono ?_
             rintro e W9 ⟨rfl,hS3,hTo3⟩
             have hWc:=HWa.out.put (k2:=(S.k.took v3').turn 18) hS3 hTo3 rfl HOk.out.how rfl rfl
             have hfin:Part w D B f n S R d (.returned (.bool true)) W9:=by
              refine ⟨true,x2,_,R2,rfl,hWc,HSt.out.trans (.one HOk.out.how HS2.out), ?_⟩
              rw [if_pos rfl]
              refine ⟨?_, ?_⟩
              . refine ⟨HOk.out.how, ?_, ?_, ?_, ?_, ?_, ?_, ?_, ?_, ?_, ?_, ?_, ?_, ?_⟩
                all_goals (simp only [Wk.took,Wk.turn])
                all_goals omega
              . show S.k.ps < S.k.ps + v3'
                omega
             have HFIN:=hide' hfin
             clear hfin hWc hS3 hTo3 HCT HWa
             go_wp2_with fail
             simp only [jumps1]
             exact bodyPost_ret (v := .bool true) (by simp [results,Tryd.results32,go_sem]) rfl HFIN.out
           . rw [if_neg r47] at hstep2
             have i47:((v2':Int) == 47)=false:=by simp; omega
             have hsc:Rn.scal v2':=HSC.out rfl
             have dF:=hWW.sc.c24
             obtain ⟨paF,capF,etF⟩:=own_shape hWW.sc.tag
             have cA:=appRune_any B R2.tag S.k.tag v2' W2 hWW.sc.tag (by omega) hWW.rdy.bw hsc
             rw [etF] at dF
             rw [show (#[R2.tag,Value.int .i32 (v2':Nat)] : Array Value) = #[.slice paF S.k.tag.length capF, .int .i32 (v2':Nat)] by rw [etF]; rfl] at cA
             have HWW:=hide' hWW
             have HCA:=hide' cA
             have HS2':=hide' hstep2
             clear hWW cA etF hstep2
             dsimp only [Stt,Wk.took,Wk.turn] at dF
             go_wp2_with fail
             refine HCA.out.mono ?_
             rintro e W4 ⟨v',rfl,hrow,hg⟩
             obtain ⟨pa',m',cap',rfl⟩:=own_shape3 hrow
             have hneD:R2.tag.ownBlock ≠ some D:=fun e => by have:=HWW.out.sc.apart 0 6 D rfl (by rw [<- e]; rfl); omega
             have hD4:=hg.block D HWW.out.sc.lt0 hneD
             have eF:W4.cell? ⟨D,24,none⟩ = some R2.tag:=(World.cell?_of_block (a:=⟨D,24,none⟩) hD4).trans HWW.out.sc.c24
             have gF:W4.frozen? ⟨D,24,none⟩ = false:=(World.frozen?_of_block (a:=⟨D,24,none⟩) hD4).trans (HWW.out.sc.fz 24)
             have hW5:=HWW.out.put (k2 := { S.k.took v3' with tag:=S.k.tag ++ encodeRune v2' }) (HWW.out.sc.tag' hg hrow) (To.tag' hg) rfl HOk.out.how rfl rfl
             have hen:=Rn.enc_length (v2':Int)
             have hel:=Rn.el_pos (v2':Int)
             have hstep2:=HS2'.out
             clear hg hrow hD4 hneD HCA dF
             have cT:=turn_any hW5.sc 9
             have HWa:=hide' hW5
             have HCT:=hide' cT
             have HS2:=hide' hstep2
             clear hW5 cT hstep2
             go_wp2_with fail
             refine HCT.out.mono ?_
             rintro e W9 ⟨rfl,hS3,hTo3⟩
             have hWc:=HWa.out.put (k2:=({ S.k.took v3' with tag:=S.k.tag ++ encodeRune v2' }).turn 9) hS3 hTo3 rfl HOk.out.how rfl rfl
             have hfin:Part w D B f n S R d (.returned (.bool true)) W9:=by
              refine ⟨true,x2,_,_,rfl,hWc,HSt.out.trans (.one HOk.out.how HS2.out), ?_⟩
              rw [if_pos rfl]
              refine ⟨?_, ?_⟩
              . refine ⟨HOk.out.how, ?_, ?_, ?_, ?_, ?_, ?_, ?_, ?_, ?_, ?_, ?_, ?_, ?_⟩
                all_goals (simp only [Wk.took,Wk.turn,List.length_append])
                all_goals omega
              . show S.k.ps < S.k.ps + v3'
                omega
             have HFIN:=hide' hfin
             clear hfin hWc hS3 hTo3 HCT HWa
             go_wp2_with fail
             simp only [jumps1]
             exact bodyPost_ret (v := .bool true) (by simp [results,Tryd.results32,go_sem]) rfl HFIN.out
       . rw [if_neg c0] at hE
         subst hE
         have hfin:Part w D B f n S R d (.returned (.bool false)) W2:=by
          by_cases c2:v1'=2
          . subst c2
            refine ⟨false,x2,_,R2,rfl,hWW,HSt.out.trans (.one HOk.out.how (by rw [HST2.out]; simp [onNx]; rfl)), ?_⟩
            rw [if_neg (by decide)]
            left
            simp [nxK,Wk.fails]
          . refine ⟨false,x2,_,R2,rfl,hWW, ?_, ?_⟩
            . simp only [nxK,if_neg c0,if_neg c2]
              exact HSt.out
            . rw [if_neg (by decide)]
              right
              simp only [nxK,if_neg c0,if_neg c2]
              show step S.inn S.nm f n (S.k)=none
              rw [HST2.out]
              simp [onNx,c0,c2]
         have HFIN:=hide' hfin
         clear hfin hWW
         go_wp2_with fail
         simp only [jumps1]
         exact bodyPost_ret (v := .bool false) (by simp [results,Tryd.results32,go_sem]) rfl HFIN.out
     . have cG:=signs_any HST.out.sc (show (Stt S S.fed S.k).inn <= 2 from hin)
       rw [show (Stt S S.fed S.k).inn=2 from hi] at cG
       have CG:Hid (Calls Tryd.prog 52 #[.pointer (some ⟨D,0,none⟩)] w fun e w' => e = .returned (.tuple #[.int .i64 ((6:Nat) : Int), .string ⟨([33] : List UInt8).toArray⟩]) /\ w'=w):=cG
       clear cG
       have hW1:=HST.out
       have hOk:=OK.out
       have hSt:Steps S.inn S.nm f n S.k S.k := .refl _
       have HE:=hide' e
       have cN:=next_any hW1.sc hW1.rdy hOk.how 6 [33] (fun _ => HCR.out _ _ (by simp) (pk_scal _ _ _))
       have hsg:sgn [33] = [33]:=rfl
       rw [hsg] at cN
       obtain ⟨v,hv⟩ : ∃ v,nx f n (S.k).ps (6:Nat) [33]=v:=⟨_,rfl⟩
       have hst2:step S.inn S.nm f n (S.k)=onNx v (S.k) fun r s => if r=33 then s.turn 3 else if r=47 then s.turn 18 else { s with tag:=s.tag ++ encodeRune r,st:=9 }:=by
        rw [<- hv]
        unfold step; rw [e,hi]; rfl
       have hv':nx f n (Stt S S.fed (S.k)).k.ps ((6:Nat) : Int) [33]=v:=hv
       rw [hv'] at cN
       have HPOS:Hid (v.1=0 -> 0 < v.2.2):=fun e => by rw [<- hv] at e ⊢; exact nx_pos e
       have HONE:Hid (v.1=0 -> v.2.1 < 128 -> v.2.1 ≠ 10 -> v.2.2=1):=fun e1 e2 e3 => by rw [<- hv] at e1 e2 e3 ⊢; exact nx_one e1 e2 e3
       have HSC:Hid (v.1=0 -> Rn.scal v.2.1):=fun e => by rw [<- hv] at e ⊢; exact nx_scal e
       have HW1:=hide' hW1
       have HSt:=hide' hSt
       have HOk:=hide' hOk
       have HST2:=hide' hst2
       have CN:=hide' cN
       clear hW1 hSt hOk hv hv' hst2 hsg cN
       clear e
       go_wp2_with fail
       refine CG.out.mono ?_
       rintro e w1 ⟨rfl,hw1⟩
       rw [hw1]
       clear hw1 w1 CG
       go_wp2_with fail
       refine CN.out.mono ?_
       rintro e W2 ⟨hE,x2,R2,hW2,hx2⟩
       have hWW:=HW1.out.trans hW2
       obtain ⟨v1',v2',v3'⟩:=v
       unfold NxE at hE
       simp only at hE hx2
       clear CN hW2 
       have hc0:v1'=0 \/ v1' ≠ 0:=by omega
       rcases hc0 with c0 | c0
       . subst c0
         rw [if_pos rfl] at hE
         subst hE
         have hk1:nxK (0,v2',v3') (Stt S S.fed (S.k)).k=(S.k).took v3':=by simp [nxK]; rfl
         rw [hk1] at hWW
         have hpos:0 < v3':=HPOS.out rfl
         have o2:S.k.text.length <= 4 * S.k.ps:=HOk.out.text
         have o3:S.k.tag.length <= 4 * S.k.ps:=HOk.out.tag
         have o4:S.k.attr.length <= 4 * S.k.ps:=HOk.out.attr
         have o5:S.k.val.length <= 4 * S.k.ps:=HOk.out.val
         have o6:S.k.ref.length <= S.k.ps:=HOk.out.ref
         have o7:S.k.ct <= S.k.ps:=HOk.out.ct
         have o8:S.k.attrs.length <= S.k.ps:=HOk.out.attrs
         have hbig:=HW1.out.rdy.big
         have hstep2:=HST2.out
         simp only [onNx,if_true] at hstep2
         have hle:S.k.ps + v3' <= n:=Nat.le_trans hWW.rdy.qe hWW.rdy.fn
         have hz:S.k.ct=0:=HOk.out.zer (.inl HE.out)
         have hsg1:S.k.ps=S.k.tg + 1:=HOk.out.sig HE.out
         by_cases r33:v2'=33
         . subst r33
           rw [if_pos rfl] at hstep2
           have hok:Ok S.nm x2 ((S.k.took v3').turn 3):=by
            refine ⟨HOk.out.how, ?_, ?_, ?_, ?_, ?_, ?_, ?_, ?_, ?_, ?_, ?_, ?_, ?_⟩
            all_goals (simp only [Wk.took,Wk.turn])
            all_goals omega
           have hj:Jw 3 W2:=by
            rw [HJ.out]
            exact ⟨x2,_,R2,hWW,HSt.out.trans (.one HOk.out.how hstep2),hok,by show S.k.ps <= S.k.ps + v3'; omega⟩
           have HJJ:=hide' hj
           clear hj hok hstep2 hWW
           go_wp2_with fail
           go_step3
           exact ⟨rfl,rfl,rfl,rfl,HJJ.out⟩
         . rw [if_neg r33] at hstep2
           have i33:((v2':Int) == 33)=false:=by simp; omega
           by_cases r47:v2'=47
           . subst r47
             rw [if_pos rfl] at hstep2
             have h1w:v3'=1:=HONE.out rfl (show (47:Nat) < 128 by decide) (show (47:Nat) ≠ 10 by decide)
             have hxx:x2=S.k.ps + v3':=hx2 rfl (show (47:Nat) ≠ 10 by decide)
             have cT:=turn_any hWW.sc 18
             have HWa:=hide' hWW
             have HCT:=hide' cT
             have HS2:=hide' hstep2
             clear hWW cT hstep2
             go_wp2_with fail
             refine HCT.out.mono ?_
             rintro e W9 ⟨rfl,hS3,hTo3⟩
             have hWc:=HWa.out.put (k2:=(S.k.took v3').turn 18) hS3 hTo3 rfl HOk.out.how rfl rfl
             have hfin:Part w D B f n S R d (.returned (.bool true)) W9:=by
              refine ⟨true,x2,_,R2,rfl,hWc,HSt.out.trans (.one HOk.out.how HS2.out), ?_⟩
              rw [if_pos rfl]
              refine ⟨?_, ?_⟩
              . refine ⟨HOk.out.how, ?_, ?_, ?_, ?_, ?_, ?_, ?_, ?_, ?_, ?_, ?_, ?_, ?_⟩
                all_goals (simp only [Wk.took,Wk.turn])
                all_goals omega
              . show S.k.ps < S.k.ps + v3'
                omega
             have HFIN:=hide' hfin
             clear hfin hWc hS3 hTo3 HCT HWa
             go_wp2_with fail
             simp only [jumps1]
             exact bodyPost_ret (v := .bool true) (by simp [results,Tryd.results32,go_sem]) rfl HFIN.out
           . rw [if_neg r47] at hstep2
             have i47:((v2':Int) == 47)=false:=by simp; omega
             have hsc:Rn.scal v2':=HSC.out rfl
             have dF:=hWW.sc.c24
             obtain ⟨paF,capF,etF⟩:=own_shape hWW.sc.tag
             have cA:=appRune_any B R2.tag S.k.tag v2' W2 hWW.sc.tag (by omega) hWW.rdy.bw hsc
             rw [etF] at dF
             rw [show (#[R2.tag,Value.int .i32 (v2':Nat)] : Array Value) = #[.slice paF S.k.tag.length capF, .int .i32 (v2':Nat)] by rw [etF]; rfl] at cA
             have HWW:=hide' hWW
             have HCA:=hide' cA
             have HS2':=hide' hstep2
             clear hWW cA etF hstep2
             dsimp only [Stt,Wk.took,Wk.turn] at dF
             go_wp2_with fail
             refine HCA.out.mono ?_
             rintro e W4 ⟨v',rfl,hrow,hg⟩
             obtain ⟨pa',m',cap',rfl⟩:=own_shape3 hrow
             have hneD:R2.tag.ownBlock ≠ some D:=fun e => by have:=HWW.out.sc.apart 0 6 D rfl (by rw [<- e]; rfl); omega
             have hD4:=hg.block D HWW.out.sc.lt0 hneD
             have eF:W4.cell? ⟨D,24,none⟩ = some R2.tag:=(World.cell?_of_block (a:=⟨D,24,none⟩) hD4).trans HWW.out.sc.c24
             have gF:W4.frozen? ⟨D,24,none⟩ = false:=(World.frozen?_of_block (a:=⟨D,24,none⟩) hD4).trans (HWW.out.sc.fz 24)
             have hW5:=HWW.out.put (k2 := { S.k.took v3' with tag:=S.k.tag ++ encodeRune v2' }) (HWW.out.sc.tag' hg hrow) (To.tag' hg) rfl HOk.out.how rfl rfl
             have hen:=Rn.enc_length (v2':Int)
             have hel:=Rn.el_pos (v2':Int)
             have hstep2:=HS2'.out
             clear hg hrow hD4 hneD HCA dF
             have cT:=turn_any hW5.sc 9
             have HWa:=hide' hW5
             have HCT:=hide' cT
             have HS2:=hide' hstep2
             clear hW5 cT hstep2
             go_wp2_with fail
             refine HCT.out.mono ?_
             rintro e W9 ⟨rfl,hS3,hTo3⟩
             have hWc:=HWa.out.put (k2:=({ S.k.took v3' with tag:=S.k.tag ++ encodeRune v2' }).turn 9) hS3 hTo3 rfl HOk.out.how rfl rfl
             have hfin:Part w D B f n S R d (.returned (.bool true)) W9:=by
              refine ⟨true,x2,_,_,rfl,hWc,HSt.out.trans (.one HOk.out.how HS2.out), ?_⟩
              rw [if_pos rfl]
              refine ⟨?_, ?_⟩
              . refine ⟨HOk.out.how, ?_, ?_, ?_, ?_, ?_, ?_, ?_, ?_, ?_, ?_, ?_, ?_, ?_⟩
                all_goals (simp only [Wk.took,Wk.turn,List.length_append])
                all_goals omega
              . show S.k.ps < S.k.ps + v3'
                omega
             have HFIN:=hide' hfin
             clear hfin hWc hS3 hTo3 HCT HWa
             go_wp2_with fail
             simp only [jumps1]
             exact bodyPost_ret (v := .bool true) (by simp [results,Tryd.results32,go_sem]) rfl HFIN.out
       . rw [if_neg c0] at hE
         subst hE
         have hfin:Part w D B f n S R d (.returned (.bool false)) W2:=by
          by_cases c2:v1'=2
          . subst c2
            refine ⟨false,x2,_,R2,rfl,hWW,HSt.out.trans (.one HOk.out.how (by rw [HST2.out]; simp [onNx]; rfl)), ?_⟩
            rw [if_neg (by decide)]
            left
            simp [nxK,Wk.fails]
          . refine ⟨false,x2,_,R2,rfl,hWW, ?_, ?_⟩
            . simp only [nxK,if_neg c0,if_neg c2]
              exact HSt.out
            . rw [if_neg (by decide)]
              right
              simp only [nxK,if_neg c0,if_neg c2]
              show step S.inn S.nm f n (S.k)=none
              rw [HST2.out]
              simp [onNx,c0,c2]
         have HFIN:=hide' hfin
         clear hfin hWW
         go_wp2_with fail
         simp only [jumps1]
         exact bodyPost_ret (v := .bool false) (by simp [results,Tryd.results32,go_sem]) rfl HFIN.out
   . have hj:Jw 3 w:=by
      rw [HJ.out]
      have e0:S.k.turn 3=S.k:=by unfold Wk.turn; rw [<- e]
      exact ⟨S.fed,S.k,R,HST.out,by rw [e0]; exact .refl _,by rw [e0]; exact OK.out,Nat.le_refl _⟩
     rw [e] at c8
     have HJJ:=hide' hj
     clear hj e p1
     go_wp2
     go_step3
     exact ⟨rfl,rfl,rfl,rfl,HJJ.out⟩
 . rintro ⟨tm,df⟩ W ⟨q1,q2,q3,hJ⟩
   simp only at q1 q2 q3
   subst q1
   revert q3
   revert tm
   refine frame63 ?_
   intro v0 v1 v2 v3 v4 v5 v6 v7 v8 v9 v10 v11 v12 v13 v14 v15 v16 v17 v18 v19 v20 v21 v22 v23 v24 v25 v26 v27 v28 v29 v30 v31 v32 v33 v34 v35 v36 v37 v38 v39 v40 v41 v42 v43 v44 v45 v46 v47 v48 v49 v50 v51 v52 v53 v54 v55 v56 v57 v58 v59 v60 v61 v62 q3
   have q4:v0 = .pointer (some ⟨D,0,none⟩):=by simpa using q3
   subst q4
   clear q3
   rw [HJ.out] at hJ
   obtain ⟨x,k,R1,hW,hSt,hOk,hps⟩:=hJ
   have HPSW:Hid (psOf W D=k.ps):=psOf_eq hW.sc.c16
   have d8:=hW.sc.c8
   have g8:=hW.sc.fz 8
   have hW1:=hW.put (hW.sc.put 8 (.int .i64 3) (Stt S x (k.turn 3)) rfl ⟨rfl,rfl,rfl,rfl,rfl,rfl,rfl,rfl⟩) ((To.refl _ _ _).setCell 8 _ rfl) rfl hOk.how rfl rfl
   clear hW
   by_cases hin1:(Stt S x (k.turn 3)).inn=1
   . have hin1':S.inn=1:=hin1
     have cM:=marks_any hW1.sc
     rw [if_pos hin1] at cM
     have CM:=hide' cM
     clear cM
     have cN:=next_any hW1.sc hW1.rdy hOk.how 6 [45,91] (fun _ => HCR.out _ _ (by simp) (pk_scal _ _ _))
     have hsg:sgn [45,91] = [45,91]:=rfl
     rw [hsg] at cN
     obtain ⟨v,hv⟩ : ∃ v,nx f n (k.turn 3).ps (6:Nat) [45,91]=v:=⟨_,rfl⟩
     have hst2:step S.inn S.nm f n (k.turn 3)=onNx v (k.turn 3) fun r s => if r=91 then s.turn 7 else s.turn 4:=by
      rw [<- hv]
      rw [hin1']; rfl
     have hv':nx f n (Stt S x (k.turn 3)).k.ps ((6:Nat) : Int) [45,91]=v:=hv
     rw [hv'] at cN
     have HPOS:Hid (v.1=0 -> 0 < v.2.2):=fun e => by rw [<- hv] at e ⊢; exact nx_pos e
     have HONE:Hid (v.1=0 -> v.2.1 < 128 -> v.2.1 ≠ 10 -> v.2.2=1):=fun e1 e2 e3 => by rw [<- hv] at e1 e2 e3 ⊢; exact nx_one e1 e2 e3
     have HSC:Hid (v.1=0 -> Rn.scal v.2.1):=fun e => by rw [<- hv] at e ⊢; exact nx_scal e
     have HW1:=hide' hW1
     have HSt:=hide' hSt
     have HOk:=hide' hOk
     have HST2:=hide' hst2
     have CN:=hide' cN
     clear hW1 hSt hOk hv hv' hst2 hsg cN
     go_wp2_with fail
     refine CM.out.mono ?_
     rintro e w1 ⟨rfl,hw1⟩
     rw [hw1]
     clear hw1 w1 CM
     go_wp2_with fail
     refine CN.out.mono ?_
     rintro e W2 ⟨hE,x2,R2,hW2,hx2⟩
     have hWW:=HW1.out.trans hW2
     obtain ⟨v1',v2',v3'⟩:=v
     unfold NxE at hE
     simp only at hE hx2
     clear CN hW2 d8 g8
     have hc0:v1'=0 \/ v1' ≠ 0:=by omega
     rcases hc0 with c0 | c0
     . subst c0
       rw [if_pos rfl] at hE
       subst hE
       have hk1:nxK (0,v2',v3') (Stt S x (k.turn 3)).k=(k.turn 3).took v3':=by simp [nxK]; rfl
       rw [hk1] at hWW
       have hpos:0 < v3':=HPOS.out rfl
       have o2:k.text.length <= 4 * k.ps:=HOk.out.text
       have o3:k.tag.length <= 4 * k.ps:=HOk.out.tag
       have o4:k.attr.length <= 4 * k.ps:=HOk.out.attr
       have o5:k.val.length <= 4 * k.ps:=HOk.out.val
       have o6:k.ref.length <= k.ps:=HOk.out.ref
       have o7:k.ct <= k.ps:=HOk.out.ct
       have o8:k.attrs.length <= k.ps:=HOk.out.attrs
       have hbig:=HW1.out.rdy.big
       have hstep2:=HST2.out
       simp only [onNx,if_true] at hstep2
       have hle:k.ps + v3' <= n:=Nat.le_trans hWW.rdy.qe hWW.rdy.fn
       have hz:k.ct=0:=HOk.out.zer (.inr rfl)
       by_cases r91:v2'=91
       . subst r91
         rw [if_pos rfl] at hstep2
         have cT:=turn_any hWW.sc 7
         have HWa:=hide' hWW
         have HCT:=hide' cT
         have HS2:=hide' hstep2
         clear hWW cT hstep2
         go_wp2_with fail
         refine HCT.out.mono ?_
         rintro e W9 ⟨rfl,hS3,hTo3⟩
         have hWc:=HWa.out.put (k2:=((k.turn 3).took v3').turn 7) hS3 hTo3 rfl HOk.out.how rfl rfl
         have hfin:Part w D B f n S R d (.returned (.bool true)) W9:=by
          refine ⟨true,x2,_,R2,rfl,hWc,HSt.out.trans (.one HOk.out.how HS2.out), ?_⟩
          rw [if_pos rfl]
          refine ⟨?_, ?_⟩
          . refine ⟨HOk.out.how, ?_, ?_, ?_, ?_, ?_, ?_, ?_, ?_, ?_, ?_, ?_, ?_, ?_⟩
            all_goals (simp only [Wk.took,Wk.turn])
            all_goals omega
          . show S.k.ps < k.ps + v3'
            omega
         have HFIN:=hide' hfin
         clear hfin hWc hS3 hTo3 HCT HWa
         go_wp2_with fail
         simp only [jumps1]
         exact bodyPost_ret (v := .bool true) (by simp [results,Tryd.results32,go_sem]) rfl HFIN.out
       . rw [if_neg r91] at hstep2
         have i91:((v2':Int) == 91)=false:=by simp; omega
         have cT:=turn_any hWW.sc 4
         have HWa:=hide' hWW
         have HCT:=hide' cT
         have HS2:=hide' hstep2
         clear hWW cT hstep2
         go_wp2_with fail
         refine HCT.out.mono ?_
         rintro e W9 ⟨rfl,hS3,hTo3⟩
         have hWc:=HWa.out.put (k2:=((k.turn 3).took v3').turn 4) hS3 hTo3 rfl HOk.out.how rfl rfl
         have hfin:Part w D B f n S R d (.returned (.bool true)) W9:=by
          refine ⟨true,x2,_,R2,rfl,hWc,HSt.out.trans (.one HOk.out.how HS2.out), ?_⟩
          rw [if_pos rfl]
          refine ⟨?_, ?_⟩
          . refine ⟨HOk.out.how, ?_, ?_, ?_, ?_, ?_, ?_, ?_, ?_, ?_, ?_, ?_, ?_, ?_⟩
            all_goals (simp only [Wk.took,Wk.turn])
            all_goals omega
          . show S.k.ps < k.ps + v3'
            omega
         have HFIN:=hide' hfin
         clear hfin hWc hS3 hTo3 HCT HWa
         go_wp2_with fail
         simp only [jumps1]
         exact bodyPost_ret (v := .bool true) (by simp [results,Tryd.results32,go_sem]) rfl HFIN.out
     . rw [if_neg c0] at hE
       subst hE
       have hfin:Part w D B f n S R d (.returned (.bool false)) W2:=by
        by_cases c2:v1'=2
        . subst c2
          refine ⟨false,x2,_,R2,rfl,hWW,HSt.out.trans (.one HOk.out.how (by rw [HST2.out]; simp [onNx]; rfl)), ?_⟩
          rw [if_neg (by decide)]
          left
          simp [nxK,Wk.fails]
        . refine ⟨false,x2,_,R2,rfl,hWW, ?_, ?_⟩
          . simp only [nxK,if_neg c0,if_neg c2]
            exact HSt.out
          . rw [if_neg (by decide)]
            right
            simp only [nxK,if_neg c0,if_neg c2]
            show step S.inn S.nm f n (k.turn 3)=none
            rw [HST2.out]
            simp [onNx,c0,c2]
       have HFIN:=hide' hfin
       clear hfin hWW
       go_wp2_with fail
       simp only [jumps1]
       exact bodyPost_ret (v := .bool false) (by simp [results,Tryd.results32,go_sem]) rfl HFIN.out
   . have hin1' : ¬ S.inn=1:=hin1
     have cM:=marks_any hW1.sc
     rw [if_neg hin1] at cM
     have CM:=hide' cM
     clear cM
     have cN:=next_any hW1.sc hW1.rdy hOk.how 6 [45] (fun _ => HCR.out _ _ (by simp) (pk_scal _ _ _))
     have hsg:sgn [45] = [45]:=rfl
     rw [hsg] at cN
     obtain ⟨v,hv⟩ : ∃ v,nx f n (k.turn 3).ps (6:Nat) [45]=v:=⟨_,rfl⟩
     have hst2:step S.inn S.nm f n (k.turn 3)=onNx v (k.turn 3) fun r s => if r=91 then s.turn 7 else s.turn 4:=by
      rw [<- hv]
      have h02:S.inn=0 \/ S.inn=2:=by omega
      rcases h02 with h | h <;> rw [h] <;> rfl
     have hv':nx f n (Stt S x (k.turn 3)).k.ps ((6:Nat) : Int) [45]=v:=hv
     rw [hv'] at cN
     have HPOS:Hid (v.1=0 -> 0 < v.2.2):=fun e => by rw [<- hv] at e ⊢; exact nx_pos e
     have HONE:Hid (v.1=0 -> v.2.1 < 128 -> v.2.1 ≠ 10 -> v.2.2=1):=fun e1 e2 e3 => by rw [<- hv] at e1 e2 e3 ⊢; exact nx_one e1 e2 e3
     have HSC:Hid (v.1=0 -> Rn.scal v.2.1):=fun e => by rw [<- hv] at e ⊢; exact nx_scal e
     have HW1:=hide' hW1
     have HSt:=hide' hSt
     have HOk:=hide' hOk
     have HST2:=hide' hst2
     have CN:=hide' cN
     clear hW1 hSt hOk hv hv' hst2 hsg cN
     go_wp2_with fail
     refine CM.out.mono ?_
     rintro e w1 ⟨rfl,hw1⟩
     rw [hw1]
     clear hw1 w1 CM
     go_wp2_with fail
     refine CN.out.mono ?_
     rintro e W2 ⟨hE,x2,R2,hW2,hx2⟩
     have hWW:=HW1.out.trans hW2
     obtain ⟨v1',v2',v3'⟩:=v
     unfold NxE at hE
     simp only at hE hx2
     clear CN hW2 d8 g8
     have hc0:v1'=0 \/ v1' ≠ 0:=by omega
     rcases hc0 with c0 | c0
     . subst c0
       rw [if_pos rfl] at hE
       subst hE
       have hk1:nxK (0,v2',v3') (Stt S x (k.turn 3)).k=(k.turn 3).took v3':=by simp [nxK]; rfl
       rw [hk1] at hWW
       have hpos:0 < v3':=HPOS.out rfl
       have o2:k.text.length <= 4 * k.ps:=HOk.out.text
       have o3:k.tag.length <= 4 * k.ps:=HOk.out.tag
       have o4:k.attr.length <= 4 * k.ps:=HOk.out.attr
       have o5:k.val.length <= 4 * k.ps:=HOk.out.val
       have o6:k.ref.length <= k.ps:=HOk.out.ref
       have o7:k.ct <= k.ps:=HOk.out.ct
       have o8:k.attrs.length <= k.ps:=HOk.out.attrs
       have hbig:=HW1.out.rdy.big
       have hstep2:=HST2.out
       simp only [onNx,if_true] at hstep2
       have hle:k.ps + v3' <= n:=Nat.le_trans hWW.rdy.qe hWW.rdy.fn
       have hz:k.ct=0:=HOk.out.zer (.inr rfl)
       by_cases r91:v2'=91
       . subst r91
         rw [if_pos rfl] at hstep2
         have cT:=turn_any hWW.sc 7
         have HWa:=hide' hWW
         have HCT:=hide' cT
         have HS2:=hide' hstep2
         clear hWW cT hstep2
         go_wp2_with fail
         refine HCT.out.mono ?_
         rintro e W9 ⟨rfl,hS3,hTo3⟩
         have hWc:=HWa.out.put (k2:=((k.turn 3).took v3').turn 7) hS3 hTo3 rfl HOk.out.how rfl rfl
         have hfin:Part w D B f n S R d (.returned (.bool true)) W9:=by
          refine ⟨true,x2,_,R2,rfl,hWc,HSt.out.trans (.one HOk.out.how HS2.out), ?_⟩
          rw [if_pos rfl]
          refine ⟨?_, ?_⟩
          . refine ⟨HOk.out.how, ?_, ?_, ?_, ?_, ?_, ?_, ?_, ?_, ?_, ?_, ?_, ?_, ?_⟩
            all_goals (simp only [Wk.took,Wk.turn])
            all_goals omega
          . show S.k.ps < k.ps + v3'
            omega
         have HFIN:=hide' hfin
         clear hfin hWc hS3 hTo3 HCT HWa
         go_wp2_with fail
         simp only [jumps1]
         exact bodyPost_ret (v := .bool true) (by simp [results,Tryd.results32,go_sem]) rfl HFIN.out
       . rw [if_neg r91] at hstep2
         have i91:((v2':Int) == 91)=false:=by simp; omega
         have cT:=turn_any hWW.sc 4
         have HWa:=hide' hWW
         have HCT:=hide' cT
         have HS2:=hide' hstep2
         clear hWW cT hstep2
         go_wp2_with fail
         refine HCT.out.mono ?_
         rintro e W9 ⟨rfl,hS3,hTo3⟩
         have hWc:=HWa.out.put (k2:=((k.turn 3).took v3').turn 4) hS3 hTo3 rfl HOk.out.how rfl rfl
         have hfin:Part w D B f n S R d (.returned (.bool true)) W9:=by
          refine ⟨true,x2,_,R2,rfl,hWc,HSt.out.trans (.one HOk.out.how HS2.out), ?_⟩
          rw [if_pos rfl]
          refine ⟨?_, ?_⟩
          . refine ⟨HOk.out.how, ?_, ?_, ?_, ?_, ?_, ?_, ?_, ?_, ?_, ?_, ?_, ?_, ?_⟩
            all_goals (simp only [Wk.took,Wk.turn])
            all_goals omega
          . show S.k.ps < k.ps + v3'
            omega
         have HFIN:=hide' hfin
         clear hfin hWc hS3 hTo3 HCT HWa
         go_wp2_with fail
         simp only [jumps1]
         exact bodyPost_ret (v := .bool true) (by simp [results,Tryd.results32,go_sem]) rfl HFIN.out
     . rw [if_neg c0] at hE
       subst hE
       have hfin:Part w D B f n S R d (.returned (.bool false)) W2:=by
        by_cases c2:v1'=2
        . subst c2
          refine ⟨false,x2,_,R2,rfl,hWW,HSt.out.trans (.one HOk.out.how (by rw [HST2.out]; simp [onNx]; rfl)), ?_⟩
          rw [if_neg (by decide)]
          left
          simp [nxK,Wk.fails]
        . refine ⟨false,x2,_,R2,rfl,hWW, ?_, ?_⟩
          . simp only [nxK,if_neg c0,if_neg c2]
            exact HSt.out
          . rw [if_neg (by decide)]
            right
            simp only [nxK,if_neg c0,if_neg c2]
            show step S.inn S.nm f n (k.turn 3)=none
            rw [HST2.out]
            simp [onNx,c0,c2]
       have HFIN:=hide' hfin
       clear hfin hWW
       go_wp2_with fail
       simp only [jumps1]
       exact bodyPost_ret (v := .bool false) (by simp [results,Tryd.results32,go_sem]) rfl HFIN.out
end
section
variable {w:World} {D B n:Nat} {f:Nat -> Nat} {S:St} {R:Raw} {d:Nat}
theorem startTag_any (h:SC w D B f n S R) (hy:Rdy w B n f S R d) (ok:Ok S.nm S.fed S.k) (hst:S.k.st=9 \/ S.k.st=10 \/ S.k.st=11 \/ S.k.st=12) (hCR:CRs) :
 Calls Tryd.prog 35 #[.pointer (some ⟨D,0,none⟩)] w (Part w D B f n S R d):=by
 have c8:=h.c8
 have hst0:Went w D B f n S R d w S.k S.fed R:=by
  have e:Stt S S.fed S.k=S:=by
   have q1:=hy.q
   have q2:=hy.e
   unfold Stt
   cases S
   simp only at q1 q2
   subst q1 q2
   rfl
  exact ⟨by rw [e]; exact h,To.refl _ _ _,by rw [e]; exact hy,fun k => by have:=ok.how; omega,rfl⟩
 have HST:=hide' hst0
 have OK:=hide' ok
 have HCR:=hide' hCR
 clear h hy hst0 ok hCR
 obtain ⟨Jw,hJw⟩ : ∃ Jw:Nat -> World -> Prop,Jw=fun st w' => ∃ x k R',Went w D B f n S R d w' k x R' /\ Steps S.inn S.nm f n S.k (k.turn st) /\ Ok S.nm x (k.turn st) /\ S.k.ps <= k.ps:=⟨_,rfl⟩
 have HJ:=hide' hJw
 clear hJw
 go_enter Tryd.func35,Tryd.ntmps35
 go_wp2
 refine (fun p4 => (fun p3 => (fun p2 => (fun p1 => wp_scope4 3 0 1 2 (fun a w' => a.defers = [] /\ a.tmps.size=117 /\ a.tmps[0]? = some (.pointer (some ⟨D,0,none⟩)) /\ Jw 9 w' /\ w'.cell? ⟨D,8,none⟩ = some (.int .i64 ((9:Nat) : Int))) (fun a w' => a.defers = [] /\ a.tmps.size=117 /\ a.tmps[0]? = some (.pointer (some ⟨D,0,none⟩)) /\ Jw 10 w') (fun a w' => a.defers = [] /\ a.tmps.size=117 /\ a.tmps[0]? = some (.pointer (some ⟨D,0,none⟩)) /\ Jw 11 w') (fun a w' => a.defers = [] /\ a.tmps.size=117 /\ a.tmps[0]? = some (.pointer (some ⟨D,0,none⟩)) /\ Jw 12 w') (fun _ w' => n - psOf w' D) (fun _ w' => n - psOf w' D) (fun _ w' => n - psOf w' D) (fun _ w' => n - psOf w' D) (by decide) (by decide) (by decide) (by decide) (by decide) (by decide) (by decide) (by decide) (by decide) (by decide) (by decide) (by decide) rfl rfl rfl rfl ?_ p1 p2 p3 p4) ?_) ?_) ?_) ?_
 . rcases hst with e | e | e | e
   . have hj:Jw 9 w:=by
      rw [HJ.out]
      have e0:S.k.turn 9=S.k:=by unfold Wk.turn; rw [<- e]
      exact ⟨S.fed,S.k,R,HST.out,by rw [e0]; exact .refl _,by rw [e0]; exact OK.out,Nat.le_refl _⟩
     rw [e] at c8
     have HJJ:=hide' hj
     have HP1:=hide' p1
     have HC8:=hide' c8
     clear hj e p1 p2 p3 p4
     go_wp2
     refine wp_label ?_
     rename_i hK
     refine hK _ _ ?_
     exact wp_mono (HP1.out _ _ ⟨rfl,rfl,rfl,HJJ.out,HC8.out⟩) (jumps4_mono (fun _ _ h => h.1) (fun _ _ h => h.1) (fun _ _ h => h.1) (fun _ _ h => h.1))
   . have hj:Jw 10 w:=by
      rw [HJ.out]
      have e0:S.k.turn 10=S.k:=by unfold Wk.turn; rw [<- e]
      exact ⟨S.fed,S.k,R,HST.out,by rw [e0]; exact .refl _,by rw [e0]; exact OK.out,Nat.le_refl _⟩
     rw [e] at c8
     have HJJ:=hide' hj
     clear hj e p1 p2 p3 p4
     go_wp2
     go_step3
     exact .inr (.inl ⟨rfl,rfl,rfl,rfl,HJJ.out⟩)
   . have hj:Jw 11 w:=by
      rw [HJ.out]
      have e0:S.k.turn 11=S.k:=by unfold Wk.turn; rw [<- e]
      exact ⟨S.fed,S.k,R,HST.out,by rw [e0]; exact .refl _,by rw [e0]; exact OK.out,Nat.le_refl _⟩
     rw [e] at c8
     have HJJ:=hide' hj
     clear hj e p1 p2 p3 p4
     go_wp2
     go_step3
     exact .inr (.inr (.inl ⟨rfl,rfl,rfl,rfl,HJJ.out⟩))
   . have hj:Jw 12 w:=by
      rw [HJ.out]
      have e0:S.k.turn 12=S.k:=by unfold Wk.turn; rw [<- e]
      exact ⟨S.fed,S.k,R,HST.out,by rw [e0]; exact .refl _,by rw [e0]; exact OK.out,Nat.le_refl _⟩
     rw [e] at c8
     have HJJ:=hide' hj
     clear hj e p1 p2 p3 p4
     go_wp2
     go_step3
     exact .inr (.inr (.inr ⟨rfl,rfl,rfl,rfl,HJJ.out⟩))
 . rintro ⟨tm, df⟩ W ⟨q1, q2, q3, hJ, h8⟩
   simp only at q1 q2 q3
   subst q1
   revert q3
   revert tm
   refine frame117 ?_
   intro v0 v1 v2 v3 v4 v5 v6 v7 v8 v9 v10 v11 v12 v13 v14 v15 v16 v17 v18 v19 v20 v21 v22 v23 v24 v25 v26 v27 v28 v29 v30 v31 v32 v33 v34 v35 v36 v37 v38 v39 v40 v41 v42 v43 v44 v45 v46 v47 v48 v49 v50 v51 v52 v53 v54 v55 v56 v57 v58 v59 v60 v61 v62 v63 v64 v65 v66 v67 v68 v69 v70 v71 v72 v73 v74 v75 v76 v77 v78 v79 v80 v81 v82 v83 v84 v85 v86 v87 v88 v89 v90 v91 v92 v93 v94 v95 v96 v97 v98 v99 v100 v101 v102 v103 v104 v105 v106 v107 v108 v109 v110 v111 v112 v113 v114 v115 v116 q3
   have q4:v0 = .pointer (some ⟨D,0,none⟩):=by simpa using q3
   subst q4
   clear q3
   rw [HJ.out] at hJ
   obtain ⟨x,k,R1,hW,hSt,hOk,hps⟩:=hJ
   have HPSW:Hid (psOf W D=k.ps):=psOf_eq hW.sc.c16
   have e9:k.st=9:=by
    have h9:=hW.sc.c8
    rw [h8] at h9
    simp only [Option.some.injEq,Value.int.injEq,true_and] at h9
    have h10:((9:Nat) : Int)=(k.st:Int):=h9
    omega
   have e9':k.turn 9=k:=by unfold Wk.turn; rw [<- e9]
   have hW1:Went w D B f n S R d W (k.turn 9) x R1:=by rw [e9']; exact hW
   have HP2:=hide' p2
   clear hW p2 p3 p4 e9 e9' h8
   have cN:=next_any hW1.sc hW1.rdy hOk.how 3 [32,9,10,13,47,62] (fun _ => HCR.out _ _ (by simp) (pk_scal _ _ _))
   have hsg:sgn [32,9,10,13,47,62] = [32,9,10,13,47,62]:=rfl
   rw [hsg] at cN
   obtain ⟨v,hv⟩ : ∃ v,nx f n (k.turn 9).ps (3:Nat) [32,9,10,13,47,62]=v:=⟨_,rfl⟩
   have hst2:step S.inn S.nm f n (k.turn 9)=onNx v (k.turn 9) fun r s => if r=47 then s.turn 12 else if r=62 then s.whole 1 else if isB r=true then s.turn 10 else { s with tag:=s.tag ++ encodeRune r }:=by
    rw [<- hv]
    rfl
   have hv':nx f n (Stt S x (k.turn 9)).k.ps ((3:Nat) : Int) [32,9,10,13,47,62]=v:=hv
   rw [hv'] at cN
   have HPOS:Hid (v.1=0 -> 0 < v.2.2):=fun e => by rw [<- hv] at e ⊢; exact nx_pos e
   have HONE:Hid (v.1=0 -> v.2.1 < 128 -> v.2.1 ≠ 10 -> v.2.2=1):=fun e1 e2 e3 => by rw [<- hv] at e1 e2 e3 ⊢; exact nx_one e1 e2 e3
   have HSC:Hid (v.1=0 -> Rn.scal v.2.1):=fun e => by rw [<- hv] at e ⊢; exact nx_scal e
   have HW1:=hide' hW1
   have HSt:=hide' hSt
   have HOk:=hide' hOk
   have HST2:=hide' hst2
   have CN:=hide' cN
   clear hW1 hSt hOk hv hv' hst2 hsg cN
   go_wp2_with fail
   refine CN.out.mono ?_
   rintro e W2 ⟨hE,x2,R2,hW2,hx2⟩
   have hWW:=HW1.out.trans hW2
   obtain ⟨v1',v2',v3'⟩:=v
   unfold NxE at hE
   simp only at hE hx2
   clear CN hW2 
   have hc0:v1'=0 \/ v1' ≠ 0:=by omega
   rcases hc0 with c0 | c0
   . subst c0
     rw [if_pos rfl] at hE
     subst hE
     have hk1:nxK (0,v2',v3') (Stt S x (k.turn 9)).k=(k.turn 9).took v3':=by simp [nxK]; rfl
     rw [hk1] at hWW
     have hpos:0 < v3':=HPOS.out rfl
     have o2:k.text.length <= 4 * k.ps:=HOk.out.text
     have o3:k.tag.length <= 4 * k.ps:=HOk.out.tag
     have o4:k.attr.length <= 4 * k.ps:=HOk.out.attr
     have o5:k.val.length <= 4 * k.ps:=HOk.out.val
     have o6:k.ref.length <= k.ps:=HOk.out.ref
     have o7:k.ct <= k.ps:=HOk.out.ct
     have o8:k.attrs.length <= k.ps:=HOk.out.attrs
     have hbig:=HW1.out.rdy.big
     have hstep2:=HST2.out
     simp only [onNx,if_true] at hstep2
     have hle:k.ps + v3' <= n:=Nat.le_trans hWW.rdy.qe hWW.rdy.fn
     by_cases r47:v2'=47
     . subst r47
       rw [if_pos rfl] at hstep2
       have hok:Ok S.nm x2 (((k.turn 9).took v3').turn 12):=by
        refine ⟨HOk.out.how, ?_, ?_, ?_, ?_, ?_, ?_, ?_, ?_, ?_, ?_, ?_, ?_, ?_⟩
        all_goals (simp only [Wk.took,Wk.turn])
        all_goals omega
       have hj:Jw 12 W2:=by
        rw [HJ.out]
        exact ⟨x2,_,R2,hWW,HSt.out.trans (.one HOk.out.how hstep2),hok,by show S.k.ps <= k.ps + v3'; omega⟩
       have hmu:n - psOf (W2) D < n - psOf W D:=by
        rw [show psOf (W2) D=k.ps + v3' from psOf_eq hWW.sc.c16,HPSW.out]
        omega
       have HJJ:=hide' hj
       have HMU:=hide' hmu
       clear hj hmu hok hstep2 hWW
       go_wp2_with fail
       go_step3
       exact .inr (.inr (.inr ⟨rfl,⟨rfl,rfl,rfl,HJJ.out⟩,HMU.out⟩))
     . rw [if_neg r47] at hstep2
       have i47:((v2':Int) == 47)=false:=by simp; omega
       by_cases r62:v2'=62
       . subst r62
         rw [if_pos rfl] at hstep2
         have cT:=whole_any hWW.sc 1
         have HWa:=hide' hWW
         have HCT:=hide' cT
         have HS2:=hide' hstep2
         clear hWW cT hstep2
         go_wp2_with fail
         refine HCT.out.mono ?_
         rintro e W9 ⟨rfl,hS3,hTo3⟩
         have hfin:Part w D B f n S R d (.returned (.bool false)) W9:=by
          refine ⟨false,x2,((k.turn 9).took v3').whole 1,_,rfl,⟨hS3,HWa.out.go.trans hTo3, ?_,fun h => ?_,HWa.out.rest⟩,HSt.out.trans (.one HOk.out.how HS2.out), ?_⟩
          . exact ⟨HWa.out.rdy.tb.to (HWa.out.sc.to_below hTo3),Nat.le_trans HWa.out.rdy.bw hTo3.mv.size,HWa.out.rdy.fp,rfl,rfl,HWa.out.rdy.qe,HWa.out.rdy.fn,HWa.out.rdy.mn,HWa.out.rdy.lt,HWa.out.rdy.big,HWa.out.rdy.pl⟩
          . simp [Wk.whole] at h
          . rw [if_neg (by decide)]
            left
            simp [Wk.whole]
         have HFIN:=hide' hfin
         clear hfin hS3 hTo3 HCT HWa
         go_wp2_with fail
         simp only [jumps4]
         exact bodyPost_ret (v := .bool false) (by simp [results,Tryd.results35,go_sem]) rfl HFIN.out
       . rw [if_neg r62] at hstep2
         have i62:((v2':Int) == 62)=false:=by simp; omega
         by_cases hb:isB v2'=true
         . rw [if_pos hb] at hstep2
           have cB:=is_any 1 (v2':Int) W2 hWW.rdy.tb.spans
           rw [show Ch.isT Ch.tab 1 (v2':Int)=true from hb] at cB
           have HWb:=hide' hWW
           have HCB:=hide' cB
           have HS3:=hide' hstep2
           clear hWW cB hstep2
           go_wp2_with fail
           refine HCB.out.mono ?_
           rintro e W3 ⟨rfl,hbel⟩
           have hWW:=HWb.out.put (k2:=(k.turn 9).took v3') (HWb.out.sc.below hbel) (To.of_below hbel) rfl HOk.out.how rfl rfl
           have hstep2:=HS3.out
           clear HCB hbel HWb HS3
           have hok:Ok S.nm x2 (((k.turn 9).took v3').turn 10):=by
            refine ⟨HOk.out.how, ?_, ?_, ?_, ?_, ?_, ?_, ?_, ?_, ?_, ?_, ?_, ?_, ?_⟩
            all_goals (simp only [Wk.took,Wk.turn])
            all_goals omega
           have hj:Jw 10 W3:=by
            rw [HJ.out]
            exact ⟨x2,_,R2,hWW,HSt.out.trans (.one HOk.out.how hstep2),hok,by show S.k.ps <= k.ps + v3'; omega⟩
           have hmu:n - psOf (W3) D < n - psOf W D:=by
            rw [show psOf (W3) D=k.ps + v3' from psOf_eq hWW.sc.c16,HPSW.out]
            omega
           have HJJ:=hide' hj
           have HMU:=hide' hmu
           clear hj hmu hok hstep2 hWW
           go_wp2_with fail
           refine wp_label ?_
           rename_i hK
           refine hK _ _ ?_
           exact wp_mono (HP2.out _ _ ⟨rfl,rfl,rfl,HJJ.out⟩) (jumps4_mono (fun _ _ h => ⟨h.1,Nat.lt_trans h.2 HMU.out⟩) (fun _ _ h => ⟨h.1,Nat.lt_trans h.2 HMU.out⟩) (fun _ _ h => ⟨h.1,Nat.lt_trans h.2 HMU.out⟩) (fun _ _ h => ⟨h.1,Nat.lt_trans h.2 HMU.out⟩))
         . rw [if_neg hb] at hstep2
           have hsc:Rn.scal v2':=HSC.out rfl
           have cB:=is_any 1 (v2':Int) W2 hWW.rdy.tb.spans
           rw [show Ch.isT Ch.tab 1 (v2':Int)=false from Bool.eq_false_iff.mpr hb] at cB
           have HWb:=hide' hWW
           have HCB:=hide' cB
           have HS3:=hide' hstep2
           clear hWW cB hstep2
           go_wp2_with fail
           refine HCB.out.mono ?_
           rintro e W3 ⟨rfl,hbel⟩
           have hWW:=HWb.out.put (k2:=(k.turn 9).took v3') (HWb.out.sc.below hbel) (To.of_below hbel) rfl HOk.out.how rfl rfl
           have hstep2:=HS3.out
           clear HCB hbel HWb HS3
           have dF:=hWW.sc.c24
           obtain ⟨paF,capF,etF⟩:=own_shape hWW.sc.tag
           have cA:=appRune_any B R2.tag k.tag v2' W3 hWW.sc.tag (by omega) hWW.rdy.bw hsc
           rw [etF] at dF
           rw [show (#[R2.tag,Value.int .i32 (v2':Nat)] : Array Value) = #[.slice paF k.tag.length capF, .int .i32 (v2':Nat)] by rw [etF]; rfl] at cA
           have HWW:=hide' hWW
           have HCA:=hide' cA
           have HS2':=hide' hstep2
           clear hWW cA etF hstep2
           dsimp only [Stt,Wk.took,Wk.turn] at dF
           go_wp2_with fail
           refine HCA.out.mono ?_
           rintro e W4 ⟨v',rfl,hrow,hg⟩
           obtain ⟨pa',m',cap',rfl⟩:=own_shape3 hrow
           have hneD:R2.tag.ownBlock ≠ some D:=fun e => by have:=HWW.out.sc.apart 0 6 D rfl (by rw [<- e]; rfl); omega
           have hD4:=hg.block D HWW.out.sc.lt0 hneD
           have eF:W4.cell? ⟨D,24,none⟩ = some R2.tag:=(World.cell?_of_block (a:=⟨D,24,none⟩) hD4).trans HWW.out.sc.c24
           have gF:W4.frozen? ⟨D,24,none⟩ = false:=(World.frozen?_of_block (a:=⟨D,24,none⟩) hD4).trans (HWW.out.sc.fz 24)
           have hW5:=HWW.out.put (k2 := { (k.turn 9).took v3' with tag:=k.tag ++ encodeRune v2' }) (HWW.out.sc.tag' hg hrow) (To.tag' hg) rfl HOk.out.how rfl rfl
           have hen:=Rn.enc_length (v2':Int)
           have hel:=Rn.el_pos (v2':Int)
           have hstep2:=HS2'.out
           clear hg hrow hD4 hneD HCA dF
           have hc8:=hW5.sc.c8
           dsimp only [Stt,Wk.took,Wk.turn] at hc8
           have HC8:=hide' hc8
           clear hc8
           have hok:Ok S.nm x2 (({ (k.turn 9).took v3' with tag:=k.tag ++ encodeRune v2' }).turn 9):=by
            refine ⟨HOk.out.how, ?_, ?_, ?_, ?_, ?_, ?_, ?_, ?_, ?_, ?_, ?_, ?_, ?_⟩
            all_goals (simp only [Wk.took,Wk.turn,List.length_append])
            all_goals omega
           have hj:Jw 9 (W4.setCell ⟨D,24,none⟩ (.slice pa' m' cap')):=by
            rw [HJ.out]
            exact ⟨x2,_,_,hW5,HSt.out.trans (.one HOk.out.how hstep2),hok,by show S.k.ps <= k.ps + v3'; omega⟩
           have hmu:n - psOf (W4.setCell ⟨D,24,none⟩ (.slice pa' m' cap')) D < n - psOf W D:=by
            rw [show psOf (W4.setCell ⟨D,24,none⟩ (.slice pa' m' cap')) D=k.ps + v3' from psOf_eq hW5.sc.c16,HPSW.out]
            omega
           have HJJ:=hide' hj
           have HMU:=hide' hmu
           clear hj hmu hok hstep2 hW5
           go_wp2_with fail
           go_step3
           exact .inl ⟨rfl,⟨rfl,rfl,rfl,⟨HJJ.out,HC8.out⟩⟩,HMU.out⟩
   . rw [if_neg c0] at hE
     subst hE
     have hfin:Part w D B f n S R d (.returned (.bool false)) W2:=by
      by_cases c2:v1'=2
      . subst c2
        refine ⟨false,x2,_,R2,rfl,hWW,HSt.out.trans (.one HOk.out.how (by rw [HST2.out]; simp [onNx]; rfl)), ?_⟩
        rw [if_neg (by decide)]
        left
        simp [nxK,Wk.fails]
      . refine ⟨false,x2,_,R2,rfl,hWW, ?_, ?_⟩
        . simp only [nxK,if_neg c0,if_neg c2]
          exact HSt.out
        . rw [if_neg (by decide)]
          right
          simp only [nxK,if_neg c0,if_neg c2]
          show step S.inn S.nm f n (k.turn 9)=none
          rw [HST2.out]
          simp [onNx,c0,c2]
     have HFIN:=hide' hfin
     clear hfin hWW
     go_wp2_with fail
     simp only [jumps4]
     exact bodyPost_ret (v := .bool false) (by simp [results,Tryd.results35,go_sem]) rfl HFIN.out
 . rintro ⟨tm, df⟩ W ⟨q1, q2, q3, hJ⟩
   simp only at q1 q2 q3
   subst q1
   revert q3
   revert tm
   refine frame117 ?_
   intro v0 v1 v2 v3 v4 v5 v6 v7 v8 v9 v10 v11 v12 v13 v14 v15 v16 v17 v18 v19 v20 v21 v22 v23 v24 v25 v26 v27 v28 v29 v30 v31 v32 v33 v34 v35 v36 v37 v38 v39 v40 v41 v42 v43 v44 v45 v46 v47 v48 v49 v50 v51 v52 v53 v54 v55 v56 v57 v58 v59 v60 v61 v62 v63 v64 v65 v66 v67 v68 v69 v70 v71 v72 v73 v74 v75 v76 v77 v78 v79 v80 v81 v82 v83 v84 v85 v86 v87 v88 v89 v90 v91 v92 v93 v94 v95 v96 v97 v98 v99 v100 v101 v102 v103 v104 v105 v106 v107 v108 v109 v110 v111 v112 v113 v114 v115 v116 q3
   have q4:v0 = .pointer (some ⟨D,0,none⟩):=by simpa using q3
   subst q4
   clear q3
   rw [HJ.out] at hJ
   obtain ⟨x,k,R1,hW,hSt,hOk,hps⟩:=hJ
   have HPSW:Hid (psOf W D=k.ps):=psOf_eq hW.sc.c16
   have d8:=hW.sc.c8
   have g8:=hW.sc.fz 8
   have hW1:=hW.put (hW.sc.put 8 (.int .i64 10) (Stt S x (k.turn 10)) rfl ⟨rfl,rfl,rfl,rfl,rfl,rfl,rfl,rfl⟩) ((To.refl _ _ _).setCell 8 _ rfl) rfl hOk.how rfl rfl
   clear hW p3 p4
   have cN:=next_any hW1.sc hW1.rdy hOk.how 2 [32,9,10,13,47,62] (fun _ => HCR.out _ _ (by simp) (pk_scal _ _ _))
   have hsg:sgn [32,9,10,13,47,62] = [32,9,10,13,47,62]:=rfl
   rw [hsg] at cN
   obtain ⟨v,hv⟩ : ∃ v,nx f n (k.turn 10).ps (2:Nat) [32,9,10,13,47,62]=v:=⟨_,rfl⟩
   have hst2:step S.inn S.nm f n (k.turn 10)=onNx v (k.turn 10) fun r s => if r=47 then s.turn 12 else if r=62 then s.whole 1 else if isB r=true then s else { s with attr:=encodeRune r,st:=13 }:=by
    rw [<- hv]
    rfl
   have hv':nx f n (Stt S x (k.turn 10)).k.ps ((2:Nat) : Int) [32,9,10,13,47,62]=v:=hv
   rw [hv'] at cN
   have HPOS:Hid (v.1=0 -> 0 < v.2.2):=fun e => by rw [<- hv] at e ⊢; exact nx_pos e
   have HONE:Hid (v.1=0 -> v.2.1 < 128 -> v.2.1 ≠ 10 -> v.2.2=1):=fun e1 e2 e3 => by rw [<- hv] at e1 e2 e3 ⊢; exact nx_one e1 e2 e3
   have HSC:Hid (v.1=0 -> Rn.scal v.2.1):=fun e => by rw [<- hv] at e ⊢; exact nx_scal e
   have HW1:=hide' hW1
   have HSt:=hide' hSt
   have HOk:=hide' hOk
   have HST2:=hide' hst2
   have CN:=hide' cN
   clear hW1 hSt hOk hv hv' hst2 hsg cN
   go_wp2_with fail
   refine CN.out.mono ?_
   rintro e W2 ⟨hE,x2,R2,hW2,hx2⟩
   have hWW:=HW1.out.trans hW2
   obtain ⟨v1',v2',v3'⟩:=v
   unfold NxE at hE
   simp only at hE hx2
   clear CN hW2 d8 g8
   have hc0:v1'=0 \/ v1' ≠ 0:=by omega
   rcases hc0 with c0 | c0
   . subst c0
     rw [if_pos rfl] at hE
     subst hE
     have hk1:nxK (0,v2',v3') (Stt S x (k.turn 10)).k=(k.turn 10).took v3':=by simp [nxK]; rfl
     rw [hk1] at hWW
     have hpos:0 < v3':=HPOS.out rfl
     have o2:k.text.length <= 4 * k.ps:=HOk.out.text
     have o3:k.tag.length <= 4 * k.ps:=HOk.out.tag
     have o4:k.attr.length <= 4 * k.ps:=HOk.out.attr
     have o5:k.val.length <= 4 * k.ps:=HOk.out.val
     have o6:k.ref.length <= k.ps:=HOk.out.ref
     have o7:k.ct <= k.ps:=HOk.out.ct
     have o8:k.attrs.length <= k.ps:=HOk.out.attrs
     have hbig:=HW1.out.rdy.big
     have hstep2:=HST2.out
     simp only [onNx,if_true] at hstep2
     have hle:k.ps + v3' <= n:=Nat.le_trans hWW.rdy.qe hWW.rdy.fn
     by_cases r47:v2'=47
     . subst r47
       rw [if_pos rfl] at hstep2
       have hok:Ok S.nm x2 (((k.turn 10).took v3').turn 12):=by
        refine ⟨HOk.out.how, ?_, ?_, ?_, ?_, ?_, ?_, ?_, ?_, ?_, ?_, ?_, ?_, ?_⟩
        all_goals (simp only [Wk.took,Wk.turn])
        all_goals omega
       have hj:Jw 12 W2:=by
        rw [HJ.out]
        exact ⟨x2,_,R2,hWW,HSt.out.trans (.one HOk.out.how hstep2),hok,by show S.k.ps <= k.ps + v3'; omega⟩
       have hmu:n - psOf (W2) D < n - psOf W D:=by
        rw [show psOf (W2) D=k.ps + v3' from psOf_eq hWW.sc.c16,HPSW.out]
        omega
       have HJJ:=hide' hj
       have HMU:=hide' hmu
       clear hj hmu hok hstep2 hWW
       go_wp2_with fail
       go_step3
       exact .inr (.inr (.inr ⟨rfl,⟨rfl,rfl,rfl,HJJ.out⟩,HMU.out⟩))
     . rw [if_neg r47] at hstep2
       have i47:((v2':Int) == 47)=false:=by simp; omega
       by_cases r62:v2'=62
       . subst r62
         rw [if_pos rfl] at hstep2
         have cT:=whole_any hWW.sc 1
         have HWa:=hide' hWW
         have HCT:=hide' cT
         have HS2:=hide' hstep2
         clear hWW cT hstep2
         go_wp2_with fail
         refine HCT.out.mono ?_
         rintro e W9 ⟨rfl,hS3,hTo3⟩
         have hfin:Part w D B f n S R d (.returned (.bool false)) W9:=by
          refine ⟨false,x2,((k.turn 10).took v3').whole 1,_,rfl,⟨hS3,HWa.out.go.trans hTo3, ?_,fun h => ?_,HWa.out.rest⟩,HSt.out.trans (.one HOk.out.how HS2.out), ?_⟩
          . exact ⟨HWa.out.rdy.tb.to (HWa.out.sc.to_below hTo3),Nat.le_trans HWa.out.rdy.bw hTo3.mv.size,HWa.out.rdy.fp,rfl,rfl,HWa.out.rdy.qe,HWa.out.rdy.fn,HWa.out.rdy.mn,HWa.out.rdy.lt,HWa.out.rdy.big,HWa.out.rdy.pl⟩
          . simp [Wk.whole] at h
          . rw [if_neg (by decide)]
            left
            simp [Wk.whole]
         have HFIN:=hide' hfin
         clear hfin hS3 hTo3 HCT HWa
         go_wp2_with fail
         simp only [jumps4]
         exact bodyPost_ret (v := .bool false) (by simp [results,Tryd.results35,go_sem]) rfl HFIN.out
       . rw [if_neg r62] at hstep2
         have i62:((v2':Int) == 62)=false:=by simp; omega
         by_cases hb:isB v2'=true
         . rw [if_pos hb] at hstep2
           have cB:=is_any 1 (v2':Int) W2 hWW.rdy.tb.spans
           rw [show Ch.isT Ch.tab 1 (v2':Int)=true from hb] at cB
           have HWb:=hide' hWW
           have HCB:=hide' cB
           have HS3:=hide' hstep2
           clear hWW cB hstep2
           go_wp2_with fail
           refine HCB.out.mono ?_
           rintro e W3 ⟨rfl,hbel⟩
           have hWW:=HWb.out.put (k2:=(k.turn 10).took v3') (HWb.out.sc.below hbel) (To.of_below hbel) rfl HOk.out.how rfl rfl
           have hstep2:=HS3.out
           clear HCB hbel HWb HS3
           have hok:Ok S.nm x2 (((k.turn 10).took v3').turn 10):=by
            refine ⟨HOk.out.how, ?_, ?_, ?_, ?_, ?_, ?_, ?_, ?_, ?_, ?_, ?_, ?_, ?_⟩
            all_goals (simp only [Wk.took,Wk.turn])
            all_goals omega
           have hj:Jw 10 W3:=by
            rw [HJ.out]
            exact ⟨x2,_,R2,hWW,HSt.out.trans (.one HOk.out.how hstep2),hok,by show S.k.ps <= k.ps + v3'; omega⟩
           have hmu:n - psOf (W3) D < n - psOf W D:=by
            rw [show psOf (W3) D=k.ps + v3' from psOf_eq hWW.sc.c16,HPSW.out]
            omega
           have HJJ:=hide' hj
           have HMU:=hide' hmu
           clear hj hmu hok hstep2 hWW
           go_wp2_with fail
           go_step3
           exact .inr (.inl ⟨rfl,⟨rfl,rfl,rfl,HJJ.out⟩,HMU.out⟩)
         . rw [if_neg hb] at hstep2
           have hsc:Rn.scal v2':=HSC.out rfl
           have cB:=is_any 1 (v2':Int) W2 hWW.rdy.tb.spans
           rw [show Ch.isT Ch.tab 1 (v2':Int)=false from Bool.eq_false_iff.mpr hb] at cB
           have HWb:=hide' hWW
           have HCB:=hide' cB
           have HS3:=hide' hstep2
           clear hWW cB hstep2
           go_wp2_with fail
           refine HCB.out.mono ?_
           rintro e W3 ⟨rfl,hbel⟩
           have hWW:=HWb.out.put (k2:=(k.turn 10).took v3') (HWb.out.sc.below hbel) (To.of_below hbel) rfl HOk.out.how rfl rfl
           have hstep2:=HS3.out
           clear HCB hbel HWb HS3
           obtain ⟨pr,cr,hrow0,hcr,hgr,hz⟩ : ∃ pr cr,R2.attr = .slice pr k.attr.length cr /\ k.attr.length <= cr /\ W3.ownsRow B 5 1 (.slice pr 0 cr) 0 [] /\ (Value.slice pr 0 cr).ownBlock=R2.attr.ownBlock:=by
            rcases hWW.sc.attr.2 with ⟨e1,e2⟩ | ⟨g,cap,cur,hv,hb,hg,h1,h2,h3,h4⟩
            . have e3:k.attr.length=0:=e2
              exact ⟨none,0,by rw [e1,e3],by omega,World.ownsRow_nil _ _ _ _,by rw [e1]⟩
            . exact ⟨some ⟨g,0,none⟩,cap,hv,h1,⟨by simp, .inr ⟨g,cap,cur,rfl,hb,hg,Nat.zero_le _,h2,h3,by simp⟩⟩,by rw [hv]; rfl⟩
           have d27:=hWW.sc.c27
           rw [hrow0] at d27
           have i1:(0:Int) <= cr:=by omega
           have cA:=appRune_any B (.slice pr 0 cr) [] v2' W3 hgr (by simp) hWW.rdy.bw hsc
           have HWW:=hide' hWW
           have HCA:=hide' cA
           have HS2':=hide' hstep2
           have HZ:=hide' hz
           have HR0:=hide' hrow0
           clear hWW cA hgr hz hrow0 hstep2
           go_wp2_with fail
           refine HCA.out.mono ?_
           rintro e W4 ⟨v',rfl,hrow,hg0⟩
           obtain ⟨pa',m',cap',rfl⟩:=own_shape3 hrow
           have hg:Grew W3 R2.attr W4 (.slice pa' m' cap'):=by
            refine ⟨hg0.os,hg0.tape,hg0.output,hg0.size,fun i hi hn => ?_, ?_⟩
            . rw [<- HZ.out] at hn
              exact hg0.block i hi hn
            . rw [<- HZ.out]
              exact hg0.own
           have hneD:R2.attr.ownBlock ≠ some D:=fun e => by have:=HWW.out.sc.apart 0 9 D rfl (by rw [<- e]; rfl); omega
           have hD4:=hg.block D HWW.out.sc.lt0 hneD
           have eF:W4.cell? ⟨D,27,none⟩ = some (.slice pr k.attr.length cr):=(World.cell?_of_block (a:=⟨D,27,none⟩) hD4).trans d27
           have gF:W4.frozen? ⟨D,27,none⟩ = false:=(World.frozen?_of_block (a:=⟨D,27,none⟩) hD4).trans (HWW.out.sc.fz 27)
           have hW5:=HWW.out.put (k2 := { (k.turn 10).took v3' with attr:=encodeRune v2' }) (HWW.out.sc.attr' hg hrow) (To.attr' hg) rfl HOk.out.how rfl rfl
           have hen:=Rn.enc_length (v2':Int)
           have hel:=Rn.el_pos (v2':Int)
           have hstep2:=HS2'.out
           clear hg hg0 hrow hD4 hneD HCA d27
           have cT:=turn_any hW5.sc 13
           have HWa:=hide' hW5
           have HCT:=hide' cT
           have HS2:=hide' hstep2
           clear hW5 cT hstep2
           go_wp2_with fail
           refine HCT.out.mono ?_
           rintro e W9 ⟨rfl,hS3,hTo3⟩
           have hWc:=HWa.out.put (k2:=({ (k.turn 10).took v3' with attr:=encodeRune v2' }).turn 13) hS3 hTo3 rfl HOk.out.how rfl rfl
           have hfin:Part w D B f n S R d (.returned (.bool true)) W9:=by
            refine ⟨true,x2,_,_,rfl,hWc,HSt.out.trans (.one HOk.out.how HS2.out), ?_⟩
            rw [if_pos rfl]
            refine ⟨?_, ?_⟩
            . refine ⟨HOk.out.how, ?_, ?_, ?_, ?_, ?_, ?_, ?_, ?_, ?_, ?_, ?_, ?_, ?_⟩
              all_goals (simp only [Wk.took,Wk.turn])
              all_goals omega
            . show S.k.ps < k.ps + v3'
              omega
           have HFIN:=hide' hfin
           clear hfin hWc hS3 hTo3 HCT HWa
           go_wp2_with fail
           simp only [jumps4]
           exact bodyPost_ret (v := .bool true) (by simp [results,Tryd.results35,go_sem]) rfl HFIN.out
   . rw [if_neg c0] at hE
     subst hE
     have hfin:Part w D B f n S R d (.returned (.bool false)) W2:=by
      by_cases c2:v1'=2
      . subst c2
        refine ⟨false,x2,_,R2,rfl,hWW,HSt.out.trans (.one HOk.out.how (by rw [HST2.out]; simp [onNx]; rfl)), ?_⟩
        rw [if_neg (by decide)]
        left
        simp [nxK,Wk.fails]
      . refine ⟨false,x2,_,R2,rfl,hWW, ?_, ?_⟩
        . simp only [nxK,if_neg c0,if_neg c2]
          exact HSt.out
        . rw [if_neg (by decide)]
          right
          simp only [nxK,if_neg c0,if_neg c2]
          show step S.inn S.nm f n (k.turn 10)=none
          rw [HST2.out]
          simp [onNx,c0,c2]
     have HFIN:=hide' hfin
     clear hfin hWW
     go_wp2_with fail
     simp only [jumps4]
     exact bodyPost_ret (v := .bool false) (by simp [results,Tryd.results35,go_sem]) rfl HFIN.out
 . rintro ⟨tm,df⟩ W ⟨q1,q2,q3,hJ⟩
   simp only at q1 q2 q3
   subst q1
   revert q3
   revert tm
   refine frame117 ?_
   intro v0 v1 v2 v3 v4 v5 v6 v7 v8 v9 v10 v11 v12 v13 v14 v15 v16 v17 v18 v19 v20 v21 v22 v23 v24 v25 v26 v27 v28 v29 v30 v31 v32 v33 v34 v35 v36 v37 v38 v39 v40 v41 v42 v43 v44 v45 v46 v47 v48 v49 v50 v51 v52 v53 v54 v55 v56 v57 v58 v59 v60 v61 v62 v63 v64 v65 v66 v67 v68 v69 v70 v71 v72 v73 v74 v75 v76 v77 v78 v79 v80 v81 v82 v83 v84 v85 v86 v87 v88 v89 v90 v91 v92 v93 v94 v95 v96 v97 v98 v99 v100 v101 v102 v103 v104 v105 v106 v107 v108 v109 v110 v111 v112 v113 v114 v115 v116 q3
   have q4:v0 = .pointer (some ⟨D,0,none⟩):=by simpa using q3
   subst q4
   clear q3
   rw [HJ.out] at hJ
   obtain ⟨x,k,R1,hW,hSt,hOk,hps⟩:=hJ
   have HPSW:Hid (psOf W D=k.ps):=psOf_eq hW.sc.c16
   have d8:=hW.sc.c8
   have g8:=hW.sc.fz 8
   have hW1:=hW.put (hW.sc.put 8 (.int .i64 11) (Stt S x (k.turn 11)) rfl ⟨rfl,rfl,rfl,rfl,rfl,rfl,rfl,rfl⟩) ((To.refl _ _ _).setCell 8 _ rfl) rfl hOk.how rfl rfl
   have HP4:=hide' p4
   clear hW p4
   have cN:=next_any hW1.sc hW1.rdy hOk.how 1 [47,62] (fun _ => HCR.out _ _ (by simp) (pk_scal _ _ _))
   have hsg:sgn [47,62] = [47,62]:=rfl
   rw [hsg] at cN
   obtain ⟨v,hv⟩ : ∃ v,nx f n (k.turn 11).ps (1:Nat) [47,62]=v:=⟨_,rfl⟩
   have hst2:step S.inn S.nm f n (k.turn 11)=onNx v (k.turn 11) fun r s => if r=62 then s.whole 1 else if r=47 then s.turn 12 else s.turn 10:=by
    rw [<- hv]
    rfl
   have hv':nx f n (Stt S x (k.turn 11)).k.ps ((1:Nat) : Int) [47,62]=v:=hv
   rw [hv'] at cN
   have HPOS:Hid (v.1=0 -> 0 < v.2.2):=fun e => by rw [<- hv] at e ⊢; exact nx_pos e
   have HONE:Hid (v.1=0 -> v.2.1 < 128 -> v.2.1 ≠ 10 -> v.2.2=1):=fun e1 e2 e3 => by rw [<- hv] at e1 e2 e3 ⊢; exact nx_one e1 e2 e3
   have HSC:Hid (v.1=0 -> Rn.scal v.2.1):=fun e => by rw [<- hv] at e ⊢; exact nx_scal e
   have HW1:=hide' hW1
   have HSt:=hide' hSt
   have HOk:=hide' hOk
   have HST2:=hide' hst2
   have CN:=hide' cN
   clear hW1 hSt hOk hv hv' hst2 hsg cN
   go_wp2_with fail
   refine CN.out.mono ?_
   rintro e W2 ⟨hE,x2,R2,hW2,hx2⟩
   have hWW:=HW1.out.trans hW2
   obtain ⟨v1',v2',v3'⟩:=v
   unfold NxE at hE
   simp only at hE hx2
   clear CN hW2 d8 g8
   have hc0:v1'=0 \/ v1' ≠ 0:=by omega
   rcases hc0 with c0 | c0
   . subst c0
     rw [if_pos rfl] at hE
     subst hE
     have hk1:nxK (0,v2',v3') (Stt S x (k.turn 11)).k=(k.turn 11).took v3':=by simp [nxK]; rfl
     rw [hk1] at hWW
     have hpos:0 < v3':=HPOS.out rfl
     have o2:k.text.length <= 4 * k.ps:=HOk.out.text
     have o3:k.tag.length <= 4 * k.ps:=HOk.out.tag
     have o4:k.attr.length <= 4 * k.ps:=HOk.out.attr
     have o5:k.val.length <= 4 * k.ps:=HOk.out.val
     have o6:k.ref.length <= k.ps:=HOk.out.ref
     have o7:k.ct <= k.ps:=HOk.out.ct
     have o8:k.attrs.length <= k.ps:=HOk.out.attrs
     have hbig:=HW1.out.rdy.big
     have hstep2:=HST2.out
     simp only [onNx,if_true] at hstep2
     have hle:k.ps + v3' <= n:=Nat.le_trans hWW.rdy.qe hWW.rdy.fn
     by_cases r62:v2'=62
     . subst r62
       rw [if_pos rfl] at hstep2
       have cT:=whole_any hWW.sc 1
       have HWa:=hide' hWW
       have HCT:=hide' cT
       have HS2:=hide' hstep2
       clear hWW cT hstep2
       go_wp2_with fail
       refine HCT.out.mono ?_
       rintro e W9 ⟨rfl,hS3,hTo3⟩
       have hfin:Part w D B f n S R d (.returned (.bool false)) W9:=by
        refine ⟨false,x2,((k.turn 11).took v3').whole 1,_,rfl,⟨hS3,HWa.out.go.trans hTo3, ?_,fun h => ?_,HWa.out.rest⟩,HSt.out.trans (.one HOk.out.how HS2.out), ?_⟩
        . exact ⟨HWa.out.rdy.tb.to (HWa.out.sc.to_below hTo3),Nat.le_trans HWa.out.rdy.bw hTo3.mv.size,HWa.out.rdy.fp,rfl,rfl,HWa.out.rdy.qe,HWa.out.rdy.fn,HWa.out.rdy.mn,HWa.out.rdy.lt,HWa.out.rdy.big,HWa.out.rdy.pl⟩
        . simp [Wk.whole] at h
        . rw [if_neg (by decide)]
          left
          simp [Wk.whole]
       have HFIN:=hide' hfin
       clear hfin hS3 hTo3 HCT HWa
       go_wp2_with fail
       simp only [jumps4]
       exact bodyPost_ret (v := .bool false) (by simp [results,Tryd.results35,go_sem]) rfl HFIN.out
     . rw [if_neg r62] at hstep2
       have i62:((v2':Int) == 62)=false:=by simp; omega
       by_cases r47:v2'=47
       . subst r47
         rw [if_pos rfl] at hstep2
         have hok:Ok S.nm x2 (((k.turn 11).took v3').turn 12):=by
          refine ⟨HOk.out.how, ?_, ?_, ?_, ?_, ?_, ?_, ?_, ?_, ?_, ?_, ?_, ?_, ?_⟩
          all_goals (simp only [Wk.took,Wk.turn])
          all_goals omega
         have hj:Jw 12 W2:=by
          rw [HJ.out]
          exact ⟨x2,_,R2,hWW,HSt.out.trans (.one HOk.out.how hstep2),hok,by show S.k.ps <= k.ps + v3'; omega⟩
         have hmu:n - psOf (W2) D < n - psOf W D:=by
          rw [show psOf (W2) D=k.ps + v3' from psOf_eq hWW.sc.c16,HPSW.out]
          omega
         have HJJ:=hide' hj
         have HMU:=hide' hmu
         clear hj hmu hok hstep2 hWW
         go_wp2_with fail
         refine wp_label ?_
         rename_i hK
         refine hK _ _ ?_
         exact wp_mono (HP4.out _ _ ⟨rfl,rfl,rfl,HJJ.out⟩) (jumps4_mono (fun _ _ h => ⟨h.1,Nat.lt_trans h.2 HMU.out⟩) (fun _ _ h => ⟨h.1,Nat.lt_trans h.2 HMU.out⟩) (fun _ _ h => ⟨h.1,Nat.lt_trans h.2 HMU.out⟩) (fun _ _ h => ⟨h.1,Nat.lt_trans h.2 HMU.out⟩))
       . rw [if_neg r47] at hstep2
         have i47:((v2':Int) == 47)=false:=by simp; omega
         have hok:Ok S.nm x2 (((k.turn 11).took v3').turn 10):=by
          refine ⟨HOk.out.how, ?_, ?_, ?_, ?_, ?_, ?_, ?_, ?_, ?_, ?_, ?_, ?_, ?_⟩
          all_goals (simp only [Wk.took,Wk.turn])
          all_goals omega
         have hj:Jw 10 W2:=by
          rw [HJ.out]
          exact ⟨x2,_,R2,hWW,HSt.out.trans (.one HOk.out.how hstep2),hok,by show S.k.ps <= k.ps + v3'; omega⟩
         have hmu:n - psOf (W2) D < n - psOf W D:=by
          rw [show psOf (W2) D=k.ps + v3' from psOf_eq hWW.sc.c16,HPSW.out]
          omega
         have HJJ:=hide' hj
         have HMU:=hide' hmu
         clear hj hmu hok hstep2 hWW
         go_wp2_with fail
         go_step3
         exact .inr (.inl ⟨rfl,⟨rfl,rfl,rfl,HJJ.out⟩,HMU.out⟩)
   . rw [if_neg c0] at hE
     subst hE
     have hfin:Part w D B f n S R d (.returned (.bool false)) W2:=by
      by_cases c2:v1'=2
      . subst c2
        refine ⟨false,x2,_,R2,rfl,hWW,HSt.out.trans (.one HOk.out.how (by rw [HST2.out]; simp [onNx]; rfl)), ?_⟩
        rw [if_neg (by decide)]
        left
        simp [nxK,Wk.fails]
      . refine ⟨false,x2,_,R2,rfl,hWW, ?_, ?_⟩
        . simp only [nxK,if_neg c0,if_neg c2]
          exact HSt.out
        . rw [if_neg (by decide)]
          right
          simp only [nxK,if_neg c0,if_neg c2]
          show step S.inn S.nm f n (k.turn 11)=none
          rw [HST2.out]
          simp [onNx,c0,c2]
     have HFIN:=hide' hfin
     clear hfin hWW
     go_wp2_with fail
     simp only [jumps4]
     exact bodyPost_ret (v := .bool false) (by simp [results,Tryd.results35,go_sem]) rfl HFIN.out
 . rintro ⟨tm,df⟩ W ⟨q1,q2,q3,hJ⟩
   simp only at q1 q2 q3
   subst q1
   revert q3
   revert tm
   refine frame117 ?_
   intro v0 v1 v2 v3 v4 v5 v6 v7 v8 v9 v10 v11 v12 v13 v14 v15 v16 v17 v18 v19 v20 v21 v22 v23 v24 v25 v26 v27 v28 v29 v30 v31 v32 v33 v34 v35 v36 v37 v38 v39 v40 v41 v42 v43 v44 v45 v46 v47 v48 v49 v50 v51 v52 v53 v54 v55 v56 v57 v58 v59 v60 v61 v62 v63 v64 v65 v66 v67 v68 v69 v70 v71 v72 v73 v74 v75 v76 v77 v78 v79 v80 v81 v82 v83 v84 v85 v86 v87 v88 v89 v90 v91 v92 v93 v94 v95 v96 v97 v98 v99 v100 v101 v102 v103 v104 v105 v106 v107 v108 v109 v110 v111 v112 v113 v114 v115 v116 q3
   have q4:v0 = .pointer (some ⟨D,0,none⟩):=by simpa using q3
   subst q4
   clear q3
   rw [HJ.out] at hJ
   obtain ⟨x,k,R1,hW,hSt,hOk,hps⟩:=hJ
   have HPSW:Hid (psOf W D=k.ps):=psOf_eq hW.sc.c16
   have d8:=hW.sc.c8
   have g8:=hW.sc.fz 8
   have hW1:=hW.put (hW.sc.put 8 (.int .i64 12) (Stt S x (k.turn 12)) rfl ⟨rfl,rfl,rfl,rfl,rfl,rfl,rfl,rfl⟩) ((To.refl _ _ _).setCell 8 _ rfl) rfl hOk.how rfl rfl
   clear hW
   have cN:=next_any hW1.sc hW1.rdy hOk.how 6 [62] (fun _ => HCR.out _ _ (by simp) (pk_scal _ _ _))
   have hsg:sgn [62] = [62]:=rfl
   rw [hsg] at cN
   obtain ⟨v,hv⟩ : ∃ v,nx f n (k.turn 12).ps (6:Nat) [62]=v:=⟨_,rfl⟩
   have hst2:step S.inn S.nm f n (k.turn 12)=onNx v (k.turn 12) fun _ s => s.whole 3:=by
    rw [<- hv]
    rfl
   have hv':nx f n (Stt S x (k.turn 12)).k.ps ((6:Nat) : Int) [62]=v:=hv
   rw [hv'] at cN
   have HPOS:Hid (v.1=0 -> 0 < v.2.2):=fun e => by rw [<- hv] at e ⊢; exact nx_pos e
   have HONE:Hid (v.1=0 -> v.2.1 < 128 -> v.2.1 ≠ 10 -> v.2.2=1):=fun e1 e2 e3 => by rw [<- hv] at e1 e2 e3 ⊢; exact nx_one e1 e2 e3
   have HSC:Hid (v.1=0 -> Rn.scal v.2.1):=fun e => by rw [<- hv] at e ⊢; exact nx_scal e
   have HW1:=hide' hW1
   have HSt:=hide' hSt
   have HOk:=hide' hOk
   have HST2:=hide' hst2
   have CN:=hide' cN
   clear hW1 hSt hOk hv hv' hst2 hsg cN
   go_wp2_with fail
   refine CN.out.mono ?_
   rintro e W2 ⟨hE,x2,R2,hW2,hx2⟩
   have hWW:=HW1.out.trans hW2
   obtain ⟨v1',v2',v3'⟩:=v
   unfold NxE at hE
   simp only at hE hx2
   clear CN hW2 d8 g8
   have hc0:v1'=0 \/ v1' ≠ 0:=by omega
   rcases hc0 with c0 | c0
   . subst c0
     rw [if_pos rfl] at hE
     subst hE
     have hk1:nxK (0,v2',v3') (Stt S x (k.turn 12)).k=(k.turn 12).took v3':=by simp [nxK]; rfl
     rw [hk1] at hWW
     have hpos:0 < v3':=HPOS.out rfl
     have o2:k.text.length <= 4 * k.ps:=HOk.out.text
     have o3:k.tag.length <= 4 * k.ps:=HOk.out.tag
     have o4:k.attr.length <= 4 * k.ps:=HOk.out.attr
     have o5:k.val.length <= 4 * k.ps:=HOk.out.val
     have o6:k.ref.length <= k.ps:=HOk.out.ref
     have o7:k.ct <= k.ps:=HOk.out.ct
     have o8:k.attrs.length <= k.ps:=HOk.out.attrs
     have hbig:=HW1.out.rdy.big
     have hstep2:=HST2.out
     simp only [onNx,if_true] at hstep2
     have hle:k.ps + v3' <= n:=Nat.le_trans hWW.rdy.qe hWW.rdy.fn
     have cT:=whole_any hWW.sc 3
     have HWa:=hide' hWW
     have HCT:=hide' cT
     have HS2:=hide' hstep2
     clear hWW cT hstep2
     go_wp2_with fail
     refine HCT.out.mono ?_
     rintro e W9 ⟨rfl,hS3,hTo3⟩
     have hfin:Part w D B f n S R d (.returned (.bool false)) W9:=by
      refine ⟨false,x2,((k.turn 12).took v3').whole 3,_,rfl,⟨hS3,HWa.out.go.trans hTo3, ?_,fun h => ?_,HWa.out.rest⟩,HSt.out.trans (.one HOk.out.how HS2.out), ?_⟩
      . exact ⟨HWa.out.rdy.tb.to (HWa.out.sc.to_below hTo3),Nat.le_trans HWa.out.rdy.bw hTo3.mv.size,HWa.out.rdy.fp,rfl,rfl,HWa.out.rdy.qe,HWa.out.rdy.fn,HWa.out.rdy.mn,HWa.out.rdy.lt,HWa.out.rdy.big,HWa.out.rdy.pl⟩
      . simp [Wk.whole] at h
      . rw [if_neg (by decide)]
        left
        simp [Wk.whole]
     have HFIN:=hide' hfin
     clear hfin hS3 hTo3 HCT HWa
     go_wp2_with fail
     simp only [jumps4]
     exact bodyPost_ret (v := .bool false) (by simp [results,Tryd.results35,go_sem]) rfl HFIN.out
   . rw [if_neg c0] at hE
     subst hE
     have hfin:Part w D B f n S R d (.returned (.bool false)) W2:=by
      by_cases c2:v1'=2
      . subst c2
        refine ⟨false,x2,_,R2,rfl,hWW,HSt.out.trans (.one HOk.out.how (by rw [HST2.out]; simp [onNx]; rfl)), ?_⟩
        rw [if_neg (by decide)]
        left
        simp [nxK,Wk.fails]
      . refine ⟨false,x2,_,R2,rfl,hWW, ?_, ?_⟩
        . simp only [nxK,if_neg c0,if_neg c2]
          exact HSt.out
        . rw [if_neg (by decide)]
          right
          simp only [nxK,if_neg c0,if_neg c2]
          show step S.inn S.nm f n (k.turn 12)=none
          rw [HST2.out]
          simp [onNx,c0,c2]
     have HFIN:=hide' hfin
     clear hfin hWW
     go_wp2_with fail
     simp only [jumps4]
     exact bodyPost_ret (v := .bool false) (by simp [results,Tryd.results35,go_sem]) rfl HFIN.out
end
section
variable {w:World} {D B n:Nat} {f:Nat -> Nat} {S:St} {R:Raw} {d:Nat}
def Twices:Prop := ∀ (w:World) (D B:Nat) (f:Nat -> Nat) (n:Nat) (S:St) (R:Raw) (d:Nat),SC w D B f n S R -> Rdy w B n f S R d -> Ok S.nm S.fed S.k ->
 Calls Tryd.prog 57 #[.pointer (some ⟨D,0,none⟩)] w fun e w' => e = .returned (.bool (decide (S.k.ps < n /\ f S.k.ps ∈ bl ++ [61] /\ S.k.attr ∈ S.k.attrs.map (·.1)))) /\ Below w.heap.size w w'
theorem attribute_any (h:SC w D B f n S R) (hy:Rdy w B n f S R d) (ok:Ok S.nm S.fed S.k) (hst:S.k.st=13 \/ S.k.st=14 \/ S.k.st=15) (hCR:CRs) (hTW:Twices) :
 Calls Tryd.prog 36 #[.pointer (some ⟨D,0,none⟩)] w (Part w D B f n S R d):=by
 have c8:=h.c8
 have hst0:Went w D B f n S R d w S.k S.fed R:=by
  have e:Stt S S.fed S.k=S:=by
   have q1:=hy.q
   have q2:=hy.e
   unfold Stt
   cases S
   simp only at q1 q2
   subst q1 q2
   rfl
  exact ⟨by rw [e]; exact h,To.refl _ _ _,by rw [e]; exact hy,fun k => by have:=ok.how; omega,rfl⟩
 have HST:=hide' hst0
 have OK:=hide' ok
 have HCR:=hide' hCR
 have HTW:=hide' hTW
 clear h hy hst0 ok hCR hTW
 obtain ⟨Jw,hJw⟩ : ∃ Jw:Nat -> World -> Prop,Jw=fun st w' => ∃ x k R',Went w D B f n S R d w' k x R' /\ Steps S.inn S.nm f n S.k (k.turn st) /\ Ok S.nm x (k.turn st) /\ S.k.ps <= k.ps:=⟨_,rfl⟩
 have HJ:=hide' hJw
 clear hJw
 go_enter Tryd.func36,Tryd.ntmps36
 go_wp2
 refine (fun p3 => (fun p2 => (fun p1 => wp_scope3 2 0 1 (fun a w' => a.defers = [] /\ a.tmps.size=92 /\ a.tmps[0]? = some (.pointer (some ⟨D,0,none⟩)) /\ Jw 13 w' /\ w'.cell? ⟨D,8,none⟩ = some (.int .i64 ((13:Nat) : Int))) (fun a w' => a.defers = [] /\ a.tmps.size=92 /\ a.tmps[0]? = some (.pointer (some ⟨D,0,none⟩)) /\ Jw 14 w') (fun a w' => a.defers = [] /\ a.tmps.size=92 /\ a.tmps[0]? = some (.pointer (some ⟨D,0,none⟩)) /\ Jw 15 w') (fun _ w' => n - psOf w' D) (fun _ w' => n - psOf w' D) (fun _ w' => n - psOf w' D) (by decide) (by decide) (by decide) (by decide) (by decide) (by decide) rfl rfl rfl ?_ p1 p2 p3) ?_) ?_) ?_
 . rcases hst with e | e | e
   . have hj:Jw 13 w:=by
      rw [HJ.out]
      have e0:S.k.turn 13=S.k:=by unfold Wk.turn; rw [<- e]
      exact ⟨S.fed,S.k,R,HST.out,by rw [e0]; exact .refl _,by rw [e0]; exact OK.out,Nat.le_refl _⟩
     rw [e] at c8
     have HJJ:=hide' hj
     have HP1:=hide' p1
     have HC8:=hide' c8
     clear hj e p1 p2 p3
     go_wp2
     refine wp_label ?_
     rename_i hK
     refine hK _ _ ?_
     exact wp_mono (HP1.out _ _ ⟨rfl,rfl,rfl,HJJ.out,HC8.out⟩) (jumps3_mono (fun _ _ h => h.1) (fun _ _ h => h.1) (fun _ _ h => h.1))
   . have hj:Jw 14 w:=by
      rw [HJ.out]
      have e0:S.k.turn 14=S.k:=by unfold Wk.turn; rw [<- e]
      exact ⟨S.fed,S.k,R,HST.out,by rw [e0]; exact .refl _,by rw [e0]; exact OK.out,Nat.le_refl _⟩
     rw [e] at c8
     have HJJ:=hide' hj
     clear hj e p1 p2 p3
     go_wp2
     go_step3
     exact .inr (.inl ⟨rfl,rfl,rfl,rfl,HJJ.out⟩)
   . have hj:Jw 15 w:=by
      rw [HJ.out]
      have e0:S.k.turn 15=S.k:=by unfold Wk.turn; rw [<- e]
      exact ⟨S.fed,S.k,R,HST.out,by rw [e0]; exact .refl _,by rw [e0]; exact OK.out,Nat.le_refl _⟩
     rw [e] at c8
     have HJJ:=hide' hj
     clear hj e p1 p2 p3
     go_wp2
     go_step3
     exact .inr (.inr ⟨rfl,rfl,rfl,rfl,HJJ.out⟩)
 . rintro ⟨tm, df⟩ W ⟨q1, q2, q3, hJ, h8⟩
   simp only at q1 q2 q3
   subst q1
   revert q3
   revert tm
   refine frame92 ?_
   intro v0 v1 v2 v3 v4 v5 v6 v7 v8 v9 v10 v11 v12 v13 v14 v15 v16 v17 v18 v19 v20 v21 v22 v23 v24 v25 v26 v27 v28 v29 v30 v31 v32 v33 v34 v35 v36 v37 v38 v39 v40 v41 v42 v43 v44 v45 v46 v47 v48 v49 v50 v51 v52 v53 v54 v55 v56 v57 v58 v59 v60 v61 v62 v63 v64 v65 v66 v67 v68 v69 v70 v71 v72 v73 v74 v75 v76 v77 v78 v79 v80 v81 v82 v83 v84 v85 v86 v87 v88 v89 v90 v91 q3
   have q4:v0 = .pointer (some ⟨D,0,none⟩):=by simpa using q3
   subst q4
   clear q3
   rw [HJ.out] at hJ
   obtain ⟨x,k,R1,hW,hSt,hOk,hps⟩:=hJ
   have HPSW:Hid (psOf W D=k.ps):=psOf_eq hW.sc.c16
   have e9:k.st=13:=by
    have h9:=hW.sc.c8
    rw [h8] at h9
    simp only [Option.some.injEq,Value.int.injEq,true_and] at h9
    have h10:((13:Nat) : Int)=(k.st:Int):=h9
    omega
   have e9':k.turn 13=k:=by unfold Wk.turn; rw [<- e9]
   have hW1:Went w D B f n S R d W (k.turn 13) x R1:=by rw [e9']; exact hW
   have HP2:=hide' p2
   clear hW p2 p3 e9 e9' h8
   by_cases htw:k.ps < n /\ f k.ps ∈ bl ++ [61] /\ k.attr ∈ k.attrs.map (·.1)
   . have cW:=HTW.out W D B f n _ R1 d hW1.sc hW1.rdy hOk
     have d16:=hW1.sc.c16
     dsimp only [Stt,Wk.turn] at d16
     rw [show decide ((Stt S x (k.turn 13)).k.ps < n /\ f (Stt S x (k.turn 13)).k.ps ∈ bl ++ [61] /\ (Stt S x (k.turn 13)).k.attr ∈ (Stt S x (k.turn 13)).k.attrs.map (·.1))=true from decide_eq_true htw] at cW
     have CW:=hide' cW
     have HW0:=hide' hW1
     have HSt0:=hide' hSt
     have HOk0:=hide' hOk
     clear cW hW1 hSt hOk
     go_wp2_with fail
     refine CW.out.mono ?_
     rintro e W1 ⟨rfl,hbel⟩
     have hW1:=HW0.out.put (k2:=k.turn 13) (HW0.out.sc.below hbel) (To.of_below hbel) rfl HOk0.out.how rfl rfl
     have hSt:=HSt0.out
     have hOk:=HOk0.out
     clear CW hbel d16
     have hlt:k.ps < n:=htw.1
     have hbig:=hW1.rdy.big
     have d16:=hW1.sc.c16
     dsimp only [Stt,Wk.turn] at d16
     have cF:=fail_any hW1.sc k.ps hW1.rdy.lt (by omega) (by omega) hW1.rdy.pl60
     have hs:step S.inn S.nm f n (k.turn 13)=some ((k.turn 13).fails k.ps):=if_pos htw
     have HCF:=hide' cF
     have HWW:=hide' hW1
     have HST9:=hide' (hSt.trans (.one hOk.how hs))
     clear cF hW1 hs hSt hOk htw
     go_wp2_with fail
     refine HCF.out.mono ?_
     rintro e W3 ⟨rfl,hS3,hTo3⟩
     have hfin:Part w D B f n S R d (.returned (.bool false)) W3:=by
      refine ⟨false,x,(k.turn 13).fails k.ps,_,rfl,⟨hS3,HWW.out.go.trans hTo3, ?_,fun _ => rfl,HWW.out.rest⟩,HST9.out, ?_⟩
      . exact ⟨HWW.out.rdy.tb.to (HWW.out.sc.to_below hTo3),Nat.le_trans HWW.out.rdy.bw hTo3.mv.size,HWW.out.rdy.fp,rfl,rfl,HWW.out.rdy.qe,HWW.out.rdy.fn,HWW.out.rdy.mn,HWW.out.rdy.lt,HWW.out.rdy.big,HWW.out.rdy.pl⟩
      . rw [if_neg (by decide)]
        left
        simp [Wk.fails]
     have HFIN:=hide' hfin
     clear hfin hS3 hTo3 HCF
     go_wp2_with fail
     simp only [jumps3]
     exact bodyPost_ret (v := .bool false) (by simp [results,Tryd.results36,go_sem]) rfl HFIN.out
   . have cW:=HTW.out W D B f n _ R1 d hW1.sc hW1.rdy hOk
     have d16:=hW1.sc.c16
     dsimp only [Stt,Wk.turn] at d16
     rw [show decide ((Stt S x (k.turn 13)).k.ps < n /\ f (Stt S x (k.turn 13)).k.ps ∈ bl ++ [61] /\ (Stt S x (k.turn 13)).k.attr ∈ (Stt S x (k.turn 13)).k.attrs.map (·.1))=false from decide_eq_false htw] at cW
     have CW:=hide' cW
     have HW0:=hide' hW1
     have HSt0:=hide' hSt
     have HOk0:=hide' hOk
     clear cW hW1 hSt hOk
     go_wp2_with fail
     refine CW.out.mono ?_
     rintro e W1 ⟨rfl,hbel⟩
     have hW1:=HW0.out.put (k2:=k.turn 13) (HW0.out.sc.below hbel) (To.of_below hbel) rfl HOk0.out.how rfl rfl
     have hSt:=HSt0.out
     have hOk:=HOk0.out
     clear CW hbel d16
     have HNT:=hide' htw
     clear htw
     have cN:=next_any hW1.sc hW1.rdy hOk.how 3 [32,9,10,13,61] (fun _ => HCR.out _ _ (by simp) (pk_scal _ _ _))
     have hsg:sgn [32,9,10,13,61] = [32,9,10,13,61]:=rfl
     rw [hsg] at cN
     obtain ⟨v,hv⟩ : ∃ v,nx f n (k.turn 13).ps (3:Nat) [32,9,10,13,61]=v:=⟨_,rfl⟩
     have hst2:step S.inn S.nm f n (k.turn 13)=onNx v (k.turn 13) fun r s => if r=61 then s.turn 15 else if isB r=true then s.turn 14 else { s with attr:=s.attr ++ encodeRune r }:=by
      rw [<- hv]
      exact if_neg HNT.out
     have hv':nx f n (Stt S x (k.turn 13)).k.ps ((3:Nat) : Int) [32,9,10,13,61]=v:=hv
     rw [hv'] at cN
     have HPOS:Hid (v.1=0 -> 0 < v.2.2):=fun e => by rw [<- hv] at e ⊢; exact nx_pos e
     have HONE:Hid (v.1=0 -> v.2.1 < 128 -> v.2.1 ≠ 10 -> v.2.2=1):=fun e1 e2 e3 => by rw [<- hv] at e1 e2 e3 ⊢; exact nx_one e1 e2 e3
     have HSC:Hid (v.1=0 -> Rn.scal v.2.1):=fun e => by rw [<- hv] at e ⊢; exact nx_scal e
     have HW1:=hide' hW1
     have HSt:=hide' hSt
     have HOk:=hide' hOk
     have HST2:=hide' hst2
     have CN:=hide' cN
     clear hW1 hSt hOk hv hv' hst2 hsg cN
     go_wp2_with fail
     refine CN.out.mono ?_
     rintro e W2 ⟨hE,x2,R2,hW2,hx2⟩
     have hWW:=HW1.out.trans hW2
     obtain ⟨v1',v2',v3'⟩:=v
     unfold NxE at hE
     simp only at hE hx2
     clear CN hW2 
     have hc0:v1'=0 \/ v1' ≠ 0:=by omega
     rcases hc0 with c0 | c0
     . subst c0
       rw [if_pos rfl] at hE
       subst hE
       have hk1:nxK (0,v2',v3') (Stt S x (k.turn 13)).k=(k.turn 13).took v3':=by simp [nxK]; rfl
       rw [hk1] at hWW
       have hpos:0 < v3':=HPOS.out rfl
       have o2:k.text.length <= 4 * k.ps:=HOk.out.text
       have o3:k.tag.length <= 4 * k.ps:=HOk.out.tag
       have o4:k.attr.length <= 4 * k.ps:=HOk.out.attr
       have o5:k.val.length <= 4 * k.ps:=HOk.out.val
       have o6:k.ref.length <= k.ps:=HOk.out.ref
       have o7:k.ct <= k.ps:=HOk.out.ct
       have o8:k.attrs.length <= k.ps:=HOk.out.attrs
       have hbig:=HW1.out.rdy.big
       have hstep2:=HST2.out
       simp only [onNx,if_true] at hstep2
       have hle:k.ps + v3' <= n:=Nat.le_trans hWW.rdy.qe hWW.rdy.fn
       by_cases r61:v2'=61
       . subst r61
         rw [if_pos rfl] at hstep2
         have hok:Ok S.nm x2 (((k.turn 13).took v3').turn 15):=by
          refine ⟨HOk.out.how, ?_, ?_, ?_, ?_, ?_, ?_, ?_, ?_, ?_, ?_, ?_, ?_, ?_⟩
          all_goals (simp only [Wk.took,Wk.turn])
          all_goals omega
         have hj:Jw 15 W2:=by
          rw [HJ.out]
          exact ⟨x2,_,R2,hWW,HSt.out.trans (.one HOk.out.how hstep2),hok,by show S.k.ps <= k.ps + v3'; omega⟩
         have hmu:n - psOf (W2) D < n - psOf W D:=by
          rw [show psOf (W2) D=k.ps + v3' from psOf_eq hWW.sc.c16,HPSW.out]
          omega
         have HJJ:=hide' hj
         have HMU:=hide' hmu
         clear hj hmu hok hstep2 hWW
         go_wp2_with fail
         go_step3
         exact .inr (.inr ⟨rfl,⟨rfl,rfl,rfl,HJJ.out⟩,HMU.out⟩)
       . rw [if_neg r61] at hstep2
         have i61:((v2':Int) == 61)=false:=by simp; omega
         by_cases hb:isB v2'=true
         . rw [if_pos hb] at hstep2
           have cB:=is_any 1 (v2':Int) W2 hWW.rdy.tb.spans
           rw [show Ch.isT Ch.tab 1 (v2':Int)=true from hb] at cB
           have HWb:=hide' hWW
           have HCB:=hide' cB
           have HS3:=hide' hstep2
           clear hWW cB hstep2
           go_wp2_with fail
           refine HCB.out.mono ?_
           rintro e W3 ⟨rfl,hbel⟩
           have hWW:=HWb.out.put (k2:=(k.turn 13).took v3') (HWb.out.sc.below hbel) (To.of_below hbel) rfl HOk.out.how rfl rfl
           have hstep2:=HS3.out
           clear HCB hbel HWb HS3
           have hok:Ok S.nm x2 (((k.turn 13).took v3').turn 14):=by
            refine ⟨HOk.out.how, ?_, ?_, ?_, ?_, ?_, ?_, ?_, ?_, ?_, ?_, ?_, ?_, ?_⟩
            all_goals (simp only [Wk.took,Wk.turn])
            all_goals omega
           have hj:Jw 14 W3:=by
            rw [HJ.out]
            exact ⟨x2,_,R2,hWW,HSt.out.trans (.one HOk.out.how hstep2),hok,by show S.k.ps <= k.ps + v3'; omega⟩
           have hmu:n - psOf (W3) D < n - psOf W D:=by
            rw [show psOf (W3) D=k.ps + v3' from psOf_eq hWW.sc.c16,HPSW.out]
            omega
           have HJJ:=hide' hj
           have HMU:=hide' hmu
           clear hj hmu hok hstep2 hWW
           go_wp2_with fail
           refine wp_label ?_
           rename_i hK
           refine hK _ _ ?_
           exact wp_mono (HP2.out _ _ ⟨rfl,rfl,rfl,HJJ.out⟩) (jumps3_mono (fun _ _ h => ⟨h.1,Nat.lt_trans h.2 HMU.out⟩) (fun _ _ h => ⟨h.1,Nat.lt_trans h.2 HMU.out⟩) (fun _ _ h => ⟨h.1,Nat.lt_trans h.2 HMU.out⟩))
         . rw [if_neg hb] at hstep2
           have hsc:Rn.scal v2':=HSC.out rfl
           have cB:=is_any 1 (v2':Int) W2 hWW.rdy.tb.spans
           rw [show Ch.isT Ch.tab 1 (v2':Int)=false from Bool.eq_false_iff.mpr hb] at cB
           have HWb:=hide' hWW
           have HCB:=hide' cB
           have HS3:=hide' hstep2
           clear hWW cB hstep2
           go_wp2_with fail
           refine HCB.out.mono ?_
           rintro e W3 ⟨rfl,hbel⟩
           have hWW:=HWb.out.put (k2:=(k.turn 13).took v3') (HWb.out.sc.below hbel) (To.of_below hbel) rfl HOk.out.how rfl rfl
           have hstep2:=HS3.out
           clear HCB hbel HWb HS3
           have dF:=hWW.sc.c27
           obtain ⟨paF,capF,etF⟩:=own_shape hWW.sc.attr
           have cA:=appRune_any B R2.attr k.attr v2' W3 hWW.sc.attr (by omega) hWW.rdy.bw hsc
           rw [etF] at dF
           rw [show (#[R2.attr,Value.int .i32 (v2':Nat)] : Array Value) = #[.slice paF k.attr.length capF, .int .i32 (v2':Nat)] by rw [etF]; rfl] at cA
           have HWW:=hide' hWW
           have HCA:=hide' cA
           have HS2':=hide' hstep2
           clear hWW cA etF hstep2
           dsimp only [Stt,Wk.took,Wk.turn] at dF
           go_wp2_with fail
           refine HCA.out.mono ?_
           rintro e W4 ⟨v',rfl,hrow,hg⟩
           obtain ⟨pa',m',cap',rfl⟩:=own_shape3 hrow
           have hneD:R2.attr.ownBlock ≠ some D:=fun e => by have:=HWW.out.sc.apart 0 9 D rfl (by rw [<- e]; rfl); omega
           have hD4:=hg.block D HWW.out.sc.lt0 hneD
           have eF:W4.cell? ⟨D,27,none⟩ = some R2.attr:=(World.cell?_of_block (a:=⟨D,27,none⟩) hD4).trans HWW.out.sc.c27
           have gF:W4.frozen? ⟨D,27,none⟩ = false:=(World.frozen?_of_block (a:=⟨D,27,none⟩) hD4).trans (HWW.out.sc.fz 27)
           have hW5:=HWW.out.put (k2 := { (k.turn 13).took v3' with attr:=k.attr ++ encodeRune v2' }) (HWW.out.sc.attr' hg hrow) (To.attr' hg) rfl HOk.out.how rfl rfl
           have hen:=Rn.enc_length (v2':Int)
           have hel:=Rn.el_pos (v2':Int)
           have hstep2:=HS2'.out
           clear hg hrow hD4 hneD HCA dF
           have hc8:=hW5.sc.c8
           dsimp only [Stt,Wk.took,Wk.turn] at hc8
           have HC8:=hide' hc8
           clear hc8
           have hok:Ok S.nm x2 (({ (k.turn 13).took v3' with attr:=k.attr ++ encodeRune v2' }).turn 13):=by
            refine ⟨HOk.out.how, ?_, ?_, ?_, ?_, ?_, ?_, ?_, ?_, ?_, ?_, ?_, ?_, ?_⟩
            all_goals (simp only [Wk.took,Wk.turn,List.length_append])
            all_goals omega
           have hj:Jw 13 (W4.setCell ⟨D,27,none⟩ (.slice pa' m' cap')):=by
            rw [HJ.out]
            exact ⟨x2,_,_,hW5,HSt.out.trans (.one HOk.out.how hstep2),hok,by show S.k.ps <= k.ps + v3'; omega⟩
           have hmu:n - psOf ((W4.setCell ⟨D,27,none⟩ (.slice pa' m' cap'))) D < n - psOf W D:=by
            rw [show psOf ((W4.setCell ⟨D,27,none⟩ (.slice pa' m' cap'))) D=k.ps + v3' from psOf_eq hW5.sc.c16,HPSW.out]
            omega
           have HJJ:=hide' hj
           have HMU:=hide' hmu
           clear hj hmu hok hstep2 hW5
           go_wp2_with fail
           go_step3
           exact .inl ⟨rfl,⟨rfl,rfl,rfl,⟨HJJ.out,HC8.out⟩⟩,HMU.out⟩
     . rw [if_neg c0] at hE
       subst hE
       have hfin:Part w D B f n S R d (.returned (.bool false)) W2:=by
        by_cases c2:v1'=2
        . subst c2
          refine ⟨false,x2,_,R2,rfl,hWW,HSt.out.trans (.one HOk.out.how (by rw [HST2.out]; simp [onNx]; rfl)), ?_⟩
          rw [if_neg (by decide)]
          left
          simp [nxK,Wk.fails]
        . refine ⟨false,x2,_,R2,rfl,hWW, ?_, ?_⟩
          . simp only [nxK,if_neg c0,if_neg c2]
            exact HSt.out
          . rw [if_neg (by decide)]
            right
            simp only [nxK,if_neg c0,if_neg c2]
            show step S.inn S.nm f n (k.turn 13)=none
            rw [HST2.out]
            simp [onNx,c0,c2]
       have HFIN:=hide' hfin
       clear hfin hWW
       go_wp2_with fail
       simp only [jumps3]
       exact bodyPost_ret (v := .bool false) (by simp [results,Tryd.results36,go_sem]) rfl HFIN.out
 . rintro ⟨tm,df⟩ W ⟨q1,q2,q3,hJ⟩
   simp only at q1 q2 q3
   subst q1
   revert q3
   revert tm
   refine frame92 ?_
   intro v0 v1 v2 v3 v4 v5 v6 v7 v8 v9 v10 v11 v12 v13 v14 v15 v16 v17 v18 v19 v20 v21 v22 v23 v24 v25 v26 v27 v28 v29 v30 v31 v32 v33 v34 v35 v36 v37 v38 v39 v40 v41 v42 v43 v44 v45 v46 v47 v48 v49 v50 v51 v52 v53 v54 v55 v56 v57 v58 v59 v60 v61 v62 v63 v64 v65 v66 v67 v68 v69 v70 v71 v72 v73 v74 v75 v76 v77 v78 v79 v80 v81 v82 v83 v84 v85 v86 v87 v88 v89 v90 v91 q3
   have q4:v0 = .pointer (some ⟨D,0,none⟩):=by simpa using q3
   subst q4
   clear q3
   rw [HJ.out] at hJ
   obtain ⟨x,k,R1,hW,hSt,hOk,hps⟩:=hJ
   have HPSW:Hid (psOf W D=k.ps):=psOf_eq hW.sc.c16
   have d8:=hW.sc.c8
   have g8:=hW.sc.fz 8
   have hW1:=hW.put (hW.sc.put 8 (.int .i64 14) (Stt S x (k.turn 14)) rfl ⟨rfl,rfl,rfl,rfl,rfl,rfl,rfl,rfl⟩) ((To.refl _ _ _).setCell 8 _ rfl) rfl hOk.how rfl rfl
   have HP3:=hide' p3
   clear hW p3
   have cN:=next_any hW1.sc hW1.rdy hOk.how 1 [61] (fun _ => HCR.out _ _ (by simp) (pk_scal _ _ _))
   have hsg:sgn [61] = [61]:=rfl
   rw [hsg] at cN
   obtain ⟨v,hv⟩ : ∃ v,nx f n (k.turn 14).ps (1:Nat) [61]=v:=⟨_,rfl⟩
   have hst2:step S.inn S.nm f n (k.turn 14)=onNx v (k.turn 14) fun r s => if r=61 then s.turn 15 else s:=by
    rw [<- hv]
    rfl
   have hv':nx f n (Stt S x (k.turn 14)).k.ps ((1:Nat) : Int) [61]=v:=hv
   rw [hv'] at cN
   have HPOS:Hid (v.1=0 -> 0 < v.2.2):=fun e => by rw [<- hv] at e ⊢; exact nx_pos e
   have HONE:Hid (v.1=0 -> v.2.1 < 128 -> v.2.1 ≠ 10 -> v.2.2=1):=fun e1 e2 e3 => by rw [<- hv] at e1 e2 e3 ⊢; exact nx_one e1 e2 e3
   have HSC:Hid (v.1=0 -> Rn.scal v.2.1):=fun e => by rw [<- hv] at e ⊢; exact nx_scal e
   have HW1:=hide' hW1
   have HSt:=hide' hSt
   have HOk:=hide' hOk
   have HST2:=hide' hst2
   have CN:=hide' cN
   clear hW1 hSt hOk hv hv' hst2 hsg cN
   go_wp2_with fail
   refine CN.out.mono ?_
   rintro e W2 ⟨hE,x2,R2,hW2,hx2⟩
   have hWW:=HW1.out.trans hW2
   obtain ⟨v1',v2',v3'⟩:=v
   unfold NxE at hE
   simp only at hE hx2
   clear CN hW2 d8 g8
   have hc0:v1'=0 \/ v1' ≠ 0:=by omega
   rcases hc0 with c0 | c0
   . subst c0
     rw [if_pos rfl] at hE
     subst hE
     have hk1:nxK (0,v2',v3') (Stt S x (k.turn 14)).k=(k.turn 14).took v3':=by simp [nxK]; rfl
     rw [hk1] at hWW
     have hpos:0 < v3':=HPOS.out rfl
     have o2:k.text.length <= 4 * k.ps:=HOk.out.text
     have o3:k.tag.length <= 4 * k.ps:=HOk.out.tag
     have o4:k.attr.length <= 4 * k.ps:=HOk.out.attr
     have o5:k.val.length <= 4 * k.ps:=HOk.out.val
     have o6:k.ref.length <= k.ps:=HOk.out.ref
     have o7:k.ct <= k.ps:=HOk.out.ct
     have o8:k.attrs.length <= k.ps:=HOk.out.attrs
     have hbig:=HW1.out.rdy.big
     have hstep2:=HST2.out
     simp only [onNx,if_true] at hstep2
     have hle:k.ps + v3' <= n:=Nat.le_trans hWW.rdy.qe hWW.rdy.fn
     by_cases r61:v2'=61
     . subst r61
       rw [if_pos rfl] at hstep2
       have hok:Ok S.nm x2 (((k.turn 14).took v3').turn 15):=by
        refine ⟨HOk.out.how, ?_, ?_, ?_, ?_, ?_, ?_, ?_, ?_, ?_, ?_, ?_, ?_, ?_⟩
        all_goals (simp only [Wk.took,Wk.turn])
        all_goals omega
       have hj:Jw 15 W2:=by
        rw [HJ.out]
        exact ⟨x2,_,R2,hWW,HSt.out.trans (.one HOk.out.how hstep2),hok,by show S.k.ps <= k.ps + v3'; omega⟩
       have hmu:n - psOf (W2) D < n - psOf W D:=by
        rw [show psOf (W2) D=k.ps + v3' from psOf_eq hWW.sc.c16,HPSW.out]
        omega
       have HJJ:=hide' hj
       have HMU:=hide' hmu
       clear hj hmu hok hstep2 hWW
       go_wp2_with fail
       refine wp_label ?_
       rename_i hK
       refine hK _ _ ?_
       exact wp_mono (HP3.out _ _ ⟨rfl,rfl,rfl,HJJ.out⟩) (jumps3_mono (fun _ _ h => ⟨h.1,Nat.lt_trans h.2 HMU.out⟩) (fun _ _ h => ⟨h.1,Nat.lt_trans h.2 HMU.out⟩) (fun _ _ h => ⟨h.1,Nat.lt_trans h.2 HMU.out⟩))
     . rw [if_neg r61] at hstep2
       have i61:((v2':Int) == 61)=false:=by simp; omega
       have hok:Ok S.nm x2 (((k.turn 14).took v3').turn 14):=by
        refine ⟨HOk.out.how, ?_, ?_, ?_, ?_, ?_, ?_, ?_, ?_, ?_, ?_, ?_, ?_, ?_⟩
        all_goals (simp only [Wk.took,Wk.turn])
        all_goals omega
       have hj:Jw 14 W2:=by
        rw [HJ.out]
        exact ⟨x2,_,R2,hWW,HSt.out.trans (.one HOk.out.how hstep2),hok,by show S.k.ps <= k.ps + v3'; omega⟩
       have hmu:n - psOf (W2) D < n - psOf W D:=by
        rw [show psOf (W2) D=k.ps + v3' from psOf_eq hWW.sc.c16,HPSW.out]
        omega
       have HJJ:=hide' hj
       have HMU:=hide' hmu
       clear hj hmu hok hstep2 hWW
       go_wp2_with fail
       go_step3
       exact .inr (.inl ⟨rfl,⟨rfl,rfl,rfl,HJJ.out⟩,HMU.out⟩)
   . rw [if_neg c0] at hE
     subst hE
     have hfin:Part w D B f n S R d (.returned (.bool false)) W2:=by
      by_cases c2:v1'=2
      . subst c2
        refine ⟨false,x2,_,R2,rfl,hWW,HSt.out.trans (.one HOk.out.how (by rw [HST2.out]; simp [onNx]; rfl)), ?_⟩
        rw [if_neg (by decide)]
        left
        simp [nxK,Wk.fails]
      . refine ⟨false,x2,_,R2,rfl,hWW, ?_, ?_⟩
        . simp only [nxK,if_neg c0,if_neg c2]
          exact HSt.out
        . rw [if_neg (by decide)]
          right
          simp only [nxK,if_neg c0,if_neg c2]
          show step S.inn S.nm f n (k.turn 14)=none
          rw [HST2.out]
          simp [onNx,c0,c2]
     have HFIN:=hide' hfin
     clear hfin hWW
     go_wp2_with fail
     simp only [jumps3]
     exact bodyPost_ret (v := .bool false) (by simp [results,Tryd.results36,go_sem]) rfl HFIN.out
 . rintro ⟨tm,df⟩ W ⟨q1,q2,q3,hJ⟩
   simp only at q1 q2 q3
   subst q1
   revert q3
   revert tm
   refine frame92 ?_
   intro v0 v1 v2 v3 v4 v5 v6 v7 v8 v9 v10 v11 v12 v13 v14 v15 v16 v17 v18 v19 v20 v21 v22 v23 v24 v25 v26 v27 v28 v29 v30 v31 v32 v33 v34 v35 v36 v37 v38 v39 v40 v41 v42 v43 v44 v45 v46 v47 v48 v49 v50 v51 v52 v53 v54 v55 v56 v57 v58 v59 v60 v61 v62 v63 v64 v65 v66 v67 v68 v69 v70 v71 v72 v73 v74 v75 v76 v77 v78 v79 v80 v81 v82 v83 v84 v85 v86 v87 v88 v89 v90 v91 q3
   have q4:v0 = .pointer (some ⟨D,0,none⟩):=by simpa using q3
   subst q4
   clear q3
   rw [HJ.out] at hJ
   obtain ⟨x,k,R1,hW,hSt,hOk,hps⟩:=hJ
   have HPSW:Hid (psOf W D=k.ps):=psOf_eq hW.sc.c16
   have d8:=hW.sc.c8
   have g8:=hW.sc.fz 8
   have hW1:=hW.put (hW.sc.put 8 (.int .i64 15) (Stt S x (k.turn 15)) rfl ⟨rfl,rfl,rfl,rfl,rfl,rfl,rfl,rfl⟩) ((To.refl _ _ _).setCell 8 _ rfl) rfl hOk.how rfl rfl
   clear hW
   have cN:=next_any hW1.sc hW1.rdy hOk.how 1 [34,39] (fun _ => HCR.out _ _ (by simp) (pk_scal _ _ _))
   have hsg:sgn [34,39] = [34,39]:=rfl
   rw [hsg] at cN
   obtain ⟨v,hv⟩ : ∃ v,nx f n (k.turn 15).ps (1:Nat) [34,39]=v:=⟨_,rfl⟩
   have hst2:step S.inn S.nm f n (k.turn 15)=onNx v (k.turn 15) fun r s => if isB r=true then s else { s with qt:=r,val := [],st:=16 }:=by
    rw [<- hv]
    rfl
   have hv':nx f n (Stt S x (k.turn 15)).k.ps ((1:Nat) : Int) [34,39]=v:=hv
   rw [hv'] at cN
   have HPOS:Hid (v.1=0 -> 0 < v.2.2):=fun e => by rw [<- hv] at e ⊢; exact nx_pos e
   have HONE:Hid (v.1=0 -> v.2.1 < 128 -> v.2.1 ≠ 10 -> v.2.2=1):=fun e1 e2 e3 => by rw [<- hv] at e1 e2 e3 ⊢; exact nx_one e1 e2 e3
   have HSC:Hid (v.1=0 -> Rn.scal v.2.1):=fun e => by rw [<- hv] at e ⊢; exact nx_scal e
   have HW1:=hide' hW1
   have HSt:=hide' hSt
   have HOk:=hide' hOk
   have HST2:=hide' hst2
   have CN:=hide' cN
   clear hW1 hSt hOk hv hv' hst2 hsg cN
   go_wp2_with fail
   refine CN.out.mono ?_
   rintro e W2 ⟨hE,x2,R2,hW2,hx2⟩
   have hWW:=HW1.out.trans hW2
   obtain ⟨v1',v2',v3'⟩:=v
   unfold NxE at hE
   simp only at hE hx2
   clear CN hW2 d8 g8
   have hc0:v1'=0 \/ v1' ≠ 0:=by omega
   rcases hc0 with c0 | c0
   . subst c0
     rw [if_pos rfl] at hE
     subst hE
     have hk1:nxK (0,v2',v3') (Stt S x (k.turn 15)).k=(k.turn 15).took v3':=by simp [nxK]; rfl
     rw [hk1] at hWW
     have hpos:0 < v3':=HPOS.out rfl
     have o2:k.text.length <= 4 * k.ps:=HOk.out.text
     have o3:k.tag.length <= 4 * k.ps:=HOk.out.tag
     have o4:k.attr.length <= 4 * k.ps:=HOk.out.attr
     have o5:k.val.length <= 4 * k.ps:=HOk.out.val
     have o6:k.ref.length <= k.ps:=HOk.out.ref
     have o7:k.ct <= k.ps:=HOk.out.ct
     have o8:k.attrs.length <= k.ps:=HOk.out.attrs
     have hbig:=HW1.out.rdy.big
     have hstep2:=HST2.out
     simp only [onNx,if_true] at hstep2
     have hle:k.ps + v3' <= n:=Nat.le_trans hWW.rdy.qe hWW.rdy.fn
     by_cases hb:isB v2'=true
     . rw [if_pos hb] at hstep2
       have cB:=is_any 1 (v2':Int) W2 hWW.rdy.tb.spans
       rw [show Ch.isT Ch.tab 1 (v2':Int)=true from hb] at cB
       have HWb:=hide' hWW
       have HCB:=hide' cB
       have HS3:=hide' hstep2
       clear hWW cB hstep2
       go_wp2_with fail
       refine HCB.out.mono ?_
       rintro e W3 ⟨rfl,hbel⟩
       have hWW:=HWb.out.put (k2:=(k.turn 15).took v3') (HWb.out.sc.below hbel) (To.of_below hbel) rfl HOk.out.how rfl rfl
       have hstep2:=HS3.out
       clear HCB hbel HWb HS3
       have hok:Ok S.nm x2 (((k.turn 15).took v3').turn 15):=by
        refine ⟨HOk.out.how, ?_, ?_, ?_, ?_, ?_, ?_, ?_, ?_, ?_, ?_, ?_, ?_, ?_⟩
        all_goals (simp only [Wk.took,Wk.turn])
        all_goals omega
       have hj:Jw 15 W3:=by
        rw [HJ.out]
        exact ⟨x2,_,R2,hWW,HSt.out.trans (.one HOk.out.how hstep2),hok,by show S.k.ps <= k.ps + v3'; omega⟩
       have hmu:n - psOf (W3) D < n - psOf W D:=by
        rw [show psOf (W3) D=k.ps + v3' from psOf_eq hWW.sc.c16,HPSW.out]
        omega
       have HJJ:=hide' hj
       have HMU:=hide' hmu
       clear hj hmu hok hstep2 hWW
       go_wp2_with fail
       go_step3
       exact .inr (.inr ⟨rfl,⟨rfl,rfl,rfl,HJJ.out⟩,HMU.out⟩)
     . rw [if_neg hb] at hstep2
       have cB:=is_any 1 (v2':Int) W2 hWW.rdy.tb.spans
       rw [show Ch.isT Ch.tab 1 (v2':Int)=false from Bool.eq_false_iff.mpr hb] at cB
       have HWb:=hide' hWW
       have HCB:=hide' cB
       have HS3:=hide' hstep2
       clear hWW cB hstep2
       go_wp2_with fail
       refine HCB.out.mono ?_
       rintro e W3 ⟨rfl,hbel⟩
       have hWW:=HWb.out.put (k2:=(k.turn 15).took v3') (HWb.out.sc.below hbel) (To.of_below hbel) rfl HOk.out.how rfl rfl
       have hstep2:=HS3.out
       clear HCB hbel HWb HS3
       obtain ⟨pr,cr,hrow0,hcr,hgr,hz⟩ : ∃ pr cr,R2.val = .slice pr k.val.length cr /\ k.val.length <= cr /\ W3.ownsRow B 5 1 (.slice pr 0 cr) 0 [] /\ (Value.slice pr 0 cr).ownBlock=R2.val.ownBlock:=by
        rcases hWW.sc.val.2 with ⟨e1,e2⟩ | ⟨g,cap,cur,hv,hb,hg,h1,h2,h3,h4⟩
        . have e3:k.val.length=0:=e2
          exact ⟨none,0,by rw [e1,e3],by omega,World.ownsRow_nil _ _ _ _,by rw [e1]⟩
        . exact ⟨some ⟨g,0,none⟩,cap,hv,h1,⟨by simp, .inr ⟨g,cap,cur,rfl,hb,hg,Nat.zero_le _,h2,h3,by simp⟩⟩,by rw [hv]; rfl⟩
       have d28:=hWW.sc.c28
       rw [hrow0] at d28
       have d29:=hWW.sc.c29
       have g28:=hWW.sc.fz 28
       have g29:=hWW.sc.fz 29
       have i1:(0:Int) <= cr:=by omega
       have hWd:=hWW.put (k2:=(k.turn 15).took v3') hWW.sc.drew ((To.refl _ _ _).drew) rfl HOk.out.how rfl rfl
       have hWq:=hWd.put (k2 := { (k.turn 15).took v3' with qt:=v2' }) (hWd.sc.put 29 (.int .i32 (v2':Nat)) _ rfl ⟨rfl,rfl,rfl,rfl,rfl,rfl,rfl,rfl⟩) ((To.refl _ _ _).setCell 29 _ rfl) rfl HOk.out.how rfl rfl
       have hrow:RowB (W3.drew.setCell ⟨D,29,none⟩ (.int .i32 (v2':Nat))) B (.slice pr 0 cr) []:=by
        have hneD : ∀ g,(Value.slice pr 0 cr).ownBlock=some g -> g ≠ D:=fun g e e2 => by
         rw [hz,e2] at e
         have:=hWW.sc.apart 0 10 D rfl (by rw [<- e]; rfl)
         omega
        rcases hgr.2 with ⟨e1,e2⟩ | ⟨g,cap,cur,hv,hb,hg,h1,h2,h3,h4⟩
        . exact ⟨hgr.1, .inl ⟨e1,e2⟩⟩
        . refine ⟨hgr.1, .inr ⟨g,cap,cur,hv,hb, ?_,h1,h2,h3,h4⟩⟩
          refine (RowKit.Below.heap_setCell _ _ _ _ fun e => hneD g (by rw [hv]; rfl) e).trans ?_
          exact hg
       have hg:Grew (W3.drew.setCell ⟨D,29,none⟩ (.int .i32 (v2':Nat))) R2.val (W3.drew.setCell ⟨D,29,none⟩ (.int .i32 (v2':Nat))) (.slice pr 0 cr):=⟨rfl,rfl,rfl,Nat.le_refl _,fun _ _ _ => rfl, .inl hz⟩
       have hWW5:=hWq.put (k2 := { (k.turn 15).took v3' with qt:=v2',val := [] }) (hWq.sc.val' hg hrow) (To.val' hg) rfl HOk.out.how rfl rfl
       have HW5':=hide' hWW5
       have HS5:=hide' hstep2
       dsimp only [Stt,Wk.took,Wk.turn] at d28 d29
       clear hWW hWd hWq hrow hg hWW5 hgr hrow0 hz hstep2
       go_wp2_with fail
       go_region
       have hW5:=HW5'.out
       have hstep2:=HS5.out
       have cT:=turn_any hW5.sc 16
       have HWa:=hide' hW5
       have HCT:=hide' cT
       have HS2:=hide' hstep2
       clear hW5 cT hstep2
       go_wp2_with fail
       refine HCT.out.mono ?_
       rintro e W9 ⟨rfl,hS3,hTo3⟩
       have hWc:=HWa.out.put (k2:=({ (k.turn 15).took v3' with qt:=v2',val := [] }).turn 16) hS3 hTo3 rfl HOk.out.how rfl rfl
       have hfin:Part w D B f n S R d (.returned (.bool true)) W9:=by
        refine ⟨true,x2,_,_,rfl,hWc,HSt.out.trans (.one HOk.out.how HS2.out), ?_⟩
        rw [if_pos rfl]
        refine ⟨?_, ?_⟩
        . refine ⟨HOk.out.how, ?_, ?_, ?_, ?_, ?_, ?_, ?_, ?_, ?_, ?_, ?_, ?_, ?_⟩
          all_goals (simp only [Wk.took,Wk.turn,List.length_nil])
          all_goals omega
        . show S.k.ps < k.ps + v3'
          omega
       have HFIN:=hide' hfin
       clear hfin hWc hS3 hTo3 HCT HWa
       go_wp2_with fail
       simp only [jumps3]
       exact bodyPost_ret (v := .bool true) (by simp [results,Tryd.results36,go_sem]) rfl HFIN.out
   . rw [if_neg c0] at hE
     subst hE
     have hfin:Part w D B f n S R d (.returned (.bool false)) W2:=by
      by_cases c2:v1'=2
      . subst c2
        refine ⟨false,x2,_,R2,rfl,hWW,HSt.out.trans (.one HOk.out.how (by rw [HST2.out]; simp [onNx]; rfl)), ?_⟩
        rw [if_neg (by decide)]
        left
        simp [nxK,Wk.fails]
      . refine ⟨false,x2,_,R2,rfl,hWW, ?_, ?_⟩
        . simp only [nxK,if_neg c0,if_neg c2]
          exact HSt.out
        . rw [if_neg (by decide)]
          right
          simp only [nxK,if_neg c0,if_neg c2]
          show step S.inn S.nm f n (k.turn 15)=none
          rw [HST2.out]
          simp [onNx,c0,c2]
     have HFIN:=hide' hfin
     clear hfin hWW
     go_wp2_with fail
     simp only [jumps3]
     exact bodyPost_ret (v := .bool false) (by simp [results,Tryd.results36,go_sem]) rfl HFIN.out
end
section
variable {w:World} {D B n:Nat} {f:Nat -> Nat} {S:St} {R:Raw} {d:Nat}
def Adds:Prop := ∀ (w:World) (D B:Nat) (f:Nat -> Nat) (n:Nat) (S:St) (R:Raw) (d:Nat),SC w D B f n S R -> Rdy w B n f S R d -> Ok S.nm S.fed S.k ->
 Calls Tryd.prog 58 #[.pointer (some ⟨D,0,none⟩)] w fun e w' => e = .returned (.bool true) /\ ∃ R',SC w' D B f n (S.wk { S.k with attrs:=S.k.attrs ++ [(S.k.attr,S.k.val)],st:=11 }) R' /\ To D R w R' w' /\ R'.rest=R.rest /\ R'.fp=R.fp
theorem quoted_any (h:SC w D B f n S R) (hy:Rdy w B n f S R d) (ok:Ok S.nm S.fed S.k) (hst:S.k.st=16 \/ S.k.st=17) (hCR:CRs) (hAD:Adds) :
 Calls Tryd.prog 37 #[.pointer (some ⟨D,0,none⟩)] w (Part w D B f n S R d):=by
 have c8:=h.c8
 have hst0:Went w D B f n S R d w S.k S.fed R:=by
  have e:Stt S S.fed S.k=S:=by
   have q1:=hy.q
   have q2:=hy.e
   unfold Stt
   cases S
   simp only at q1 q2
   subst q1 q2
   rfl
  exact ⟨by rw [e]; exact h,To.refl _ _ _,by rw [e]; exact hy,fun k => by have:=ok.how; omega,rfl⟩
 have HST:=hide' hst0
 have OK:=hide' ok
 have HCR:=hide' hCR
 have HAD:=hide' hAD
 clear h hy hst0 ok hCR hAD
 obtain ⟨Jw,hJw⟩ : ∃ Jw:Nat -> World -> Prop,Jw=fun st w' => ∃ x k R',Went w D B f n S R d w' k x R' /\ Steps S.inn S.nm f n S.k (k.turn st) /\ Ok S.nm x (k.turn st) /\ S.k.ps <= k.ps:=⟨_,rfl⟩
 have HJ:=hide' hJw
 clear hJw
 go_enter Tryd.func37,Tryd.ntmps37
 go_wp2
 refine (fun p2 => (fun p1 => wp_scope2 1 0 (fun a w' => a.defers = [] /\ a.tmps.size=94 /\ a.tmps[0]? = some (.pointer (some ⟨D,0,none⟩)) /\ Jw 16 w') (fun a w' => a.defers = [] /\ a.tmps.size=94 /\ a.tmps[0]? = some (.pointer (some ⟨D,0,none⟩)) /\ Jw 17 w') (fun _ w' => n - psOf w' D) (fun _ w' => n - psOf w' D) (by decide) (by decide) rfl rfl ?_ p1 p2) ?_) ?_
 . clear p2
   rcases hst with e | e
   . have hj:Jw 16 w:=by
      rw [HJ.out]
      have e0:S.k.turn 16=S.k:=by unfold Wk.turn; rw [<- e]
      exact ⟨S.fed,S.k,R,HST.out,by rw [e0]; exact .refl _,by rw [e0]; exact OK.out,Nat.le_refl _⟩
     rw [e] at c8
     have HJJ:=hide' hj
     have HP1:=hide' p1
     clear hj e p1
     go_wp2
     refine wp_label ?_
     rename_i hK
     refine hK _ _ ?_
     exact wp_mono (HP1.out _ _ ⟨rfl,rfl,rfl,HJJ.out⟩) (jumps2_mono (fun _ _ h => h.1) (fun _ _ h => h.1))
   . have hj:Jw 17 w:=by
      rw [HJ.out]
      have e0:S.k.turn 17=S.k:=by unfold Wk.turn; rw [<- e]
      exact ⟨S.fed,S.k,R,HST.out,by rw [e0]; exact .refl _,by rw [e0]; exact OK.out,Nat.le_refl _⟩
     rw [e] at c8
     have HJJ:=hide' hj
     clear hj e p1
     go_wp2
     go_step3
     exact .inr ⟨rfl,rfl,rfl,rfl,HJJ.out⟩
 . clear p2
   rintro ⟨tm,df⟩ W ⟨q1,q2,q3,hJ⟩
   simp only at q1 q2 q3
   subst q1
   revert q3
   revert tm
   refine frame94 ?_
   intro v0 v1 v2 v3 v4 v5 v6 v7 v8 v9 v10 v11 v12 v13 v14 v15 v16 v17 v18 v19 v20 v21 v22 v23 v24 v25 v26 v27 v28 v29 v30 v31 v32 v33 v34 v35 v36 v37 v38 v39 v40 v41 v42 v43 v44 v45 v46 v47 v48 v49 v50 v51 v52 v53 v54 v55 v56 v57 v58 v59 v60 v61 v62 v63 v64 v65 v66 v67 v68 v69 v70 v71 v72 v73 v74 v75 v76 v77 v78 v79 v80 v81 v82 v83 v84 v85 v86 v87 v88 v89 v90 v91 v92 v93 q3
   have q4:v0 = .pointer (some ⟨D,0,none⟩):=by simpa using q3
   subst q4
   clear q3
   rw [HJ.out] at hJ
   obtain ⟨x,k,R1,hW,hSt,hOk,hps⟩:=hJ
   have HPSW:Hid (psOf W D=k.ps):=psOf_eq hW.sc.c16
   have d8:=hW.sc.c8
   have g8:=hW.sc.fz 8
   have hW1:=hW.put (hW.sc.put 8 (.int .i64 16) (Stt S x (k.turn 16)) rfl ⟨rfl,rfl,rfl,rfl,rfl,rfl,rfl,rfl⟩) ((To.refl _ _ _).setCell 8 _ rfl) rfl hOk.how rfl rfl
   clear hW
   have cN:=next_any hW1.sc hW1.rdy hOk.how 0 [] (fun _ => HCR.out _ _ (by simp) (pk_scal _ _ _))
   have hsg:sgn [] = []:=rfl
   rw [hsg] at cN
   obtain ⟨v,hv⟩ : ∃ v,nx f n (k.turn 16).ps (0:Nat) []=v:=⟨_,rfl⟩
   have hst2:step S.inn S.nm f n (k.turn 16)=onNx v (k.turn 16) fun r s => if r=60 then s.fails s.fr else if r=s.qt then { s with attrs:=s.attrs ++ [(s.attr,s.val)],st:=11 } else if r=38 then { s with ref := [38],st:=17 } else { s with val:=s.val ++ encodeRune (if isB r=true then 32 else r) }:=by
    rw [<- hv]
    rfl
   have hv':nx f n (Stt S x (k.turn 16)).k.ps ((0:Nat) : Int) []=v:=hv
   rw [hv'] at cN
   have HPOS:Hid (v.1=0 -> 0 < v.2.2):=fun e => by rw [<- hv] at e ⊢; exact nx_pos e
   have HONE:Hid (v.1=0 -> v.2.1 < 128 -> v.2.1 ≠ 10 -> v.2.2=1):=fun e1 e2 e3 => by rw [<- hv] at e1 e2 e3 ⊢; exact nx_one e1 e2 e3
   have HSC:Hid (v.1=0 -> Rn.scal v.2.1):=fun e => by rw [<- hv] at e ⊢; exact nx_scal e
   have HW1:=hide' hW1
   have HSt:=hide' hSt
   have HOk:=hide' hOk
   have HST2:=hide' hst2
   have CN:=hide' cN
   clear hW1 hSt hOk hv hv' hst2 hsg cN
   go_wp2_with fail
   refine CN.out.mono ?_
   rintro e W2 ⟨hE,x2,R2,hW2,hx2⟩
   have hWW:=HW1.out.trans hW2
   obtain ⟨v1',v2',v3'⟩:=v
   unfold NxE at hE
   simp only at hE hx2
   clear CN hW2 d8 g8
   have hc0:v1'=0 \/ v1' ≠ 0:=by omega
   rcases hc0 with c0 | c0
   . subst c0
     rw [if_pos rfl] at hE
     subst hE
     have hk1:nxK (0,v2',v3') (Stt S x (k.turn 16)).k=(k.turn 16).took v3':=by simp [nxK]; rfl
     rw [hk1] at hWW
     have hpos:0 < v3':=HPOS.out rfl
     have o2:k.text.length <= 4 * k.ps:=HOk.out.text
     have o3:k.tag.length <= 4 * k.ps:=HOk.out.tag
     have o4:k.attr.length <= 4 * k.ps:=HOk.out.attr
     have o5:k.val.length <= 4 * k.ps:=HOk.out.val
     have o6:k.ref.length <= k.ps:=HOk.out.ref
     have o7:k.ct <= k.ps:=HOk.out.ct
     have o8:k.attrs.length <= k.ps:=HOk.out.attrs
     have hbig:=HW1.out.rdy.big
     have hstep2:=HST2.out
     simp only [onNx,if_true] at hstep2
     have hle:k.ps + v3' <= n:=Nat.le_trans hWW.rdy.qe hWW.rdy.fn
     have d29:=hWW.sc.c29
     dsimp only [Stt,Wk.took,Wk.turn] at d29
     by_cases r60:v2'=60
     . subst r60
       rw [if_pos rfl] at hstep2
       have d17:=hWW.sc.c17
       dsimp only [Stt,Wk.took,Wk.turn] at d17
       have cF:=fail_any hWW.sc k.ps HW1.out.rdy.lt (by omega) (by omega) HW1.out.rdy.pl60
       have HCF:=hide' cF
       have HGO:=hide' hWW.go
       have HWW:=hide' hWW
       have HS2:=hide' hstep2
       clear cF hWW hstep2
       go_wp2_with fail
       refine HCF.out.mono ?_
       rintro e W3 ⟨rfl,hS3,hTo3⟩
       have hfin:Part w D B f n S R d (.returned (.bool false)) W3:=by
        refine ⟨false,x2,((k.turn 16).took v3').fails k.ps,_,rfl,⟨hS3,HGO.out.trans hTo3, ?_,fun _ => rfl,HWW.out.rest⟩,HSt.out.trans (.one HOk.out.how HS2.out), ?_⟩
        . exact ⟨HWW.out.rdy.tb.to (HWW.out.sc.to_below hTo3),Nat.le_trans HWW.out.rdy.bw hTo3.mv.size,HWW.out.rdy.fp,rfl,rfl,HWW.out.rdy.qe,HWW.out.rdy.fn,HWW.out.rdy.mn,HWW.out.rdy.lt,HWW.out.rdy.big,HWW.out.rdy.pl⟩
        . rw [if_neg (by decide)]
          left
          simp [Wk.fails]
       have HFIN:=hide' hfin
       clear hfin hS3 hTo3 HCF
       go_wp2_with fail
       simp only [jumps2]
       exact bodyPost_ret (v := .bool false) (by simp [results,Tryd.results37,go_sem]) rfl HFIN.out
     . rw [if_neg r60] at hstep2
       have i60:((v2':Int) == 60)=false:=by simp; omega
       by_cases rq:v2'=k.qt
       . rw [if_pos (show v2'=((k.turn 16).took v3').qt from rq)] at hstep2
         have iq:((v2':Int) == (k.qt:Int))=true:=by rw [rq]; simp
         have hok0:Ok S.nm x2 ((k.turn 16).took v3'):=by
          refine ⟨HOk.out.how, ?_, ?_, ?_, ?_, ?_, ?_, ?_, ?_, ?_, ?_, ?_, ?_, ?_⟩
          all_goals (simp only [Wk.took,Wk.turn])
          all_goals omega
         have cD:=HAD.out W2 D B f n _ R2 d hWW.sc hWW.rdy hok0
         have HCD:=hide' cD
         have HWa:=hide' hWW
         have HS2:=hide' hstep2
         clear cD hWW hok0 hstep2
         go_wp2_with fail
         refine HCD.out.mono ?_
         rintro e W9 ⟨rfl,R9,hS3,hTo3,hr9,hf9⟩
         have hWc:=HWa.out.put (k2 := { (k.turn 16).took v3' with attrs:=k.attrs ++ [(k.attr,k.val)],st:=11 }) hS3 hTo3 rfl HOk.out.how hr9 hf9
         have hfin:Part w D B f n S R d (.returned (.bool true)) W9:=by
          refine ⟨true,x2,_,R9,rfl,hWc,HSt.out.trans (.one HOk.out.how HS2.out), ?_⟩
          rw [if_pos rfl]
          refine ⟨?_, ?_⟩
          . refine ⟨HOk.out.how, ?_, ?_, ?_, ?_, ?_, ?_, ?_, ?_, ?_, ?_, ?_, ?_, ?_⟩
            all_goals (simp only [Wk.took,Wk.turn,List.length_append,List.length_cons,List.length_nil])
            all_goals omega
          . show S.k.ps < k.ps + v3'
            omega
         have HFIN:=hide' hfin
         clear hfin hWc hS3 hTo3 HCD HWa hr9 hf9
         go_wp2_with fail
         simp only [jumps2]
         exact bodyPost_ret (v := .bool true) (by simp [results,Tryd.results37,go_sem]) rfl HFIN.out
       . rw [if_neg (show ¬ v2' = ((k.turn 16).took v3').qt from rq)] at hstep2
         have iq:((v2':Int) == (k.qt:Int))=false:=by simp; omega
         by_cases r38:v2'=38
         . subst r38
           rw [if_pos rfl] at hstep2
           have hx:x2=k.ps + v3':=hx2 rfl (show (38:Nat) ≠ 10 by decide)
           obtain ⟨i0,hi,hz0,hz1,hz2⟩:=info_parts scByte
           obtain ⟨pr,cr,hrow0,hcr,hgr,hz⟩ : ∃ pr cr,R2.ref = .slice pr k.ref.length cr /\ k.ref.length <= cr /\ W2.ownsRow B 5 1 (.slice pr 0 cr) 0 [] /\ (Value.slice pr 0 cr).ownBlock=R2.ref.ownBlock:=by
            rcases hWW.sc.ref.2 with ⟨e1,e2⟩ | ⟨g,cap,cur,hv,hb,hg,h1,h2,h3,h4⟩
            . have e3:k.ref.length=0:=e2
              exact ⟨none,0,by rw [e1,e3],by omega,World.ownsRow_nil _ _ _ _,by rw [e1]⟩
            . exact ⟨some ⟨g,0,none⟩,cap,hv,h1,⟨by simp, .inr ⟨g,cap,cur,rfl,hb,hg,Nat.zero_le _,h2,h3,by simp⟩⟩,by rw [hv]; rfl⟩
           have d21:=hWW.sc.c21
           rw [hrow0] at d21
           have i1:(0:Int) <= cr:=by omega
           have HWW:=hide' hWW
           have HS2:=hide' hstep2
           have HGR:=hide' hgr
           have HZ:=hide' hz
           have HR0:=hide' hrow0
           have hBW:=hWW.rdy.bw
           clear hWW hstep2 hrow0 hgr hz hx2
           go_wp2_with (at_builtin; refine wpList_append_own_at _ rfl _ _ 22 rfl B 5 i0 (.int .u8 0) 1 1 Tryd.underlying22 hi hz0 hz1 hz2 rfl (by decide) (.slice pr 0 cr) 0 [] rfl (HGR.out.alloc _) ⟨W2.heap.size,0,none⟩ 1 1 [.int .u8 38] rfl rfl ?c1 ?c2 ?c3 ?c4 ?c5 ?_)
           case c1 => exact cell_one_new _ _ _
           case c2 => intro u hu; simp at hu; subst hu; rfl
           case c3 => unfold maxLen; omega
           case c4 => omega
           case c5 => simp; omega
           intro v' w3 hown3 hgrow3 _ hat3
           obtain ⟨pa',m',cap',rfl⟩:=own_shape3 hown3
           have hs3:=hgrow3.size
           simp at hs3
           have hgw:Grew W2 R2.ref w3 (.slice pa' m' cap'):=by
            refine ⟨hgrow3.os,hgrow3.tape,hgrow3.output,by omega,fun i hi hn => ?_, ?_⟩
            . rw [<- HZ.out] at hn
              exact (hgrow3.block i (by simp; omega) fun e => hn e.symm).trans (((Below.refl W2.heap.size W2).alloc (Nat.le_refl _) _).block i hi)
            . rw [<- HZ.out]
              rcases hat3 with e | e
              . exact .inl e
              . right
                intro q hq
                rw [hq] at e
                cases e
                simp
           have hrow:RowB w3 B (.slice pa' m' cap') [38]:=hown3
           have hS3:=HWW.out.sc.ref' hgw hrow
           have hW3:=HWW.out.put (k2 := { (k.turn 16).took v3' with ref := [38] }) hS3 (To.ref' hgw) rfl HOk.out.how rfl rfl
           have hneD:R2.ref.ownBlock ≠ some D:=fun e => by have:=HWW.out.sc.apart 0 5 D rfl (by rw [<- e]; rfl); omega
           have hD3:=hgw.block D HWW.out.sc.lt0 hneD
           have e21:w3.cell? ⟨D,21,none⟩ = some (.slice pr k.ref.length cr):=(World.cell?_of_block (a:=⟨D,21,none⟩) hD3).trans d21
           have g21:w3.frozen? ⟨D,21,none⟩ = false:=(World.frozen?_of_block (a:=⟨D,21,none⟩) hD3).trans (HWW.out.sc.fz 21)
           have hstep2:=HS2.out
           have hok:Ok S.nm x2 (({ (k.turn 16).took v3' with ref := [38] }).turn 17):=by
            refine ⟨HOk.out.how, ?_, ?_, ?_, ?_, ?_, ?_, ?_, ?_, ?_, ?_, ?_, ?_, ?_⟩
            all_goals (simp only [Wk.took,Wk.turn,List.length_cons,List.length_nil])
            all_goals omega
           have hj:Jw 17 (w3.setCell ⟨D,21,none⟩ (.slice pa' m' cap')):=by
            rw [HJ.out]
            exact ⟨x2,_,_,hW3,HSt.out.trans (.one HOk.out.how hstep2),hok,by show S.k.ps <= k.ps + v3'; omega⟩
           have hmu:n - psOf ((w3.setCell ⟨D,21,none⟩ (.slice pa' m' cap'))) D < n - psOf W D:=by
            rw [show psOf ((w3.setCell ⟨D,21,none⟩ (.slice pa' m' cap'))) D=k.ps + v3' from psOf_eq hW3.sc.c16,HPSW.out]
            omega
           have HJJ:=hide' hj
           have HMU:=hide' hmu
           clear hj hmu hok hstep2 hW3 hS3 hrow hgw hown3 hgrow3 hat3 hD3 hneD d21
           go_wp2_with fail
           go_step3
           exact .inr ⟨rfl,⟨rfl,rfl,rfl,HJJ.out⟩,HMU.out⟩
         . rw [if_neg r38] at hstep2
           have i38:((v2':Int) == 38)=false:=by simp; omega
           have hsc:Rn.scal v2':=HSC.out rfl
           by_cases hb:isB v2'=true
           . rw [if_pos hb] at hstep2
             clear hsc
             have hsc:Rn.scal 32:=by unfold Rn.scal; omega
             have cB:=is_any 1 (v2':Int) W2 hWW.rdy.tb.spans
             rw [show Ch.isT Ch.tab 1 (v2':Int)=true from hb] at cB
             have HWb:=hide' hWW
             have HCB:=hide' cB
             have HS3:=hide' hstep2
             clear hWW cB hstep2
             go_wp2_with fail
             refine HCB.out.mono ?_
             rintro e W3 ⟨rfl,hbel⟩
             have hWW:=HWb.out.put (k2:=(k.turn 16).took v3') (HWb.out.sc.below hbel) (To.of_below hbel) rfl HOk.out.how rfl rfl
             have hstep2:=HS3.out
             clear HCB hbel HWb HS3
             have dF:=hWW.sc.c28
             obtain ⟨paF,capF,etF⟩:=own_shape hWW.sc.val
             have cA:=appRune_any B R2.val k.val 32 W3 hWW.sc.val (by omega) hWW.rdy.bw hsc
             rw [etF] at dF
             rw [show (#[R2.val,Value.int .i32 (32:Nat)] : Array Value) = #[.slice paF k.val.length capF, .int .i32 (32:Nat)] by rw [etF]; rfl] at cA
             have HWW:=hide' hWW
             have HCA:=hide' cA
             have HS2':=hide' hstep2
             clear hWW cA etF hstep2
             dsimp only [Stt,Wk.took,Wk.turn] at dF
             go_wp2_with fail
             refine HCA.out.mono ?_
             rintro e W4 ⟨v',rfl,hrow,hg⟩
             obtain ⟨pa',m',cap',rfl⟩:=own_shape3 hrow
             have hneD:R2.val.ownBlock ≠ some D:=fun e => by have:=HWW.out.sc.apart 0 10 D rfl (by rw [<- e]; rfl); omega
             have hD4:=hg.block D HWW.out.sc.lt0 hneD
             have eF:W4.cell? ⟨D,28,none⟩ = some R2.val:=(World.cell?_of_block (a:=⟨D,28,none⟩) hD4).trans HWW.out.sc.c28
             have gF:W4.frozen? ⟨D,28,none⟩ = false:=(World.frozen?_of_block (a:=⟨D,28,none⟩) hD4).trans (HWW.out.sc.fz 28)
             have hW5:=HWW.out.put (k2 := { (k.turn 16).took v3' with val:=k.val ++ encodeRune 32 }) (HWW.out.sc.val' hg hrow) (To.val' hg) rfl HOk.out.how rfl rfl
             have hen:=Rn.enc_length (32:Int)
             have hel:=Rn.el_pos (32:Int)
             have hstep2:=HS2'.out
             clear hg hrow hD4 hneD HCA dF
             have hok:Ok S.nm x2 (({ (k.turn 16).took v3' with val:=k.val ++ encodeRune 32 }).turn 16):=by
              refine ⟨HOk.out.how, ?_, ?_, ?_, ?_, ?_, ?_, ?_, ?_, ?_, ?_, ?_, ?_, ?_⟩
              all_goals (simp only [Wk.took,Wk.turn,List.length_append])
              all_goals omega
             have hj:Jw 16 (W4.setCell ⟨D,28,none⟩ (.slice pa' m' cap')):=by
              rw [HJ.out]
              exact ⟨x2,_,_,hW5,HSt.out.trans (.one HOk.out.how hstep2),hok,by show S.k.ps <= k.ps + v3'; omega⟩
             have hmu:n - psOf ((W4.setCell ⟨D,28,none⟩ (.slice pa' m' cap'))) D < n - psOf W D:=by
              rw [show psOf ((W4.setCell ⟨D,28,none⟩ (.slice pa' m' cap'))) D=k.ps + v3' from psOf_eq hW5.sc.c16,HPSW.out]
              omega
             have HJJ:=hide' hj
             have HMU:=hide' hmu
             clear hj hmu hok hstep2 hW5
             go_wp2_with fail
             go_step3
             exact .inl ⟨rfl,⟨rfl,rfl,rfl,HJJ.out⟩,HMU.out⟩
           . rw [if_neg hb] at hstep2
             have cB:=is_any 1 (v2':Int) W2 hWW.rdy.tb.spans
             rw [show Ch.isT Ch.tab 1 (v2':Int)=false from Bool.eq_false_iff.mpr hb] at cB
             have HWb:=hide' hWW
             have HCB:=hide' cB
             have HS3:=hide' hstep2
             clear hWW cB hstep2
             go_wp2_with fail
             refine HCB.out.mono ?_
             rintro e W3 ⟨rfl,hbel⟩
             have hWW:=HWb.out.put (k2:=(k.turn 16).took v3') (HWb.out.sc.below hbel) (To.of_below hbel) rfl HOk.out.how rfl rfl
             have hstep2:=HS3.out
             clear HCB hbel HWb HS3
             have dF:=hWW.sc.c28
             obtain ⟨paF,capF,etF⟩:=own_shape hWW.sc.val
             have cA:=appRune_any B R2.val k.val v2' W3 hWW.sc.val (by omega) hWW.rdy.bw hsc
             rw [etF] at dF
             rw [show (#[R2.val,Value.int .i32 (v2':Nat)] : Array Value) = #[.slice paF k.val.length capF, .int .i32 (v2':Nat)] by rw [etF]; rfl] at cA
             have HWW:=hide' hWW
             have HCA:=hide' cA
             have HS2':=hide' hstep2
             clear hWW cA etF hstep2
             dsimp only [Stt,Wk.took,Wk.turn] at dF
             go_wp2_with fail
             refine HCA.out.mono ?_
             rintro e W4 ⟨v',rfl,hrow,hg⟩
             obtain ⟨pa',m',cap',rfl⟩:=own_shape3 hrow
             have hneD:R2.val.ownBlock ≠ some D:=fun e => by have:=HWW.out.sc.apart 0 10 D rfl (by rw [<- e]; rfl); omega
             have hD4:=hg.block D HWW.out.sc.lt0 hneD
             have eF:W4.cell? ⟨D,28,none⟩ = some R2.val:=(World.cell?_of_block (a:=⟨D,28,none⟩) hD4).trans HWW.out.sc.c28
             have gF:W4.frozen? ⟨D,28,none⟩ = false:=(World.frozen?_of_block (a:=⟨D,28,none⟩) hD4).trans (HWW.out.sc.fz 28)
             have hW5:=HWW.out.put (k2 := { (k.turn 16).took v3' with val:=k.val ++ encodeRune v2' }) (HWW.out.sc.val' hg hrow) (To.val' hg) rfl HOk.out.how rfl rfl
             have hen:=Rn.enc_length (v2':Int)
             have hel:=Rn.el_pos (v2':Int)
             have hstep2:=HS2'.out
             clear hg hrow hD4 hneD HCA dF
             have hok:Ok S.nm x2 (({ (k.turn 16).took v3' with val:=k.val ++ encodeRune v2' }).turn 16):=by
              refine ⟨HOk.out.how, ?_, ?_, ?_, ?_, ?_, ?_, ?_, ?_, ?_, ?_, ?_, ?_, ?_⟩
              all_goals (simp only [Wk.took,Wk.turn,List.length_append])
              all_goals omega
             have hj:Jw 16 (W4.setCell ⟨D,28,none⟩ (.slice pa' m' cap')):=by
              rw [HJ.out]
              exact ⟨x2,_,_,hW5,HSt.out.trans (.one HOk.out.how hstep2),hok,by show S.k.ps <= k.ps + v3'; omega⟩
             have hmu:n - psOf ((W4.setCell ⟨D,28,none⟩ (.slice pa' m' cap'))) D < n - psOf W D:=by
              rw [show psOf ((W4.setCell ⟨D,28,none⟩ (.slice pa' m' cap'))) D=k.ps + v3' from psOf_eq hW5.sc.c16,HPSW.out]
              omega
             have HJJ:=hide' hj
             have HMU:=hide' hmu
             clear hj hmu hok hstep2 hW5
             go_wp2_with fail
             go_step3
             exact .inl ⟨rfl,⟨rfl,rfl,rfl,HJJ.out⟩,HMU.out⟩
   . rw [if_neg c0] at hE
     subst hE
     have hfin:Part w D B f n S R d (.returned (.bool false)) W2:=by
      by_cases c2:v1'=2
      . subst c2
        refine ⟨false,x2,_,R2,rfl,hWW,HSt.out.trans (.one HOk.out.how (by rw [HST2.out]; simp [onNx]; rfl)), ?_⟩
        rw [if_neg (by decide)]
        left
        simp [nxK,Wk.fails]
      . refine ⟨false,x2,_,R2,rfl,hWW, ?_, ?_⟩
        . simp only [nxK,if_neg c0,if_neg c2]
          exact HSt.out
        . rw [if_neg (by decide)]
          right
          simp only [nxK,if_neg c0,if_neg c2]
          show step S.inn S.nm f n (k.turn 16)=none
          rw [HST2.out]
          simp [onNx,c0,c2]
     have HFIN:=hide' hfin
     clear hfin hWW
     go_wp2_with fail
     simp only [jumps2]
     exact bodyPost_ret (v := .bool false) (by simp [results,Tryd.results37,go_sem]) rfl HFIN.out
 . rintro ⟨tm,df⟩ W ⟨q1,q2,q3,hJ⟩
   simp only at q1 q2 q3
   subst q1
   revert q3
   revert tm
   refine frame94 ?_
   intro v0 v1 v2 v3 v4 v5 v6 v7 v8 v9 v10 v11 v12 v13 v14 v15 v16 v17 v18 v19 v20 v21 v22 v23 v24 v25 v26 v27 v28 v29 v30 v31 v32 v33 v34 v35 v36 v37 v38 v39 v40 v41 v42 v43 v44 v45 v46 v47 v48 v49 v50 v51 v52 v53 v54 v55 v56 v57 v58 v59 v60 v61 v62 v63 v64 v65 v66 v67 v68 v69 v70 v71 v72 v73 v74 v75 v76 v77 v78 v79 v80 v81 v82 v83 v84 v85 v86 v87 v88 v89 v90 v91 v92 v93 q3
   have q4:v0 = .pointer (some ⟨D,0,none⟩):=by simpa using q3
   subst q4
   clear q3
   rw [HJ.out] at hJ
   obtain ⟨x,k,R1,hW,hSt,hOk,hps⟩:=hJ
   have HPSW:Hid (psOf W D=k.ps):=psOf_eq hW.sc.c16
   have d8:=hW.sc.c8
   have g8:=hW.sc.fz 8
   have hx:x=k.ps:=hOk.non (.inr (.inl rfl))
   subst hx
   have hW1:=hW.put (hW.sc.put 8 (.int .i64 17) (Stt S k.ps (k.turn 17)) rfl ⟨rfl,rfl,rfl,rfl,rfl,rfl,rfl,rfl⟩) ((To.refl _ _ _).setCell 8 _ rfl) rfl hOk.how rfl rfl
   have cR:=refer_any hW1.sc hW1.rdy hOk.how rfl hOk.ref
   have hv:=refRun_steps (inn:=S.inn) (nm:=S.nm) (f:=f) (n:=n) (fun r s => { s with val:=s.val ++ encodeRune r,st:=16 }) 17 (fun k' e => by unfold step; rw [e]; rfl) (n - k.ps) (k.turn 17) rfl hOk.how rfl hOk.ref
   have hkn:k.ps <= n:=Nat.le_trans hW1.rdy.qe hW1.rdy.fn
   obtain ⟨v,hvv⟩ : ∃ v,refRun f n (n - k.ps) (k.turn 17)=v:=⟨_,rfl⟩
   have hvv':refRun f n (n - (Stt S k.ps (k.turn 17)).k.ps) (Stt S k.ps (k.turn 17)).k=v:=hvv
   rw [hvv'] at cR
   rw [hvv] at hv
   have HW1:=hide' hW1
   have HSt:=hide' hSt
   have HOk:=hide' hOk
   have HCR2:=hide' cR
   have HV:=hide' hv
   clear hW hW1 hSt hOk cR hv hvv hvv'
   go_wp2_with fail
   refine HCR2.out.mono ?_
   rintro e W2 ⟨hE,R2,hW2⟩
   have hWW:=HW1.out.trans hW2
   obtain ⟨v1',v2',k2⟩:=v
   unfold RfE at hE
   simp only at hE hWW
   obtain ⟨hal,hrl,hpl,hv3⟩:=HV.out
   simp only at hal hrl hpl hv3
   clear HCR2 hW2 d8 g8
   rcases hv3 with ⟨e0,k1,k3,k4,k5,k6⟩ | hno
   . subst e0
     rw [if_pos rfl] at hE
     subst hE
     obtain ⟨a1,a2,a3,a4,a5,a6,a7,a8,a9,a10,a11,a12⟩:=hal
     have o2:k.text.length <= 4 * k.ps:=HOk.out.text
     have o3:k.tag.length <= 4 * k.ps:=HOk.out.tag
     have o4:k.attr.length <= 4 * k.ps:=HOk.out.attr
     have o5:k.val.length <= 4 * k.ps:=HOk.out.val
     have o7:k.ct <= k.ps:=HOk.out.ct
     have o8:k.attrs.length <= k.ps:=HOk.out.attrs
     have hbig:=HW1.out.rdy.big
     have hk4:k.ps < k2.ps:=k4
     have p2:k2.text.length=k.text.length:=by rw [a3]; rfl
     have p3:k2.tag.length=k.tag.length:=by rw [a8]; rfl
     have p4:k2.attr.length=k.attr.length:=by rw [a10]; rfl
     have p5:k2.val.length=k.val.length:=by rw [a11]; rfl
     have p8:k2.attrs.length=k.attrs.length:=by rw [a9]; rfl
     have p7:k2.ct=k.ct:=by first | exact a4 | exact a5 | exact a6 | exact a7
     have hle:k2.ps <= n:=Nat.le_trans hWW.rdy.qe hWW.rdy.fn
     have HK6:=hide' k6
     have HK1:=hide' k1
     have hsc:=k3
     have hstep2:=HK6.out
     have hv4:k2.val.length + 4 <= 140737488355328:=by omega
     have HPP:=hide' (And.intro p2 (And.intro p3 (And.intro p4 (And.intro p5 (And.intro p8 p7)))))
     clear p2 p3 p4 p5 p8 p7 k6 k1 a1 a2 a3 a4 a5 a6 a7 a8 a9 a10 a11 a12
     have dF:=hWW.sc.c28
     obtain ⟨paF,capF,etF⟩:=own_shape hWW.sc.val
     have cA:=appRune_any B R2.val k2.val v2' W2 hWW.sc.val hv4 hWW.rdy.bw hsc
     rw [etF] at dF
     rw [show (#[R2.val,Value.int .i32 (v2':Nat)] : Array Value) = #[.slice paF k2.val.length capF, .int .i32 (v2':Nat)] by rw [etF]; rfl] at cA
     have HWW:=hide' hWW
     have HCA:=hide' cA
     have HS2':=hide' hstep2
     clear hWW cA etF hstep2
     dsimp only [Stt,Wk.took,Wk.turn] at dF
     go_wp2_with fail
     refine HCA.out.mono ?_
     rintro e W4 ⟨v',rfl,hrow,hg⟩
     obtain ⟨pa',m',cap',rfl⟩:=own_shape3 hrow
     have hneD:R2.val.ownBlock ≠ some D:=fun e => by have:=HWW.out.sc.apart 0 10 D rfl (by rw [<- e]; rfl); omega
     have hD4:=hg.block D HWW.out.sc.lt0 hneD
     have eF:W4.cell? ⟨D,28,none⟩ = some R2.val:=(World.cell?_of_block (a:=⟨D,28,none⟩) hD4).trans HWW.out.sc.c28
     have gF:W4.frozen? ⟨D,28,none⟩ = false:=(World.frozen?_of_block (a:=⟨D,28,none⟩) hD4).trans (HWW.out.sc.fz 28)
     have hW5:=HWW.out.put (k2 := { k2 with val:=k2.val ++ encodeRune v2' }) (HWW.out.sc.val' hg hrow) (To.val' hg) rfl HK1.out rfl rfl
     have hen:=Rn.enc_length (v2':Int)
     have hel:=Rn.el_pos (v2':Int)
     have hstep2:=HS2'.out
     clear hg hrow hD4 hneD HCA dF
     obtain ⟨p2,p3,p4,p5,p8,p7⟩:=HPP.out
     have hok:Ok S.nm k2.ps ({ k2 with val:=k2.val ++ encodeRune v2' }.turn 16):=by
      refine ⟨HK1.out, ?_, ?_, ?_, ?_, ?_, ?_, ?_, ?_, ?_, ?_, ?_, ?_, ?_⟩
      all_goals (simp only [Wk.turn,List.length_append])
      all_goals omega
     have hj:Jw 16 (W4.setCell ⟨D,28,none⟩ (.slice pa' m' cap')):=by
      rw [HJ.out]
      exact ⟨k2.ps,_,_,hW5,HSt.out.trans hstep2,hok,by show S.k.ps <= k2.ps; omega⟩
     have hmu:n - psOf (W4.setCell ⟨D,28,none⟩ (.slice pa' m' cap')) D < n - psOf W D:=by
      rw [show psOf (W4.setCell ⟨D,28,none⟩ (.slice pa' m' cap')) D=k2.ps from psOf_eq hW5.sc.c16,HPSW.out]
      omega
     have HJJ:=hide' hj
     have HMU:=hide' hmu
     clear hj hmu hok hstep2 hW5
     go_wp2_with fail
     go_step3
     exact .inl ⟨rfl,⟨rfl,rfl,rfl,HJJ.out⟩,HMU.out⟩
   . have hne:v1' ≠ 0:=by rcases hno with ⟨e,_⟩ | ⟨e,_⟩ <;> omega
     rw [if_neg hne] at hE
     subst hE
     have hfin:Part w D B f n S R d (.returned (.bool false)) W2:=by
      rcases hno with ⟨e,k1,k3⟩ | ⟨e,k1,k3⟩
      . exact ⟨false,k2.ps,k2,R2,rfl,hWW,HSt.out.trans k3,by rw [if_neg (by decide)]; left; omega⟩
      . exact ⟨false,k2.ps,k2,R2,rfl,hWW,HSt.out.trans k1,by rw [if_neg (by decide)]; right; exact k3⟩
     have HFIN:=hide' hfin
     clear hfin hWW
     go_wp2_with fail
     simp only [jumps2]
     exact bodyPost_ret (v := .bool false) (by simp [results,Tryd.results37,go_sem]) rfl HFIN.out
end
end Sc
end Go.Proofs.YteiiepjegdlbeaaDoor
