import Derived.Test.YteiiepjegdlbeaaDoorScLawPl
import Derived.Test.YteiiepjegdlbeaaDoorScLawPl
import Derived.Test.YteiiepjegdlbeaaDoorScLawPl
set_option maxHeartbeats 8000000
set_option maxRecDepth 10000
namespace Go.Proofs.YteiiepjegdlbeaaDoor
open Go.RowKit Go.Lib
namespace Sc
theorem own_mono {w:World} {base base':Nat} {e:TypeId} {size:Nat} {v:Value} {n:Nat} {xs:List Value} (h:w.ownsRow base e size v n xs) (hb:base' <= base) : w.ownsRow base' e size v n xs :=
 ⟨h.1,h.2.imp id fun ⟨g,cap,cur,h1,h2,h3⟩ => ⟨g,cap,cur,h1,Nat.le_trans hb h2,h3⟩⟩
theorem wpAnyH_mono {P:Program} {md:Region.Mode} {ops:Array Oper} {Q:Exit -> Act -> World -> Prop} {S S':World -> Prop} (hS : ∀ w,S' w -> S w) : ∀ (fuel:Nat) (listed:Array Bool) (a:Act) (w:World),wpAnyH P md ops Q S' fuel listed a w -> wpAnyH P md ops Q S fuel listed a w
 | 0,_,_,_,h => h
 | fuel + 1,_,_,_,h => ⟨h.1,fun i hi => wpOp_mono (fun a' w' h' => ⟨hS w' h'.1,wpAnyH_mono hS fuel _ a' w' h'.2⟩) (h.2 i hi)⟩
theorem lawCuts_any (v:Value) (f:Nat -> Nat) (n:Nat) (w:World) (hS:Spans w) (hU:Lib.Utf8Tabs 2 3 w) (hf : ∀ j,f j < 256) (hA:ArgS w f n v) :
 Calls Tryd.prog 3 #[v] w fun e w' => e = .returned (.bool true) /\ Below w.heap.size w w':=by
 have cA:=awake_any w hS hU
 have cW:n <= 3000 -> ∀ (W:World),Below w.heap.size w W -> Calls Tryd.prog 9 #[v, .bool true] W (WholeE W f n true):=fun hn W hb => wholeRun_any W v f n true (hS.below hb (Nat.le_refl _)) (tabs_below hU hb (Nat.le_refl _)) hf (hA.below hb (Nat.le_refl _)) (by omega)
 have cT : ∀ (W:World),Below w.heap.size w W -> Tb W.heap.size W:=fun W hb => ⟨W,hS.below hb (Nat.le_refl _),tabs_below hU hb (Nat.le_refl _),Nat.le_refl _,Below.refl _ _⟩
 obtain ⟨pa,cap,ev,hsp⟩:=hA.span
 subst ev
 have HSP:=hide' hsp
 have CA:=hide' cA
 have CW:=hide' cW
 have CT:=hide' cT
 have HF:=hide' hf
 clear cA cW cT hS hU hA hf hsp
 by_cases hn:n <= 3000
 . have i0 : ¬ (3000:Int) < n:=by omega
   have CW0:=hide' (CW.out hn)
   have HN:=hide' hn
   clear hn CW
   go_enter Tryd.func3,Tryd.ntmps3
   go_wp2_with fail
   refine CA.out.mono ?_
   rintro e w1 ⟨rfl,hb1⟩
   have CW1:=hide' (CW0.out w1 hb1)
   have HB1:=hide' hb1
   clear hb1 CA CW0
   go_wp2_with fail
   refine CW1.out.mono ?_
   rintro e w2 ⟨Qr,Dr0,Rr,tkr,opr,Vr,ur,howr,pr,rfl,hDr,hStr,hb2⟩
   have hB2:Below w.heap.size w w2:=HB1.out.trans (hb2.mono HB1.out.size)
   have hMr:=hStr.told
   have hVrl:Vr.length <= n:=by
    obtain ⟨b,k,q1,_,_,_,_,_,q7,_⟩:=hStr
    have:=q1.len
    rw [List.length_map] at this
    omega
   have HVRL:=hide' hVrl
   clear hVrl
   have HDR:=hide' hDr
   have HMR:=hide' hMr
   have HB2:=hide' hB2
   have CN:=hide' (scNew_any w2 w2.heap.size (Nat.le_refl _) f)
   have HW1:Hid (w.heap.size <= w1.heap.size):=HB1.out.size
   clear hDr hStr hMr hb2 hB2 CW1 HB1
   go_wp2_with fail
   refine CN.out.mono ?_
   rintro e w3 ⟨rfl,hS3,hb3,hl3⟩
   have hC:=cut_new_run ((CT.out w2 HB2.out).to hb3) hS3 hb3
   have HC:=hide' hC
   have hQr:Qr < w2.heap.size:=HDR.out.lt
   have hQ3:Qr ≠ w3.heap.size:=by omega
   have HQR:=hide' hQr
   clear hC hS3 hb3 CN hQr hQ3
   go_wp2_with fail
   clear hl3
   generalize hDD:w2.heap.size=D at HC HQR ⊢
   generalize hQQ:w3.heap.size=Q at HC ⊢
   have HDD:=hide' hDD
   clear hDD hQQ
   go_loopw [7] (fun i wr => ∃ j:Nat,i = .int .i64 j /\ j <= n /\ Hid (∃ tk op V how p inn,CutS w2 D Q f j tk op V how p inn wr)) (fun i _ => n - (RowKit.intOf i).toNat)
   case atStart => exact ⟨0,rfl,Nat.zero_le _,_,_,_,_,_,_,HC.out⟩
   case round =>
    obtain ⟨j,rfl,hj,hcs0⟩:=hrel
    obtain ⟨tk,op,V,how,p,inn,hcs⟩:=hcs0.out
    obtain ⟨R,o,hd⟩:=hcs.drv
    have hBw:Below w.heap.size w wr:=by
     obtain ⟨_,_,_,_,_,_,h4⟩:=hcs
     rw [<- HDD.out] at h4
     exact HB2.out.trans (h4.mono HB2.out.size)
    have c0:=hd.c 0 tk rfl
    obtain ⟨po,co,etk⟩:=own_shape hd.toks
    rw [etk] at c0
    have hVl:=hcs.len
    by_cases hlt:j < n
    . have i1:(j:Int) < (n:Int):=by omega
      have hltj:j + 1 <= n:=hlt
      obtain ⟨q,o',epa,hby⟩ : ∃ q o,pa=some ⟨q,o,none⟩ /\ Bytes w q o n f:=by
       rcases HSP.out.2 with e | e
       . omega
       . exact e
      have y1:=hby.below hBw (Nat.le_refl _) j hlt
      subst epa
      have hVn:V.length <= 1073741824:=by have:=HN.out; omega
      have CP:=hide' (cut_push hcs HF.out (by have:=HN.out; omega))
      have HVN:=hide' hVn
      have HVL:=hide' hVl
      clear hcs hd hBw etk hby hcs0 HC hVn hVl
      obtain ⟨m,hm⟩ : ∃ m,m=V.length:=⟨_,rfl⟩
      rw [<- hm] at c0
      have HM:=hide' hm
      clear hm
      go_wp2_with fail
      refine CP.out.mono ?_
      rintro e w6 ⟨rfl,hP⟩
      have CD:=hide' (cut_drain hP HF.out (by have:=HN.out; omega) HVN.out)
      clear hP CP c0 y1
      go_wp2_with fail
      refine CD.out.mono ?_
      rintro e w7 ⟨rfl,hD7⟩
      obtain ⟨tk7,op7,V7,how7,p7,inn7,hl7,hS7,hM7,hw7,hE7⟩:=hD7
      rw [<- HM.out] at hl7 hE7
      have HS7:=hide' hS7
      have HM7:=hide' hM7
      have HW7:=hide' hw7
      have HE7:=hide' hE7
      have HL7:=hide' hl7
      obtain ⟨w5,hw5⟩ : ∃ w5,w5=wr:=⟨_,rfl⟩
      rw [<- hw5]
      clear hS7 hM7 hw7 hE7 CD hw5 hl7
      go_wp2_with fail
      clear wr
      go_loopw [9] (fun k wr => ∃ i:Nat,k = .int .i64 i /\ m <= i /\ i <= V7.length /\ Hid (Below w7.heap.size w7 wr)) (fun k _ => V7.length - (RowKit.intOf k).toNat)
      case atStart => exact ⟨m,rfl,Nat.le_refl _,HL7.out,Below.refl _ _⟩
      case round =>
       obtain ⟨k,rfl,hmk,hkl,hb7⟩:=hrel
       obtain ⟨R7,o7,hd7⟩:=HS7.out.drv
       have hd:=hd7.below hb7.out
       have hQl:Q < wr.heap.size:=hd.lt
       have hQ':Q ≠ wr.heap.size:=by omega
       have c0:=hd.c 0 tk7 rfl
       obtain ⟨po,co,etk⟩:=own_shape hd.toks
       rw [etk] at c0
       have hlen:V7.length <= 1073741824:=by have:=HS7.out.len; have:=HN.out; omega
       obtain ⟨N,hN⟩ : ∃ N,N=V7.length:=⟨_,rfl⟩
       have HDV:=hide' hd
       have HLEN:=hide' hlen
       have HNN:=hide' hN
       by_cases hlt:k < V7.length
       . obtain ⟨g,cp,e1,k1,k2,k3,k4⟩:=tok_cells hd.toks hlt
         rw [etk] at e1
         cases e1
         have i2:(k:Int) < N:=by omega
         have iwk:IntKind.i64.wrap ((k:Int) + 1)=k + 1:=by rw [IntKind.wrap_i64]; omega
         have iwj:IntKind.i64.wrap ((j:Int) + 1)=j + 1:=by have:=HN.out; rw [IntKind.wrap_i64]; omega
         have q0:=k4 k hlt
         obtain ⟨t,ht⟩ : ∃ t,V7[k]=t:=⟨_,rfl⟩
         rw [ht] at q0
         have t0:=q0 0 (.int .i64 (t.tk.kind:Nat)) rfl
         rw [Nat.add_zero] at t0
         have t1:=q0 1 (.string ⟨t.tk.name.toArray⟩) rfl
         have t2:=q0 2 t.av rfl
         obtain ⟨pv,cv,eav⟩:=own_shape (hd.attrs t (ht ▸ List.getElem_mem hlt)).1
         rw [eav] at t2
         have t3:=q0 3 (.string ⟨t.tk.text.toArray⟩) rfl
         have t4:=q0 4 (.int .i64 (t.tk.fm.1:Nat)) rfl
         have t5:=q0 5 (.int .i64 (t.tk.fm.2.1:Nat)) rfl
         have t6:=q0 6 (.int .i64 (t.tk.fm.2.2.1:Nat)) rfl
         have t7:=q0 7 (.int .i64 (t.tk.fm.2.2.2:Nat)) rfl
         have t8:=q0 8 (.int .i64 (t.tk.til.1:Nat)) rfl
         have t9:=q0 9 (.int .i64 (t.tk.til.2.1:Nat)) rfl
         have t10:=q0 10 (.int .i64 (t.tk.til.2.2.1:Nat)) rfl
         have t11:=q0 11 (.int .i64 (t.tk.til.2.2.2:Nat)) rfl
         have hg':g ≠ wr.heap.size:=by omega
         have hE:=HE7.out k hlt hmk
         have HK4:Hid (∀ (h2:k + 1 < V7.length),wr.cell? ⟨g,(k + 1) * 12,none⟩ = some (.int .i64 ((V7[k + 1]).tk.kind:Nat))):=fun h2 => by
          have:=k4 (k + 1) h2 0 (.int .i64 ((V7[k + 1]).tk.kind:Nat)) rfl
          rwa [Nat.add_zero] at this
         rw [ht] at hE
         rw [<- hN] at c0
         have hend:Hid (∀ (o:Obj) ,(∃ i:Nat,Value.int .i64 ((k:Int) + 1) = .int .i64 i /\ m <= i /\ i <= V7.length /\ Hid (Below w7.heap.size w7 (wr.alloc o))) /\ V7.length - (RowKit.intOf (.int .i64 ((k:Int) + 1))).toNat < V7.length - (RowKit.intOf (.int .i64 (k:Int))).toNat):=fun o => ⟨⟨k + 1,by simp,by omega,hlt,hb7.out.alloc hb7.out.size o⟩,by show V7.length - ((k:Int) + 1).toNat < V7.length - (k:Int).toNat; omega⟩
         have HE:=hide' hE
         have HHLT:=hide' hlt
         clear hd hd7 etk hlen k1 k2 k4 q0 ht eav hE hlt hN hmk hkl
         rcases HE.out with ⟨e1,e2⟩ | ⟨e1,h2,e2⟩
         . rw [e2] at t8
           have j1 : ¬ (t.tk.kind:Int)=0:=by omega
           have j2:((t.tk.kind:Int) != 0)=true:=bne_iff_ne.2 j1
           have j3:((t.tk.kind:Int) == 0)=false:=by rw [beq_eq_false_iff_ne]; exact j1
           obtain ⟨j8,hj8⟩ : ∃ j8,j8=j + 1:=⟨_,rfl⟩
           rw [<- hj8] at t8
           have iwj8:IntKind.i64.wrap ((j:Int) + 1)=j8:=by have:=HN.out; rw [IntKind.wrap_i64]; omega
           clear e1 e2 hj8 iwj HE HK4
           go_wp2_with fail
           exact hend.out _
         . have t0':=HK4.out h2
           rw [e1] at t0
           obtain ⟨kd,hkd⟩ : ∃ kd,kd=(V7[k + 1]).tk.kind:=⟨_,rfl⟩
           rw [<- hkd] at t0' e2
           have j1 : ¬ (kd:Int)=0:=by omega
           have j3:((kd:Int) == 0)=false:=by rw [beq_eq_false_iff_ne]; exact j1
           have j4:(k:Int) + 1 < N:=by have:=HNN.out; omega
           have j5 : ¬ (N:Int) <= (k:Int) + 1:=by omega
           have j6:(0:Int) <= (k:Int) + 1:=by omega
           clear e1 e2 hkd HE HK4 h2 iwj
           go_wp2_with fail
           exact hend.out _
       . have i2 : ¬ (k:Int) < N:=by omega
         have hb2w:Below w2.heap.size w2 wr:=by
          obtain ⟨_,_,_,_,_,_,h4⟩:=HS7.out
          rw [<- HDD.out] at h4
          exact h4.trans (hb7.out.mono (Nat.le_trans (h4.size) (Nat.le_refl _)))
         have hr:=HDR.out.below hb2w
         have hQr:Qr < wr.heap.size:=hr.lt
         have c1:=hd.c 1 (.int .i64 (how7:Nat)) rfl
         have c2:=hd.c 2 (.int .i64 (p7.1:Nat)) rfl
         have c3:=hd.c 3 (.int .i64 (p7.2.1:Nat)) rfl
         have c4:=hd.c 4 (.int .i64 (p7.2.2.1:Nat)) rfl
         have c5:=hd.c 5 (.int .i64 (p7.2.2.2:Nat)) rfl
         have d1:=hr.c 1 (.int .i64 (howr:Nat)) rfl
         have d2:=hr.c 2 (.int .i64 (pr.1:Nat)) rfl
         have d3:=hr.c 3 (.int .i64 (pr.2.1:Nat)) rfl
         have d4:=hr.c 4 (.int .i64 (pr.2.2.1:Nat)) rfl
         have d5:=hr.c 5 (.int .i64 (pr.2.2.2:Nat)) rfl
         have HEN:Hid (∀ mm,(∃ j':Nat,Value.int .i64 ((j:Int) + 1) = .int .i64 j' /\ j' <= n /\ Hid (∃ tk op V how p inn,CutS w2 D Q f j' tk op V how p inn (wr.drewN mm))) /\ n - (RowKit.intOf (.int .i64 ((j:Int) + 1))).toNat < n - (RowKit.intOf (.int .i64 (j:Int))).toNat):=fun mm => ⟨⟨j + 1,by simp,hltj,_,_,_,_,_,_,HS7.out.below (below_drewN hb7.out mm)⟩,by show n - ((j:Int) + 1).toNat < n - (j:Int).toNat; omega⟩
         have iwj:IntKind.i64.wrap ((j:Int) + 1)=j + 1:=by have:=HN.out; rw [IntKind.wrap_i64]; omega
         rw [<- hN] at c0
         have hMr:=HMR.out.math
         have hcs:(how7=1 /\ (howr=3 \/ (howr=2 /\ j < pr.1))) \/ (how7=2 /\ howr=2 /\ pr=p7 /\ p7.1 <= j):=by
          rcases HW7.out with e | e
          . refine .inl ⟨e, ?_⟩
            rcases stop_how hMr with e2 | ⟨e2,_⟩
            . exact .inl e2
            . rw [e2] at hMr
              have:=cut_wait hltj HM7.out e hMr
              exact .inr ⟨e2,by omega⟩
          . obtain ⟨g1,g2,g3⟩:=cut_bad HF.out hltj HM7.out e hMr
            exact .inr ⟨e,g2,g3,by omega⟩
         have HCS:=hide' hcs
         clear hd hd7 etk hlen hb2w hr hMr hcs hlt hmk hkl hN
         rcases HCS.out with ⟨e1,e2 | ⟨e2,e3⟩⟩ | ⟨e1,e2,e3,e4⟩
         . rw [e1] at c1
           rw [e2] at d1
           clear HCS e1 e2
           go_wp2_with fail
           go_quiet (fail)
           go_wp2_with fail
           exact HEN.out _
         . rw [e1] at c1
           rw [e2] at d1
           have j1 : ¬ (pr.1:Int) <= j:=by omega
           clear HCS e1 e2
           go_wp2_with fail
           go_quiet (fail)
           go_wp2_with fail
           exact HEN.out _
         . rw [e1] at c1
           rw [e2] at d1
           rw [e3] at d2 d3 d4 d5
           by_cases e5:p7.1=j
           . rw [e5] at c2 d2
             clear HCS e1 e2 e3
             go_wp2_with fail
             go_quiet (fail)
             go_wp2_with fail
             exact HEN.out _
           . have j1 : ¬ (p7.1:Int)=j:=by omega
             have j2:((p7.1:Int) != j)=true:=bne_iff_ne.2 j1
             have j3 : ¬ (j:Int) < p7.1:=by omega
             clear HCS e1 e2 e3
             go_wp2_with fail
             go_quiet (fail)
             go_wp2_with fail
             exact HEN.out _
    . obtain rfl:j=n:=by omega
      have i1 : ¬ (j:Int) < (j:Int):=by omega
      have hVn:V.length <= 1073741824:=by have:=HN.out; omega
      have HVN:=hide' hVn
      have CE:=hide' (cut_end (hcs.below (Below.refl _ _).drew))
      clear hcs hd hBw etk hcs0 HC hVn hVl c0
      go_wp2_with fail
      refine wp_region_held_drew (S:=fun _ => True) (by kernel_rfl) trivial (fun hHeld => ?_)
      simp only [List.size_toArray,List.length_cons,List.length_nil,Nat.reduceAdd]
      refine wpAnyH_take (i:=0) (v := .pointer (some ⟨D,0,none⟩)) rfl (by kernel_rfl) (by kernel_rfl) (by kernel_rfl) (fun _ _ _ h => h) (Or.inl ⟨by rfl, ?y0⟩) (by assumption) ?_
      case y0 => (intro w' hSw; go_simp; try rfl)
      try simp only [List.getElem_toArray,List.getElem_cons_zero,Act.put,List.setIfInBounds_toArray,List.set_cons_zero,List.set_cons_succ]
      refine wpAnyH_ready (rs := [1]) (by kernel_rfl) (by simp) ?_
      refine AllReadyH.cons rfl (fun K hK => ?_) AllReadyH.nil
      try simp only [List.getElem_toArray,List.getElem_cons_zero,List.getElem_cons_succ]
      go_simp
      refine CE.out.mono ?_
      rintro e W1 ⟨rfl,hP⟩
      have CD:=hide' (cut_last hP HF.out (by have:=HN.out; omega) HVN.out)
      clear hP CE
      go_wp2_with fail
      refine hK.out _ _ trivial (fun hHeld => ?_)
      clear hK K
      try simp only [List.getElem_toArray,List.getElem_cons_zero,List.getElem_cons_succ,Act.put,List.setIfInBounds_toArray,List.set_cons_zero,List.set_cons_succ]
      refine wpAnyH_take (i:=2) (v := .bool false) rfl (by kernel_rfl) (by kernel_rfl) (by kernel_rfl) (fun _ _ _ h => h) (Or.inl ⟨by rfl, ?y2⟩) (by assumption) ?_
      case y2 => (intro w' hSw; go_simp; try rfl)
      try simp only [List.getElem_toArray,List.getElem_cons_zero,List.getElem_cons_succ,Act.put,List.setIfInBounds_toArray,List.set_cons_zero,List.set_cons_succ]
      refine wpAnyH_take (i:=3) (v := .bool false) rfl (by kernel_rfl) (by kernel_rfl) (by kernel_rfl) (fun _ _ _ h => h) (Or.inl ⟨by rfl, ?y3⟩) (by assumption) ?_
      case y3 => (intro w' hSw; go_simp; try rfl)
      try simp only [List.getElem_toArray,List.getElem_cons_zero,List.getElem_cons_succ,Act.put,List.setIfInBounds_toArray,List.set_cons_zero,List.set_cons_succ]
      refine wpAnyH_take (i:=4) (v := .pointer (some ⟨Q,0,none⟩)) rfl (by kernel_rfl) (by kernel_rfl) (by kernel_rfl) (fun _ _ _ h => h) (Or.inl ⟨by rfl, ?y4⟩) (by assumption) ?_
      case y4 => (intro w' hSw; go_simp; try rfl)
      try simp only [List.getElem_toArray,List.getElem_cons_zero,List.getElem_cons_succ,Act.put,List.setIfInBounds_toArray,List.set_cons_zero,List.set_cons_succ]
      refine wpAnyH_take (i:=5) (v := .pointer (some ⟨D,0,none⟩)) rfl (by kernel_rfl) (by kernel_rfl) (by kernel_rfl) (fun _ _ _ h => h) (Or.inl ⟨by rfl, ?y5⟩) (by assumption) ?_
      case y5 => (intro w' hSw; go_simp; try rfl)
      try simp only [List.getElem_toArray,List.getElem_cons_zero,List.getElem_cons_succ,Act.put,List.setIfInBounds_toArray,List.set_cons_zero,List.set_cons_succ]
      refine wpAnyH_ready (rs := [6]) (by kernel_rfl) (by simp) ?_
      refine AllReadyH.cons rfl (fun K hK => ?_) AllReadyH.nil
      try simp only [List.getElem_toArray,List.getElem_cons_zero,List.getElem_cons_succ]
      go_simp
      refine CD.out.mono ?_
      rintro e W2 ⟨rfl,hF9⟩
      have HF9:=hide' hF9
      clear hF9 CD
      go_wp2_with fail
      refine hK.out _ _ trivial (fun _ => ?_)
      clear hK K hHeld
      try simp only [List.getElem_toArray,List.getElem_cons_zero,List.getElem_cons_succ,Act.put,List.setIfInBounds_toArray,List.set_cons_zero,List.set_cons_succ]
      refine wpAnyH_mono (S':=fun w' => w'=W2) (fun _ _ => trivial) _ _ _ _ ?_
      have hHeld:W2=W2:=rfl
      obtain ⟨R9,tk9,op9,V9,how9,p9,o9,inn9,a1,a2,a3⟩:=HF9.out
      obtain ⟨eT,eh,ep⟩:=a2.only HMR.out
      rw [<- HDD.out] at a3
      have hr:=HDR.out.below a3
      have hl9:V9.length=Vr.length:=by have:=congrArg List.length eT; rwa [List.length_map,List.length_map] at this
      obtain ⟨po,co,etk⟩:=own_shape a1.toks
      obtain ⟨pq,cq,etr⟩:=own_shape hr.toks
      have c0:=a1.c 0 tk9 rfl
      have c1:=a1.c 1 (.int .i64 (how9:Nat)) rfl
      have c2:=a1.c 2 (.int .i64 (p9.1:Nat)) rfl
      have c3:=a1.c 3 (.int .i64 (p9.2.1:Nat)) rfl
      have c4:=a1.c 4 (.int .i64 (p9.2.2.1:Nat)) rfl
      have c5:=a1.c 5 (.int .i64 (p9.2.2.2:Nat)) rfl
      have d0:=hr.c 0 tkr rfl
      have d1:=hr.c 1 (.int .i64 (howr:Nat)) rfl
      have d2:=hr.c 2 (.int .i64 (pr.1:Nat)) rfl
      have d3:=hr.c 3 (.int .i64 (pr.2.1:Nat)) rfl
      have d4:=hr.c 4 (.int .i64 (pr.2.2.1:Nat)) rfl
      have d5:=hr.c 5 (.int .i64 (pr.2.2.2:Nat)) rfl
      rw [<- eh] at d1
      rw [<- ep] at d2 d3 d4 d5
      rw [etk,hl9] at c0
      rw [etr] at d0
      obtain ⟨N,hN⟩ : ∃ N,Vr.length=N:=⟨_,rfl⟩
      rw [hN] at c0 d0
      have hNl:N <= 3000:=by
       have:=HVRL.out
       have:=HN.out
       omega
      have HA1:=hide' a1
      have HR9:=hide' hr
      have HET:=hide' eT
      have HA3:=hide' a3
      have HL9:=hide' hl9
      have HTK:=hide' etk
      have HTR:=hide' etr
      have HNN:=hide' hN
      have HNL:=hide' hNl
      clear a1 a2 hr eT eh ep a3 hl9 etk etr hN hNl HF9 HMR
      refine wpAnyH_take (i:=7) (v := .bool false) rfl (by kernel_rfl) (by kernel_rfl) (by kernel_rfl) (fun _ _ _ h => h) (Or.inl ⟨by rfl, ?y7⟩) (by assumption) ?_
      case y7 => (intro w' hSw; go_simp; try rfl)
      try simp only [List.getElem_toArray,List.getElem_cons_zero,List.getElem_cons_succ,Act.put,List.setIfInBounds_toArray,List.set_cons_zero,List.set_cons_succ]
      refine wpAnyH_take (i:=8) (v := .bool false) rfl (by kernel_rfl) (by kernel_rfl) (by kernel_rfl) (fun _ _ _ h => h) (Or.inl ⟨by rfl, ?y8⟩) (by assumption) ?_
      case y8 => (intro w' hSw; go_simp; try rfl)
      try simp only [List.getElem_toArray,List.getElem_cons_zero,List.getElem_cons_succ,Act.put,List.setIfInBounds_toArray,List.set_cons_zero,List.set_cons_succ]
      refine wpAnyH_take (i:=9) (v := .bool false) rfl (by kernel_rfl) (by kernel_rfl) (by kernel_rfl) (fun _ _ _ h => h) (Or.inl ⟨by rfl, ?y9⟩) (by assumption) ?_
      case y9 => (intro w' hSw; go_simp; try rfl)
      try simp only [List.getElem_toArray,List.getElem_cons_zero,List.getElem_cons_succ,Act.put,List.setIfInBounds_toArray,List.set_cons_zero,List.set_cons_succ]
      refine wpAnyH_take (i:=10) (v := .pointer (some ⟨Q,0,none⟩)) rfl (by kernel_rfl) (by kernel_rfl) (by kernel_rfl) (fun _ _ _ h => h) (Or.inl ⟨by rfl, ?y10⟩) (by assumption) ?_
      case y10 => (intro w' hSw; go_simp; try rfl)
      try simp only [List.getElem_toArray,List.getElem_cons_zero,List.getElem_cons_succ,Act.put,List.setIfInBounds_toArray,List.set_cons_zero,List.set_cons_succ]
      refine wpAnyH_take (i:=11) (v := .pointer (some ⟨Q,0,none⟩)) rfl (by kernel_rfl) (by kernel_rfl) (by kernel_rfl) (fun _ _ _ h => h) (Or.inl ⟨by rfl, ?y11⟩) (by assumption) ?_
      case y11 => (intro w' hSw; go_simp; try rfl)
      try simp only [List.getElem_toArray,List.getElem_cons_zero,List.getElem_cons_succ,Act.put,List.setIfInBounds_toArray,List.set_cons_zero,List.set_cons_succ]
      refine wpAnyH_take (i:=12) (v := .pointer (some ⟨Q,1,none⟩)) rfl (by kernel_rfl) (by kernel_rfl) (by kernel_rfl) (fun _ _ _ h => h) (Or.inl ⟨by rfl, ?y12⟩) (by assumption) ?_
      case y12 => (intro w' hSw; go_simp; try rfl)
      try simp only [List.getElem_toArray,List.getElem_cons_zero,List.getElem_cons_succ,Act.put,List.setIfInBounds_toArray,List.set_cons_zero,List.set_cons_succ]
      refine wpAnyH_take (i:=13) (v := .int .i64 (how9:Nat)) rfl (by kernel_rfl) (by kernel_rfl) (by kernel_rfl) (fun _ _ _ h => h) (Or.inl ⟨by rfl, ?y13⟩) (by assumption) ?_
      case y13 => (intro w' hSw; subst hSw; go_simp; try rfl)
      try simp only [List.getElem_toArray,List.getElem_cons_zero,List.getElem_cons_succ,Act.put,List.setIfInBounds_toArray,List.set_cons_zero,List.set_cons_succ]
      refine wpAnyH_take (i:=14) (v := .pointer (some ⟨Qr,0,none⟩)) rfl (by kernel_rfl) (by kernel_rfl) (by kernel_rfl) (fun _ _ _ h => h) (Or.inl ⟨by rfl, ?y14⟩) (by assumption) ?_
      case y14 => (intro w' hSw; go_simp; try rfl)
      try simp only [List.getElem_toArray,List.getElem_cons_zero,List.getElem_cons_succ,Act.put,List.setIfInBounds_toArray,List.set_cons_zero,List.set_cons_succ]
      refine wpAnyH_take (i:=15) (v := .pointer (some ⟨Qr,0,none⟩)) rfl (by kernel_rfl) (by kernel_rfl) (by kernel_rfl) (fun _ _ _ h => h) (Or.inl ⟨by rfl, ?y15⟩) (by assumption) ?_
      case y15 => (intro w' hSw; go_simp; try rfl)
      try simp only [List.getElem_toArray,List.getElem_cons_zero,List.getElem_cons_succ,Act.put,List.setIfInBounds_toArray,List.set_cons_zero,List.set_cons_succ]
      refine wpAnyH_take (i:=16) (v := .pointer (some ⟨Qr,1,none⟩)) rfl (by kernel_rfl) (by kernel_rfl) (by kernel_rfl) (fun _ _ _ h => h) (Or.inl ⟨by rfl, ?y16⟩) (by assumption) ?_
      case y16 => (intro w' hSw; go_simp; try rfl)
      try simp only [List.getElem_toArray,List.getElem_cons_zero,List.getElem_cons_succ,Act.put,List.setIfInBounds_toArray,List.set_cons_zero,List.set_cons_succ]
      refine wpAnyH_take (i:=17) (v := .int .i64 (how9:Nat)) rfl (by kernel_rfl) (by kernel_rfl) (by kernel_rfl) (fun _ _ _ h => h) (Or.inl ⟨by rfl, ?y17⟩) (by assumption) ?_
      case y17 => (intro w' hSw; subst hSw; go_simp; try rfl)
      try simp only [List.getElem_toArray,List.getElem_cons_zero,List.getElem_cons_succ,Act.put,List.setIfInBounds_toArray,List.set_cons_zero,List.set_cons_succ]
      refine wpAnyH_take (i:=18) (v := .bool false) rfl (by kernel_rfl) (by kernel_rfl) (by kernel_rfl) (fun _ _ _ h => h) (Or.inl ⟨by rfl, ?y18⟩) (by assumption) ?_
      case y18 => (intro w' hSw; go_simp; try rfl)
      try simp only [List.getElem_toArray,List.getElem_cons_zero,List.getElem_cons_succ,Act.put,List.setIfInBounds_toArray,List.set_cons_zero,List.set_cons_succ]
      refine wpAnyH_take (i:=19) (v := .bool false) rfl (by kernel_rfl) (by kernel_rfl) (by kernel_rfl) (fun _ _ _ h => h) (Or.inl ⟨by rfl, ?y19⟩) (by assumption) ?_
      case y19 => (intro w' hSw; go_simp; try rfl)
      try simp only [List.getElem_toArray,List.getElem_cons_zero,List.getElem_cons_succ,Act.put,List.setIfInBounds_toArray,List.set_cons_zero,List.set_cons_succ]
      refine wpAnyH_take (i:=20) (v := .bool false) rfl (by kernel_rfl) (by kernel_rfl) (by kernel_rfl) (fun _ _ _ h => h) (Or.inl ⟨by rfl, ?y20⟩) (by assumption) ?_
      case y20 => (intro w' hSw; go_simp; try rfl)
      try simp only [List.getElem_toArray,List.getElem_cons_zero,List.getElem_cons_succ,Act.put,List.setIfInBounds_toArray,List.set_cons_zero,List.set_cons_succ]
      refine wpAnyH_take (i:=21) (v := .pointer (some ⟨Q,0,none⟩)) rfl (by kernel_rfl) (by kernel_rfl) (by kernel_rfl) (fun _ _ _ h => h) (Or.inl ⟨by rfl, ?y21⟩) (by assumption) ?_
      case y21 => (intro w' hSw; go_simp; try rfl)
      try simp only [List.getElem_toArray,List.getElem_cons_zero,List.getElem_cons_succ,Act.put,List.setIfInBounds_toArray,List.set_cons_zero,List.set_cons_succ]
      refine wpAnyH_take (i:=22) (v := .pointer (some ⟨Q,0,none⟩)) rfl (by kernel_rfl) (by kernel_rfl) (by kernel_rfl) (fun _ _ _ h => h) (Or.inl ⟨by rfl, ?y22⟩) (by assumption) ?_
      case y22 => (intro w' hSw; go_simp; try rfl)
      try simp only [List.getElem_toArray,List.getElem_cons_zero,List.getElem_cons_succ,Act.put,List.setIfInBounds_toArray,List.set_cons_zero,List.set_cons_succ]
      refine wpAnyH_take (i:=23) (v := .pointer (some ⟨Q,2,none⟩)) rfl (by kernel_rfl) (by kernel_rfl) (by kernel_rfl) (fun _ _ _ h => h) (Or.inl ⟨by rfl, ?y23⟩) (by assumption) ?_
      case y23 => (intro w' hSw; go_simp; try rfl)
      try simp only [List.getElem_toArray,List.getElem_cons_zero,List.getElem_cons_succ,Act.put,List.setIfInBounds_toArray,List.set_cons_zero,List.set_cons_succ]
      refine wpAnyH_take (i:=24) (v := .agg #[.int .i64 (p9.1:Nat), .int .i64 (p9.2.1:Nat), .int .i64 (p9.2.2.1:Nat), .int .i64 (p9.2.2.2:Nat)]) rfl (by kernel_rfl) (by kernel_rfl) (by kernel_rfl) (fun _ _ _ h => h) (Or.inl ⟨by rfl, ?y24⟩) (by assumption) ?_
      case y24 => (intro w' hSw; subst hSw; go_simp; try rfl)
      try simp only [List.getElem_toArray,List.getElem_cons_zero,List.getElem_cons_succ,Act.put,List.setIfInBounds_toArray,List.set_cons_zero,List.set_cons_succ]
      refine wpAnyH_take (i:=25) (v := .pointer (some ⟨Qr,0,none⟩)) rfl (by kernel_rfl) (by kernel_rfl) (by kernel_rfl) (fun _ _ _ h => h) (Or.inl ⟨by rfl, ?y25⟩) (by assumption) ?_
      case y25 => (intro w' hSw; go_simp; try rfl)
      try simp only [List.getElem_toArray,List.getElem_cons_zero,List.getElem_cons_succ,Act.put,List.setIfInBounds_toArray,List.set_cons_zero,List.set_cons_succ]
      refine wpAnyH_take (i:=26) (v := .pointer (some ⟨Qr,0,none⟩)) rfl (by kernel_rfl) (by kernel_rfl) (by kernel_rfl) (fun _ _ _ h => h) (Or.inl ⟨by rfl, ?y26⟩) (by assumption) ?_
      case y26 => (intro w' hSw; go_simp; try rfl)
      try simp only [List.getElem_toArray,List.getElem_cons_zero,List.getElem_cons_succ,Act.put,List.setIfInBounds_toArray,List.set_cons_zero,List.set_cons_succ]
      refine wpAnyH_take (i:=27) (v := .pointer (some ⟨Qr,2,none⟩)) rfl (by kernel_rfl) (by kernel_rfl) (by kernel_rfl) (fun _ _ _ h => h) (Or.inl ⟨by rfl, ?y27⟩) (by assumption) ?_
      case y27 => (intro w' hSw; go_simp; try rfl)
      try simp only [List.getElem_toArray,List.getElem_cons_zero,List.getElem_cons_succ,Act.put,List.setIfInBounds_toArray,List.set_cons_zero,List.set_cons_succ]
      refine wpAnyH_take (i:=28) (v := .agg #[.int .i64 (p9.1:Nat), .int .i64 (p9.2.1:Nat), .int .i64 (p9.2.2.1:Nat), .int .i64 (p9.2.2.2:Nat)]) rfl (by kernel_rfl) (by kernel_rfl) (by kernel_rfl) (fun _ _ _ h => h) (Or.inl ⟨by rfl, ?y28⟩) (by assumption) ?_
      case y28 => (intro w' hSw; subst hSw; go_simp; try rfl)
      try simp only [List.getElem_toArray,List.getElem_cons_zero,List.getElem_cons_succ,Act.put,List.setIfInBounds_toArray,List.set_cons_zero,List.set_cons_succ]
      refine wpAnyH_take (i:=29) (v := .bool false) rfl (by kernel_rfl) (by kernel_rfl) (by kernel_rfl) (fun _ _ _ h => h) (Or.inl ⟨by rfl, ?y29⟩) (by assumption) ?_
      case y29 => (intro w' hSw; go_simp; try rfl)
      try simp only [List.getElem_toArray,List.getElem_cons_zero,List.getElem_cons_succ,Act.put,List.setIfInBounds_toArray,List.set_cons_zero,List.set_cons_succ]
      refine wpAnyH_take (i:=30) (v := .bool false) rfl (by kernel_rfl) (by kernel_rfl) (by kernel_rfl) (fun _ _ _ h => h) (Or.inl ⟨by rfl, ?y30⟩) (by assumption) ?_
      case y30 => (intro w' hSw; go_simp; try rfl)
      try simp only [List.getElem_toArray,List.getElem_cons_zero,List.getElem_cons_succ,Act.put,List.setIfInBounds_toArray,List.set_cons_zero,List.set_cons_succ]
      refine wpAnyH_take (i:=31) (v := .bool false) rfl (by kernel_rfl) (by kernel_rfl) (by kernel_rfl) (fun _ _ _ h => h) (Or.inl ⟨by rfl, ?y31⟩) (by assumption) ?_
      case y31 => (intro w' hSw; go_simp; try rfl)
      try simp only [List.getElem_toArray,List.getElem_cons_zero,List.getElem_cons_succ,Act.put,List.setIfInBounds_toArray,List.set_cons_zero,List.set_cons_succ]
      refine wpAnyH_take (i:=32) (v := .pointer (some ⟨Q,0,none⟩)) rfl (by kernel_rfl) (by kernel_rfl) (by kernel_rfl) (fun _ _ _ h => h) (Or.inl ⟨by rfl, ?y32⟩) (by assumption) ?_
      case y32 => (intro w' hSw; go_simp; try rfl)
      try simp only [List.getElem_toArray,List.getElem_cons_zero,List.getElem_cons_succ,Act.put,List.setIfInBounds_toArray,List.set_cons_zero,List.set_cons_succ]
      refine wpAnyH_take (i:=33) (v := .pointer (some ⟨Q,0,none⟩)) rfl (by kernel_rfl) (by kernel_rfl) (by kernel_rfl) (fun _ _ _ h => h) (Or.inl ⟨by rfl, ?y33⟩) (by assumption) ?_
      case y33 => (intro w' hSw; go_simp; try rfl)
      try simp only [List.getElem_toArray,List.getElem_cons_zero,List.getElem_cons_succ,Act.put,List.setIfInBounds_toArray,List.set_cons_zero,List.set_cons_succ]
      refine wpAnyH_take (i:=34) (v := .pointer (some ⟨Q,0,none⟩)) rfl (by kernel_rfl) (by kernel_rfl) (by kernel_rfl) (fun _ _ _ h => h) (Or.inl ⟨by rfl, ?y34⟩) (by assumption) ?_
      case y34 => (intro w' hSw; go_simp; try rfl)
      try simp only [List.getElem_toArray,List.getElem_cons_zero,List.getElem_cons_succ,Act.put,List.setIfInBounds_toArray,List.set_cons_zero,List.set_cons_succ]
      refine wpAnyH_take (i:=35) (v := .slice po N co) rfl (by kernel_rfl) (by kernel_rfl) (by kernel_rfl) (fun _ _ _ h => h) (Or.inl ⟨by rfl, ?y35⟩) (by assumption) ?_
      case y35 => (intro w' hSw; subst hSw; go_simp; try rfl)
      try simp only [List.getElem_toArray,List.getElem_cons_zero,List.getElem_cons_succ,Act.put,List.setIfInBounds_toArray,List.set_cons_zero,List.set_cons_succ]
      refine wpAnyH_take (i:=36) (v := .int .i64 (N:Nat)) rfl (by kernel_rfl) (by kernel_rfl) (by kernel_rfl) (fun _ _ _ h => h) (Or.inl ⟨by rfl, ?y36⟩) (by assumption) ?_
      case y36 => (intro w' hSw; go_simp; try rfl)
      try simp only [List.getElem_toArray,List.getElem_cons_zero,List.getElem_cons_succ,Act.put,List.setIfInBounds_toArray,List.set_cons_zero,List.set_cons_succ]
      refine wpAnyH_take (i:=37) (v := .pointer (some ⟨Qr,0,none⟩)) rfl (by kernel_rfl) (by kernel_rfl) (by kernel_rfl) (fun _ _ _ h => h) (Or.inl ⟨by rfl, ?y37⟩) (by assumption) ?_
      case y37 => (intro w' hSw; go_simp; try rfl)
      try simp only [List.getElem_toArray,List.getElem_cons_zero,List.getElem_cons_succ,Act.put,List.setIfInBounds_toArray,List.set_cons_zero,List.set_cons_succ]
      refine wpAnyH_take (i:=38) (v := .pointer (some ⟨Qr,0,none⟩)) rfl (by kernel_rfl) (by kernel_rfl) (by kernel_rfl) (fun _ _ _ h => h) (Or.inl ⟨by rfl, ?y38⟩) (by assumption) ?_
      case y38 => (intro w' hSw; go_simp; try rfl)
      try simp only [List.getElem_toArray,List.getElem_cons_zero,List.getElem_cons_succ,Act.put,List.setIfInBounds_toArray,List.set_cons_zero,List.set_cons_succ]
      refine wpAnyH_take (i:=39) (v := .pointer (some ⟨Qr,0,none⟩)) rfl (by kernel_rfl) (by kernel_rfl) (by kernel_rfl) (fun _ _ _ h => h) (Or.inl ⟨by rfl, ?y39⟩) (by assumption) ?_
      case y39 => (intro w' hSw; go_simp; try rfl)
      try simp only [List.getElem_toArray,List.getElem_cons_zero,List.getElem_cons_succ,Act.put,List.setIfInBounds_toArray,List.set_cons_zero,List.set_cons_succ]
      refine wpAnyH_take (i:=40) (v := .slice pq N cq) rfl (by kernel_rfl) (by kernel_rfl) (by kernel_rfl) (fun _ _ _ h => h) (Or.inl ⟨by rfl, ?y40⟩) (by assumption) ?_
      case y40 => (intro w' hSw; subst hSw; go_simp; try rfl)
      try simp only [List.getElem_toArray,List.getElem_cons_zero,List.getElem_cons_succ,Act.put,List.setIfInBounds_toArray,List.set_cons_zero,List.set_cons_succ]
      refine wpAnyH_take (i:=41) (v := .int .i64 (N:Nat)) rfl (by kernel_rfl) (by kernel_rfl) (by kernel_rfl) (fun _ _ _ h => h) (Or.inl ⟨by rfl, ?y41⟩) (by assumption) ?_
      case y41 => (intro w' hSw; go_simp; try rfl)
      try simp only [List.getElem_toArray,List.getElem_cons_zero,List.getElem_cons_succ,Act.put,List.setIfInBounds_toArray,List.set_cons_zero,List.set_cons_succ]
      refine wpAnyH_take (i:=42) (v := .bool false) rfl (by kernel_rfl) (by kernel_rfl) (by kernel_rfl) (fun _ _ _ h => h) (Or.inl ⟨by rfl, ?y42⟩) (by assumption) ?_
      case y42 => (intro w' hSw; go_simp; try rfl)
      try simp only [List.getElem_toArray,List.getElem_cons_zero,List.getElem_cons_succ,Act.put,List.setIfInBounds_toArray,List.set_cons_zero,List.set_cons_succ]
      refine wpAnyH_take (i:=43) (v := .bool false) rfl (by kernel_rfl) (by kernel_rfl) (by kernel_rfl) (fun _ _ _ h => h) (Or.inl ⟨by rfl, ?y43⟩) (by assumption) ?_
      case y43 => (intro w' hSw; go_simp; try rfl)
      try simp only [List.getElem_toArray,List.getElem_cons_zero,List.getElem_cons_succ,Act.put,List.setIfInBounds_toArray,List.set_cons_zero,List.set_cons_succ]
      refine wpAnyH_done (by kernel_rfl) ?_ _
      clear c0 c1 c2 c3 c4 c5 d0 d1 d2 d3 d4 d5 hHeld
      go_wp2_with fail
      go_loopw [11] (fun i wr => ∃ k:Nat,i = .int .i64 k /\ k <= N /\ Hid (Below W2.heap.size W2 wr)) (fun i _ => N - (RowKit.intOf i).toNat)
      case atStart => exact ⟨0,rfl,Nat.zero_le _,Below.refl _ _⟩
      case round =>
       obtain ⟨k,rfl,hkN,hb⟩:=hrel
       have hd:=HA1.out.below hb.out
       have hr:=HR9.out.below hb.out
       have d0:=hr.c 0 tkr rfl
       rw [HTR.out,HNN.out] at d0
       have hBw:Below w.heap.size w wr:=HB2.out.trans ((HA3.out.trans (hb.out.mono HA3.out.size)).mono HB2.out.size)
       have HBW:=hide' hBw
       have HD:=hide' hd
       have HR:=hide' hr
       clear hd hr hBw
       by_cases hlt:k < N
       . have i2:(k:Int) < N:=by omega
         have iwk:IntKind.i64.wrap ((k:Int) + 1)=k + 1:=by have:=HNL.out; rw [IntKind.wrap_i64]; omega
         have hkr:k < Vr.length:=by have:=HNN.out; omega
         have hk9:k < V9.length:=by have:=HL9.out; omega
         obtain ⟨g,cp,e1,_,_,_,k4⟩:=tok_cells HR.out.toks hkr
         rw [HTR.out] at e1
         cases e1
         obtain ⟨g9,cp9,e1,_,_,_,k9⟩:=tok_cells HD.out.toks hk9
         rw [HTK.out] at e1
         cases e1
         have q0:=k4 k hkr
         have q9:=k9 k hk9
         obtain ⟨t,ht⟩ : ∃ t,Vr[k]=t:=⟨_,rfl⟩
         obtain ⟨t9,ht9⟩ : ∃ t9,V9[k]=t9:=⟨_,rfl⟩
         have ett:t9.tk=t.tk:=by
          have:=congrArg (fun l => l[k]?) HET.out
          simp only [List.getElem?_map,List.getElem?_eq_getElem hkr,List.getElem?_eq_getElem hk9,Option.map_some,Option.some.injEq] at this
          rw [<- ht, <- ht9]
          exact this
         rw [ht] at q0
         rw [ht9] at q9
         have ho:=(HR.out.attrs t (ht ▸ List.getElem_mem hkr)).1
         have ho9:=(HD.out.attrs t9 (ht9 ▸ List.getElem_mem hk9)).1
         rw [ett] at ho9
         obtain ⟨pv,cv,eav⟩:=own_shape ho
         obtain ⟨pv9,cv9,eav9⟩:=own_shape ho9
         have hal:t.tk.attrs.length <= 9223372036854775807:=by
          rcases ho.2 with ⟨_,e⟩ | ⟨g,cap,cur,e,_,_,h1,h2,_⟩
          . omega
          . unfold maxLen at h2; omega
         have CL:Hid (∀ W,Below wr.heap.size wr W -> Calls Tryd.prog 14 #[.agg #[.int .i64 (t.tk.kind:Nat), .string ⟨t.tk.name.toArray⟩, .slice pv t.tk.attrs.length cv, .string ⟨t.tk.text.toArray⟩, .int .i64 (t.tk.fm.1:Nat), .int .i64 (t.tk.fm.2.1:Nat), .int .i64 (t.tk.fm.2.2.1:Nat), .int .i64 (t.tk.fm.2.2.2:Nat), .int .i64 (t.tk.til.1:Nat), .int .i64 (t.tk.til.2.1:Nat), .int .i64 (t.tk.til.2.2.1:Nat), .int .i64 (t.tk.til.2.2.2:Nat)], .agg #[.int .i64 (t.tk.kind:Nat), .string ⟨t.tk.name.toArray⟩, .slice pv9 t.tk.attrs.length cv9, .string ⟨t.tk.text.toArray⟩, .int .i64 (t.tk.fm.1:Nat), .int .i64 (t.tk.fm.2.1:Nat), .int .i64 (t.tk.fm.2.2.1:Nat), .int .i64 (t.tk.fm.2.2.2:Nat), .int .i64 (t.tk.til.1:Nat), .int .i64 (t.tk.til.2.1:Nat), .int .i64 (t.tk.til.2.2.1:Nat), .int .i64 (t.tk.til.2.2.2:Nat)]] W fun e w' => e = .returned (.bool true) /\ Below W.heap.size W w'):=fun W hW => by
          have h1:=own_keep ho (w':=W) fun q e => hW.block q (World.ownsRow.lt ho q e).2
          have h2:=own_keep ho9 (w':=W) fun q e => hW.block q (World.ownsRow.lt ho9 q e).2
          rw [eav] at h1
          rw [eav9] at h2
          exact alike_same (B:=0) W t.tk.kind t.tk.name t.tk.text t.tk.fm t.tk.til t.tk.attrs _ _ (own_mono h1 (Nat.zero_le _)) (own_mono h2 (Nat.zero_le _)) hal
         have q0' : ∀ j x,(tokA t.tk.kind t.tk.name (.slice pv t.tk.attrs.length cv) t.tk.text t.tk.fm t.tk.til)[j]? = some x -> wr.cell? ⟨g,k * 12 + j,none⟩ = some x:=fun j x e => q0 j x (by unfold TkV.arr; rw [eav]; exact e)
         have q9' : ∀ j x,(tokA t.tk.kind t.tk.name (.slice pv9 t.tk.attrs.length cv9) t.tk.text t.tk.fm t.tk.til)[j]? = some x -> wr.cell? ⟨g9,k * 12 + j,none⟩ = some x:=fun j x e => q9 j x (by unfold TkV.arr; rw [ett,eav9]; exact e)
         have HT:Hid (∀ W,Below wr.heap.size wr W -> W.cell? ⟨g,k * 12,none⟩ = some (.int .i64 (t.tk.kind:Nat)) /\ W.cell? ⟨g,k * 12 + 1,none⟩ = some (.string ⟨t.tk.name.toArray⟩) /\ W.cell? ⟨g,k * 12 + 2,none⟩ = some (.slice pv t.tk.attrs.length cv) /\ W.cell? ⟨g,k * 12 + 3,none⟩ = some (.string ⟨t.tk.text.toArray⟩) /\ W.cell? ⟨g,k * 12 + 4,none⟩ = some (.int .i64 (t.tk.fm.1:Nat)) /\ W.cell? ⟨g,k * 12 + 5,none⟩ = some (.int .i64 (t.tk.fm.2.1:Nat)) /\ W.cell? ⟨g,k * 12 + 6,none⟩ = some (.int .i64 (t.tk.fm.2.2.1:Nat)) /\ W.cell? ⟨g,k * 12 + 7,none⟩ = some (.int .i64 (t.tk.fm.2.2.2:Nat)) /\ W.cell? ⟨g,k * 12 + 8,none⟩ = some (.int .i64 (t.tk.til.1:Nat)) /\ W.cell? ⟨g,k * 12 + 9,none⟩ = some (.int .i64 (t.tk.til.2.1:Nat)) /\ W.cell? ⟨g,k * 12 + 10,none⟩ = some (.int .i64 (t.tk.til.2.2.1:Nat)) /\ W.cell? ⟨g,k * 12 + 11,none⟩ = some (.int .i64 (t.tk.til.2.2.2:Nat))):=fun W hW => by
          have hc : ∀ o x,wr.cell? ⟨g,o,none⟩ = some x -> W.cell? ⟨g,o,none⟩ = some x:=fun o x e => (hW.cell (p:=⟨g,o,none⟩) (block_lt_of_cell e)).trans e
          have z0:=q0' 0 _ rfl
          rw [Nat.add_zero] at z0
          exact ⟨hc _ _ z0,hc _ _ (q0' 1 _ rfl),hc _ _ (q0' 2 _ rfl),hc _ _ (q0' 3 _ rfl),hc _ _ (q0' 4 _ rfl),hc _ _ (q0' 5 _ rfl),hc _ _ (q0' 6 _ rfl),hc _ _ (q0' 7 _ rfl),hc _ _ (q0' 8 _ rfl),hc _ _ (q0' 9 _ rfl),hc _ _ (q0' 10 _ rfl),hc _ _ (q0' 11 _ rfl)⟩
         have HT9:Hid (∀ W,Below wr.heap.size wr W -> W.cell? ⟨g9,k * 12,none⟩ = some (.int .i64 (t.tk.kind:Nat)) /\ W.cell? ⟨g9,k * 12 + 1,none⟩ = some (.string ⟨t.tk.name.toArray⟩) /\ W.cell? ⟨g9,k * 12 + 2,none⟩ = some (.slice pv9 t.tk.attrs.length cv9) /\ W.cell? ⟨g9,k * 12 + 3,none⟩ = some (.string ⟨t.tk.text.toArray⟩) /\ W.cell? ⟨g9,k * 12 + 4,none⟩ = some (.int .i64 (t.tk.fm.1:Nat)) /\ W.cell? ⟨g9,k * 12 + 5,none⟩ = some (.int .i64 (t.tk.fm.2.1:Nat)) /\ W.cell? ⟨g9,k * 12 + 6,none⟩ = some (.int .i64 (t.tk.fm.2.2.1:Nat)) /\ W.cell? ⟨g9,k * 12 + 7,none⟩ = some (.int .i64 (t.tk.fm.2.2.2:Nat)) /\ W.cell? ⟨g9,k * 12 + 8,none⟩ = some (.int .i64 (t.tk.til.1:Nat)) /\ W.cell? ⟨g9,k * 12 + 9,none⟩ = some (.int .i64 (t.tk.til.2.1:Nat)) /\ W.cell? ⟨g9,k * 12 + 10,none⟩ = some (.int .i64 (t.tk.til.2.2.1:Nat)) /\ W.cell? ⟨g9,k * 12 + 11,none⟩ = some (.int .i64 (t.tk.til.2.2.2:Nat))):=fun W hW => by
          have hc : ∀ o x,wr.cell? ⟨g9,o,none⟩ = some x -> W.cell? ⟨g9,o,none⟩ = some x:=fun o x e => (hW.cell (p:=⟨g9,o,none⟩) (block_lt_of_cell e)).trans e
          have z0:=q9' 0 _ rfl
          rw [Nat.add_zero] at z0
          exact ⟨hc _ _ z0,hc _ _ (q9' 1 _ rfl),hc _ _ (q9' 2 _ rfl),hc _ _ (q9' 3 _ rfl),hc _ _ (q9' 4 _ rfl),hc _ _ (q9' 5 _ rfl),hc _ _ (q9' 6 _ rfl),hc _ _ (q9' 7 _ rfl),hc _ _ (q9' 8 _ rfl),hc _ _ (q9' 9 _ rfl),hc _ _ (q9' 10 _ rfl),hc _ _ (q9' 11 _ rfl)⟩
         have HC:Hid (∀ W,Below wr.heap.size wr W -> W.cell? ⟨Qr,0,none⟩ = some (.slice (some ⟨g,0,none⟩) N cq) /\ W.cell? ⟨Q,0,none⟩ = some (.slice (some ⟨g9,0,none⟩) N co)):=fun W hW => by
          have z1:=(HR.out.below hW).c 0 tkr rfl
          have z2:=(HD.out.below hW).c 0 tk9 rfl
          rw [HTR.out,HNN.out] at z1
          rw [HTK.out,HL9.out,HNN.out] at z2
          exact ⟨z1,z2⟩
         have HEN:Hid (∀ W,Below wr.heap.size wr W -> (∃ i:Nat,Value.int .i64 ((k:Int) + 1) = .int .i64 i /\ i <= N /\ Hid (Below W2.heap.size W2 W)) /\ N - (RowKit.intOf (.int .i64 ((k:Int) + 1))).toNat < N - (RowKit.intOf (.int .i64 (k:Int))).toNat):=fun W hW => ⟨⟨k + 1,by simp,hlt,hb.out.trans (hW.mono hb.out.size)⟩,by show N - ((k:Int) + 1).toNat < N - (k:Int).toNat; omega⟩
         clear k4 k9 q0 q9 q0' q9' ho ho9 ht ht9 ett eav eav9 hal hkr hk9 hlt
         go_wp2_with fail
         clear d0
         refine wp_region_held_drew (S:=fun w' => Below wr.heap.size wr w') (by kernel_rfl) (Below.refl _ _).drew (fun hHeld => ?_)
         simp only [List.size_toArray,List.length_cons,List.length_nil,Nat.reduceAdd]
         refine wpAnyH_take (i:=0) (v := .pointer (some ⟨Qr,0,none⟩)) rfl (by kernel_rfl) (by kernel_rfl) (by kernel_rfl) (fun _ _ _ h => h) (Or.inl ⟨by rfl, ?y0⟩) (by assumption) ?_
         case y0 => (intro w' hSw; go_simp; try rfl)
         try simp only [List.getElem_toArray,List.getElem_cons_zero,Act.put,List.setIfInBounds_toArray,List.set_cons_zero,List.set_cons_succ]
         refine wpAnyH_take (i:=1) (v := .pointer (some ⟨Qr,0,none⟩)) rfl (by kernel_rfl) (by kernel_rfl) (by kernel_rfl) (fun _ _ _ h => h) (Or.inl ⟨by rfl, ?y1⟩) (by assumption) ?_
         case y1 => (intro w' hSw; go_simp; try rfl)
         try simp only [List.getElem_toArray,List.getElem_cons_zero,List.getElem_cons_succ,Act.put,List.setIfInBounds_toArray,List.set_cons_zero,List.set_cons_succ]
         refine wpAnyH_take (i:=2) (v := .pointer (some ⟨Qr,0,none⟩)) rfl (by kernel_rfl) (by kernel_rfl) (by kernel_rfl) (fun _ _ _ h => h) (Or.inl ⟨by rfl, ?y2⟩) (by assumption) ?_
         case y2 => (intro w' hSw; go_simp; try rfl)
         try simp only [List.getElem_toArray,List.getElem_cons_zero,List.getElem_cons_succ,Act.put,List.setIfInBounds_toArray,List.set_cons_zero,List.set_cons_succ]
         refine wpAnyH_take (i:=3) (v := .slice (some ⟨g,0,none⟩) N cq) rfl (by kernel_rfl) (by kernel_rfl) (by kernel_rfl) (fun _ _ _ h => h) (Or.inl ⟨by rfl, ?y3⟩) (by assumption) ?_
         case y3 => (intro w' hSw; obtain ⟨z1,z2⟩:=HC.out w' hSw; go_simp; try rfl)
         try simp only [List.getElem_toArray,List.getElem_cons_zero,List.getElem_cons_succ,Act.put,List.setIfInBounds_toArray,List.set_cons_zero,List.set_cons_succ]
         refine wpAnyH_take (i:=4) (v := .int .i64 (k:Nat)) rfl (by kernel_rfl) (by kernel_rfl) (by kernel_rfl) (fun _ _ _ h => h) (Or.inl ⟨by rfl, ?y4⟩) (by assumption) ?_
         case y4 => (intro w' hSw; go_simp; try rfl)
         try simp only [List.getElem_toArray,List.getElem_cons_zero,List.getElem_cons_succ,Act.put,List.setIfInBounds_toArray,List.set_cons_zero,List.set_cons_succ]
         refine wpAnyH_take (i:=5) (v := .pointer (some ⟨g,k * 12,none⟩)) rfl (by kernel_rfl) (by kernel_rfl) (by kernel_rfl) (fun _ _ _ h => h) (Or.inl ⟨by rfl, ?y5⟩) (by assumption) ?_
         case y5 => (intro w' hSw; go_simp; try rfl)
         try simp only [List.getElem_toArray,List.getElem_cons_zero,List.getElem_cons_succ,Act.put,List.setIfInBounds_toArray,List.set_cons_zero,List.set_cons_succ]
         refine wpAnyH_take (i:=6) (v := .agg #[.int .i64 (t.tk.kind:Nat), .string ⟨t.tk.name.toArray⟩, .slice pv t.tk.attrs.length cv, .string ⟨t.tk.text.toArray⟩, .int .i64 (t.tk.fm.1:Nat), .int .i64 (t.tk.fm.2.1:Nat), .int .i64 (t.tk.fm.2.2.1:Nat), .int .i64 (t.tk.fm.2.2.2:Nat), .int .i64 (t.tk.til.1:Nat), .int .i64 (t.tk.til.2.1:Nat), .int .i64 (t.tk.til.2.2.1:Nat), .int .i64 (t.tk.til.2.2.2:Nat)]) rfl (by kernel_rfl) (by kernel_rfl) (by kernel_rfl) (fun _ _ _ h => h) (Or.inl ⟨by rfl, ?y6⟩) (by assumption) ?_
         case y6 => (intro w' hSw; obtain ⟨a0,a1,a2,a3,a4,a5,a6,a7,a8,a9,a10,a11⟩:=HT.out w' hSw; go_simp; try rfl)
         try simp only [List.getElem_toArray,List.getElem_cons_zero,List.getElem_cons_succ,Act.put,List.setIfInBounds_toArray,List.set_cons_zero,List.set_cons_succ]
         refine wpAnyH_take (i:=7) (v := .pointer (some ⟨Q,0,none⟩)) rfl (by kernel_rfl) (by kernel_rfl) (by kernel_rfl) (fun _ _ _ h => h) (Or.inl ⟨by rfl, ?y7⟩) (by assumption) ?_
         case y7 => (intro w' hSw; go_simp; try rfl)
         try simp only [List.getElem_toArray,List.getElem_cons_zero,List.getElem_cons_succ,Act.put,List.setIfInBounds_toArray,List.set_cons_zero,List.set_cons_succ]
         refine wpAnyH_take (i:=8) (v := .pointer (some ⟨Q,0,none⟩)) rfl (by kernel_rfl) (by kernel_rfl) (by kernel_rfl) (fun _ _ _ h => h) (Or.inl ⟨by rfl, ?y8⟩) (by assumption) ?_
         case y8 => (intro w' hSw; go_simp; try rfl)
         try simp only [List.getElem_toArray,List.getElem_cons_zero,List.getElem_cons_succ,Act.put,List.setIfInBounds_toArray,List.set_cons_zero,List.set_cons_succ]
         refine wpAnyH_take (i:=9) (v := .pointer (some ⟨Q,0,none⟩)) rfl (by kernel_rfl) (by kernel_rfl) (by kernel_rfl) (fun _ _ _ h => h) (Or.inl ⟨by rfl, ?y9⟩) (by assumption) ?_
         case y9 => (intro w' hSw; go_simp; try rfl)
         try simp only [List.getElem_toArray,List.getElem_cons_zero,List.getElem_cons_succ,Act.put,List.setIfInBounds_toArray,List.set_cons_zero,List.set_cons_succ]
         refine wpAnyH_take (i:=10) (v := .slice (some ⟨g9,0,none⟩) N co) rfl (by kernel_rfl) (by kernel_rfl) (by kernel_rfl) (fun _ _ _ h => h) (Or.inl ⟨by rfl, ?y10⟩) (by assumption) ?_
         case y10 => (intro w' hSw; obtain ⟨z1,z2⟩:=HC.out w' hSw; go_simp; try rfl)
         try simp only [List.getElem_toArray,List.getElem_cons_zero,List.getElem_cons_succ,Act.put,List.setIfInBounds_toArray,List.set_cons_zero,List.set_cons_succ]
         refine wpAnyH_take (i:=11) (v := .int .i64 (k:Nat)) rfl (by kernel_rfl) (by kernel_rfl) (by kernel_rfl) (fun _ _ _ h => h) (Or.inl ⟨by rfl, ?y11⟩) (by assumption) ?_
         case y11 => (intro w' hSw; go_simp; try rfl)
         try simp only [List.getElem_toArray,List.getElem_cons_zero,List.getElem_cons_succ,Act.put,List.setIfInBounds_toArray,List.set_cons_zero,List.set_cons_succ]
         refine wpAnyH_take (i:=12) (v := .pointer (some ⟨g9,k * 12,none⟩)) rfl (by kernel_rfl) (by kernel_rfl) (by kernel_rfl) (fun _ _ _ h => h) (Or.inl ⟨by rfl, ?y12⟩) (by assumption) ?_
         case y12 => (intro w' hSw; go_simp; try rfl)
         try simp only [List.getElem_toArray,List.getElem_cons_zero,List.getElem_cons_succ,Act.put,List.setIfInBounds_toArray,List.set_cons_zero,List.set_cons_succ]
         refine wpAnyH_take (i:=13) (v := .agg #[.int .i64 (t.tk.kind:Nat), .string ⟨t.tk.name.toArray⟩, .slice pv9 t.tk.attrs.length cv9, .string ⟨t.tk.text.toArray⟩, .int .i64 (t.tk.fm.1:Nat), .int .i64 (t.tk.fm.2.1:Nat), .int .i64 (t.tk.fm.2.2.1:Nat), .int .i64 (t.tk.fm.2.2.2:Nat), .int .i64 (t.tk.til.1:Nat), .int .i64 (t.tk.til.2.1:Nat), .int .i64 (t.tk.til.2.2.1:Nat), .int .i64 (t.tk.til.2.2.2:Nat)]) rfl (by kernel_rfl) (by kernel_rfl) (by kernel_rfl) (fun _ _ _ h => h) (Or.inl ⟨by rfl, ?y13⟩) (by assumption) ?_
         case y13 => (intro w' hSw; obtain ⟨a0,a1,a2,a3,a4,a5,a6,a7,a8,a9,a10,a11⟩:=HT9.out w' hSw; go_simp; try rfl)
         try simp only [List.getElem_toArray,List.getElem_cons_zero,List.getElem_cons_succ,Act.put,List.setIfInBounds_toArray,List.set_cons_zero,List.set_cons_succ]
         refine wpAnyH_ready (rs := [14]) (by kernel_rfl) (by simp) ?_
         refine AllReadyH.cons rfl (fun K hK => ?_) AllReadyH.nil
         try simp only [List.getElem_toArray,List.getElem_cons_zero,List.getElem_cons_succ]
         go_simp
         refine (CL.out _ (Below.refl _ _).drew).mono ?_
         rintro e W6 ⟨rfl,hb6⟩
         have HB6:Hid (Below wr.heap.size wr W6):=(Below.refl _ _).drew.trans hb6
         clear hb6
         go_wp2_with fail
         refine hK.out _ _ HB6.out (fun hHeld => ?_)
         clear hK K
         try simp only [List.getElem_toArray,List.getElem_cons_zero,List.getElem_cons_succ,Act.put,List.setIfInBounds_toArray,List.set_cons_zero,List.set_cons_succ]
         refine wpAnyH_take (i:=15) (v := .bool false) rfl (by kernel_rfl) (by kernel_rfl) (by kernel_rfl) (fun _ _ _ h => h) (Or.inl ⟨by rfl, ?y15⟩) (by assumption) ?_
         case y15 => (intro w' hSw; go_simp; try rfl)
         try simp only [List.getElem_toArray,List.getElem_cons_zero,List.getElem_cons_succ,Act.put,List.setIfInBounds_toArray,List.set_cons_zero,List.set_cons_succ]
         refine wpAnyH_done (by kernel_rfl) ?_ _
         go_wp2_with fail
         exact HEN.out _ HB6.out
       . have i2 : ¬ (k:Int) < N:=by omega
         go_wp2_with fail
         go_ret
         exact ⟨rfl,HBW.out⟩
 . have i0:(3000:Int) < n:=by omega
   clear CW HSP CT HF
   go_enter Tryd.func3,Tryd.ntmps3
   go_wp2_with fail
   refine CA.out.mono ?_
   rintro e w1 ⟨rfl,hb1⟩
   have HB1:=hide' hb1
   clear hb1 CA
   go_wp2_with fail
   go_ret
   exact ⟨rfl,HB1.out⟩
end Sc
end Go.Proofs.YteiiepjegdlbeaaDoor
