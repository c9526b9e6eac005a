import Derived.Test.YteiiepjegdlbeaaDoorScTok
import Derived.Deep.RegionHeld3
set_option maxHeartbeats 16000000
set_option maxRecDepth 10000
namespace Go.Proofs.YteiiepjegdlbeaaDoor
open Go.RowKit Go.Lib
namespace Sc
section
variable {w:World} {D B n:Nat} {f:Nat -> Nat} {S:St} {R:Raw}
theorem tellText_any (h:SCe w D B f n S R) (hf : ∀ j,f j < 256) (htf:S.k.tf <= n) (htg:S.k.tg <= S.k.ps) (hps:S.k.ps <= n) (hbig:n <= 1099511627776) (hpl:S.pl.1 <= 1099511627776 /\ S.pl.2.1 <= 1099511627776 /\ S.pl.2.2.1 <= 1099511627776 /\ S.pl.2.2.2 <= 1099511627776) :
 Calls Tryd.prog 24 #[.pointer (some ⟨D,0,none⟩)] w fun e w' => e = .returned (.agg (tokA 0 [] (.slice none 0 0) S.k.text (pla S.pl f n S.k.tf) (pla S.pl f n S.k.tg))) /\
  ∃ R',SCe w' D B (Rn.off f S.k.tg) (n - S.k.tg) { S with pl:=pla S.pl f n S.k.tg,k := { S.k with ps:=S.k.ps - S.k.tg,tg:=0,text := [] } } R' /\ To D R w R' w' /\ R'.fp=R.fp:=by
 obtain ⟨WR,hWR⟩ : ∃ WR,WR=w.alloc (.cells tok0 43):=⟨_,rfl⟩
 have hbel:Below w.heap.size w WR:=by rw [hWR]; exact (Below.refl _ _).alloc (Nat.le_refl _) _
 have h1:=h.below hbel
 have hcT:WR.heap[w.heap.size]? = some (.cells tok0 43 (0,0)):=by rw [hWR]; exact heap_alloc_new w _
 obtain ⟨S',hSd⟩ : ∃ S':World -> Prop,S'=fun W' => Below WR.heap.size WR W':=⟨_,rfl⟩
 have hSB : ∀ W' W8,S' W' -> Below W'.heap.size W' W8 -> S' W8:=fun W' W8 h hb => by rw [hSd] at h ⊢; exact h.trans (hb.mono h.size)
 have hSA : ∀ W',S' W' -> ∀ o,S' (W'.alloc o):=fun W' h o => hSB _ _ h ((Below.refl _ _).alloc (Nat.le_refl _) o)
 have hSG : ∀ W',S' W' -> WR.heap.size <= W'.heap.size:=fun W' h => by rw [hSd] at h; exact h.size
 have hSC : ∀ W' b,S' W' -> WR.heap.size <= b -> ∀ {vs:List Value},S' (W'.setCells b 0 vs):=fun W' b h hb vs => by rw [hSd] at h ⊢; exact below_cells hb _ _ _ h
 have hS0:S' WR.drew:=by rw [hSd]; exact (Below.refl _ _).drew
 obtain ⟨pt,ct,et⟩:=own_shape h.text
 have s18 : ∀ W',S' W' -> W'.cell? ⟨D,18,none⟩ = some (.slice pt S.k.text.length ct):=fun W' hw => by rw [hSd] at hw; rw [<- et]; exact (h1.below hw).c18
 have s19 : ∀ W',S' W' -> W'.cell? ⟨D,19,none⟩ = some (.int .i64 (S.k.tf:Nat)):=fun W' hw => by rw [hSd] at hw; exact (h1.below hw).c19
 have s22 : ∀ W',S' W' -> W'.cell? ⟨D,22,none⟩ = some (.int .i64 (S.k.tg:Nat)):=fun W' hw => by rw [hSd] at hw; exact (h1.below hw).c22
 have sV : ∀ W',S' W' -> (convert 22 9 (.slice pt S.k.text.length ct)).run Tryd.prog W' = .ok (.string ⟨S.k.text.toArray⟩) W':=fun W' hw => by rw [hSd] at hw; rw [<- et]; exact conv_owned' (h1.below hw).text
 obtain ⟨P,hP⟩ : ∃ P,pla S.pl f n S.k.tf=P:=⟨_,rfl⟩
 obtain ⟨Q,hQ⟩ : ∃ Q,pla S.pl f n S.k.tg=Q:=⟨_,rfl⟩
 have cP1 : ∀ W',S' W' -> Calls Tryd.prog 40 #[.pointer (some ⟨D,0,none⟩), .int .i64 (S.k.tf:Nat)] W' fun e w' => e = .returned (plaV P) /\ Below W'.heap.size W' w':=fun W' hw => by
  rw [hSd] at hw; rw [<- hP]; exact placeOf_anyE (h1.below hw) S.k.tf hf htf (by omega) (by omega)
 have cP2 : ∀ W',S' W' -> Calls Tryd.prog 40 #[.pointer (some ⟨D,0,none⟩), .int .i64 (S.k.tg:Nat)] W' fun e w' => e = .returned (plaV Q) /\ Below W'.heap.size W' w':=fun W' hw => by
  rw [hSd] at hw; rw [<- hQ]; exact placeOf_anyE (h1.below hw) S.k.tg hf (by omega) (by omega) (by omega)
 unfold plaV at cP1 cP2
 rw [hP,hQ]
 obtain ⟨Mid,hMid⟩ : ∃ Mid:Act -> World -> Prop,Mid=fun a' W' => a'.defers = [] /\ a'.tmps.size=57 /\ a'.tmps[0]? = some (.pointer (some ⟨D,0,none⟩)) /\ a'.tmps[2]? = some (.pointer (some ⟨w.heap.size,0,none⟩)) /\ ∃ T,a'.tmps[3]? = some (.pointer (some ⟨T,0,none⟩)) /\ S' W' /\ WR.heap.size <= T /\ W'.heap[T]? = some (.cells (tokA 0 [] (.slice none 0 0) S.k.text P Q) 43 (0,0)):=⟨_,rfl⟩
 have HMid:=hide' hMid
 have HSD:=hide' hSd
 have H1:=hide' h1
 have HCT:=hide' hcT
 have H0:=hide' h
 have HBEL:=hide' hbel
 have HQ:=hide' hQ
 clear hMid hSd h h1 hcT hbel hf htf hpl et hP hQ
 go_enter Tryd.func24,Tryd.ntmps24
 go_wp2_with fail
 change Code.wp _ _ _ _ (World.alloc w (.cells tok0 43))
 rw [<- hWR]
 clear hWR
 refine wp_mono (Q:=Exit.then Mid (fun _ _ _ => False)) ?_ ?_
 . refine wp_region_held_drew (S:=S') (by kernel_rfl) hS0 (fun hHeld => ?_)
   simp only [List.size_toArray,List.length_cons,List.length_nil,Nat.reduceAdd]
   generalize WR.drew=W0 at hHeld hS0 ⊢
   clear hS0
   refine wpAnyH_take (i:=0) (v := .pointer (some ⟨D,0,none⟩)) rfl (by kernel_rfl) (by kernel_rfl) (by kernel_rfl) (fun _ _ _ h => h) (Or.inl ⟨by rfl, ?y0⟩) (by assumption) ?_
   case y0 => (intro w' hSw; have q18:=s18 w' hSw; have q19:=s19 w' hSw; have q22:=s22 w' hSw; have qV:=sV w' hSw; go_simp; try rfl)
   try simp only [List.getElem_toArray,List.getElem_cons_zero,Act.put,List.setIfInBounds_toArray,List.set_cons_zero,List.set_cons_succ]
   refine wpAnyH_take (i:=1) (v := .pointer (some ⟨D,0,none⟩)) rfl (by kernel_rfl) (by kernel_rfl) (by kernel_rfl) (fun _ _ _ h => h) (Or.inl ⟨by rfl, ?y1⟩) (by assumption) ?_
   case y1 => (intro w' hSw; have q18:=s18 w' hSw; have q19:=s19 w' hSw; have q22:=s22 w' hSw; have qV:=sV w' hSw; go_simp; try rfl)
   try simp only [List.getElem_toArray,List.getElem_cons_zero,List.getElem_cons_succ,Act.put,List.setIfInBounds_toArray,List.set_cons_zero,List.set_cons_succ]
   refine wpAnyH_take (i:=2) (v := .pointer (some ⟨D,6,none⟩)) rfl (by kernel_rfl) (by kernel_rfl) (by kernel_rfl) (fun _ _ _ h => h) (Or.inl ⟨by rfl, ?y2⟩) (by assumption) ?_
   case y2 => (intro w' hSw; have q18:=s18 w' hSw; have q19:=s19 w' hSw; have q22:=s22 w' hSw; have qV:=sV w' hSw; go_simp; try rfl)
   try simp only [List.getElem_toArray,List.getElem_cons_zero,List.getElem_cons_succ,Act.put,List.setIfInBounds_toArray,List.set_cons_zero,List.set_cons_succ]
   refine wpAnyH_take (i:=3) (v := .pointer (some ⟨D,18,none⟩)) rfl (by kernel_rfl) (by kernel_rfl) (by kernel_rfl) (fun _ _ _ h => h) (Or.inl ⟨by rfl, ?y3⟩) (by assumption) ?_
   case y3 => (intro w' hSw; have q18:=s18 w' hSw; have q19:=s19 w' hSw; have q22:=s22 w' hSw; have qV:=sV w' hSw; go_simp; try rfl)
   try simp only [List.getElem_toArray,List.getElem_cons_zero,List.getElem_cons_succ,Act.put,List.setIfInBounds_toArray,List.set_cons_zero,List.set_cons_succ]
   refine wpAnyH_take (i:=4) (v := .slice pt S.k.text.length ct) rfl (by kernel_rfl) (by kernel_rfl) (by kernel_rfl) (fun _ _ _ h => h) (Or.inl ⟨by rfl, ?y4⟩) (by assumption) ?_
   case y4 => (intro w' hSw; have q18:=s18 w' hSw; have q19:=s19 w' hSw; have q22:=s22 w' hSw; have qV:=sV w' hSw; go_simp; try rfl)
   try simp only [List.getElem_toArray,List.getElem_cons_zero,List.getElem_cons_succ,Act.put,List.setIfInBounds_toArray,List.set_cons_zero,List.set_cons_succ]
   refine wpAnyH_take (i:=5) (v := .string ⟨S.k.text.toArray⟩) rfl (by kernel_rfl) (by kernel_rfl) (by kernel_rfl) (fun _ _ _ h => h) (Or.inl ⟨by rfl, ?y5⟩) (by assumption) ?_
   case y5 => (intro w' hSw; have q18:=s18 w' hSw; have q19:=s19 w' hSw; have q22:=s22 w' hSw; have qV:=sV w' hSw; go_simp; try rfl)
   try simp only [List.getElem_toArray,List.getElem_cons_zero,List.getElem_cons_succ,Act.put,List.setIfInBounds_toArray,List.set_cons_zero,List.set_cons_succ]
   refine wpAnyH_take (i:=6) (v := .pointer (some ⟨D,0,none⟩)) rfl (by kernel_rfl) (by kernel_rfl) (by kernel_rfl) (fun _ _ _ h => h) (Or.inl ⟨by rfl, ?y6⟩) (by assumption) ?_
   case y6 => (intro w' hSw; have q18:=s18 w' hSw; have q19:=s19 w' hSw; have q22:=s22 w' hSw; have qV:=sV w' hSw; go_simp; try rfl)
   try simp only [List.getElem_toArray,List.getElem_cons_zero,List.getElem_cons_succ,Act.put,List.setIfInBounds_toArray,List.set_cons_zero,List.set_cons_succ]
   refine wpAnyH_take (i:=7) (v := .pointer (some ⟨D,0,none⟩)) rfl (by kernel_rfl) (by kernel_rfl) (by kernel_rfl) (fun _ _ _ h => h) (Or.inl ⟨by rfl, ?y7⟩) (by assumption) ?_
   case y7 => (intro w' hSw; have q18:=s18 w' hSw; have q19:=s19 w' hSw; have q22:=s22 w' hSw; have qV:=sV w' hSw; go_simp; try rfl)
   try simp only [List.getElem_toArray,List.getElem_cons_zero,List.getElem_cons_succ,Act.put,List.setIfInBounds_toArray,List.set_cons_zero,List.set_cons_succ]
   refine wpAnyH_take (i:=8) (v := .pointer (some ⟨D,0,none⟩)) rfl (by kernel_rfl) (by kernel_rfl) (by kernel_rfl) (fun _ _ _ h => h) (Or.inl ⟨by rfl, ?y8⟩) (by assumption) ?_
   case y8 => (intro w' hSw; have q18:=s18 w' hSw; have q19:=s19 w' hSw; have q22:=s22 w' hSw; have qV:=sV w' hSw; go_simp; try rfl)
   try simp only [List.getElem_toArray,List.getElem_cons_zero,List.getElem_cons_succ,Act.put,List.setIfInBounds_toArray,List.set_cons_zero,List.set_cons_succ]
   refine wpAnyH_take (i:=9) (v := .pointer (some ⟨D,6,none⟩)) rfl (by kernel_rfl) (by kernel_rfl) (by kernel_rfl) (fun _ _ _ h => h) (Or.inl ⟨by rfl, ?y9⟩) (by assumption) ?_
   case y9 => (intro w' hSw; have q18:=s18 w' hSw; have q19:=s19 w' hSw; have q22:=s22 w' hSw; have qV:=sV w' hSw; go_simp; try rfl)
   try simp only [List.getElem_toArray,List.getElem_cons_zero,List.getElem_cons_succ,Act.put,List.setIfInBounds_toArray,List.set_cons_zero,List.set_cons_succ]
   refine wpAnyH_take (i:=10) (v := .pointer (some ⟨D,19,none⟩)) rfl (by kernel_rfl) (by kernel_rfl) (by kernel_rfl) (fun _ _ _ h => h) (Or.inl ⟨by rfl, ?y10⟩) (by assumption) ?_
   case y10 => (intro w' hSw; have q18:=s18 w' hSw; have q19:=s19 w' hSw; have q22:=s22 w' hSw; have qV:=sV w' hSw; go_simp; try rfl)
   try simp only [List.getElem_toArray,List.getElem_cons_zero,List.getElem_cons_succ,Act.put,List.setIfInBounds_toArray,List.set_cons_zero,List.set_cons_succ]
   refine wpAnyH_take (i:=11) (v := .int .i64 (S.k.tf:Nat)) rfl (by kernel_rfl) (by kernel_rfl) (by kernel_rfl) (fun _ _ _ h => h) (Or.inl ⟨by rfl, ?y11⟩) (by assumption) ?_
   case y11 => (intro w' hSw; have q18:=s18 w' hSw; have q19:=s19 w' hSw; have q22:=s22 w' hSw; have qV:=sV w' hSw; go_simp; try rfl)
   try simp only [List.getElem_toArray,List.getElem_cons_zero,List.getElem_cons_succ,Act.put,List.setIfInBounds_toArray,List.set_cons_zero,List.set_cons_succ]
   refine wpAnyH_take (i:=13) (v := .pointer (some ⟨D,0,none⟩)) rfl (by kernel_rfl) (by kernel_rfl) (by kernel_rfl) (fun _ _ _ h => h) (Or.inl ⟨by rfl, ?y13⟩) (by assumption) ?_
   case y13 => (intro w' hSw; have q18:=s18 w' hSw; have q19:=s19 w' hSw; have q22:=s22 w' hSw; have qV:=sV w' hSw; go_simp; try rfl)
   try simp only [List.getElem_toArray,List.getElem_cons_zero,List.getElem_cons_succ,Act.put,List.setIfInBounds_toArray,List.set_cons_zero,List.set_cons_succ]
   refine wpAnyH_take (i:=14) (v := .pointer (some ⟨D,0,none⟩)) rfl (by kernel_rfl) (by kernel_rfl) (by kernel_rfl) (fun _ _ _ h => h) (Or.inl ⟨by rfl, ?y14⟩) (by assumption) ?_
   case y14 => (intro w' hSw; have q18:=s18 w' hSw; have q19:=s19 w' hSw; have q22:=s22 w' hSw; have qV:=sV w' hSw; go_simp; try rfl)
   try simp only [List.getElem_toArray,List.getElem_cons_zero,List.getElem_cons_succ,Act.put,List.setIfInBounds_toArray,List.set_cons_zero,List.set_cons_succ]
   refine wpAnyH_take (i:=15) (v := .pointer (some ⟨D,0,none⟩)) rfl (by kernel_rfl) (by kernel_rfl) (by kernel_rfl) (fun _ _ _ h => h) (Or.inl ⟨by rfl, ?y15⟩) (by assumption) ?_
   case y15 => (intro w' hSw; have q18:=s18 w' hSw; have q19:=s19 w' hSw; have q22:=s22 w' hSw; have qV:=sV w' hSw; go_simp; try rfl)
   try simp only [List.getElem_toArray,List.getElem_cons_zero,List.getElem_cons_succ,Act.put,List.setIfInBounds_toArray,List.set_cons_zero,List.set_cons_succ]
   refine wpAnyH_take (i:=16) (v := .pointer (some ⟨D,6,none⟩)) rfl (by kernel_rfl) (by kernel_rfl) (by kernel_rfl) (fun _ _ _ h => h) (Or.inl ⟨by rfl, ?y16⟩) (by assumption) ?_
   case y16 => (intro w' hSw; have q18:=s18 w' hSw; have q19:=s19 w' hSw; have q22:=s22 w' hSw; have qV:=sV w' hSw; go_simp; try rfl)
   try simp only [List.getElem_toArray,List.getElem_cons_zero,List.getElem_cons_succ,Act.put,List.setIfInBounds_toArray,List.set_cons_zero,List.set_cons_succ]
   refine wpAnyH_take (i:=17) (v := .pointer (some ⟨D,22,none⟩)) rfl (by kernel_rfl) (by kernel_rfl) (by kernel_rfl) (fun _ _ _ h => h) (Or.inl ⟨by rfl, ?y17⟩) (by assumption) ?_
   case y17 => (intro w' hSw; have q18:=s18 w' hSw; have q19:=s19 w' hSw; have q22:=s22 w' hSw; have qV:=sV w' hSw; go_simp; try rfl)
   try simp only [List.getElem_toArray,List.getElem_cons_zero,List.getElem_cons_succ,Act.put,List.setIfInBounds_toArray,List.set_cons_zero,List.set_cons_succ]
   refine wpAnyH_take (i:=18) (v := .int .i64 (S.k.tg:Nat)) rfl (by kernel_rfl) (by kernel_rfl) (by kernel_rfl) (fun _ _ _ h => h) (Or.inl ⟨by rfl, ?y18⟩) (by assumption) ?_
   case y18 => (intro w' hSw; have q18:=s18 w' hSw; have q19:=s19 w' hSw; have q22:=s22 w' hSw; have qV:=sV w' hSw; go_simp; try rfl)
   try simp only [List.getElem_toArray,List.getElem_cons_zero,List.getElem_cons_succ,Act.put,List.setIfInBounds_toArray,List.set_cons_zero,List.set_cons_succ]
   refine wpAnyH_ready (rs := [12,21]) (by kernel_rfl) (by simp) ?_
   refine AllReadyH.cons rfl (fun K hK => ?_) ?_
   . try simp only [List.getElem_toArray,List.getElem_cons_zero,List.getElem_cons_succ]
     go_simp
     refine (cP1 _ hHeld).mono ?_
     rintro e W1c ⟨rfl,hb1⟩
     go_wp2_with fail
     have hS1:=hSB _ _ hHeld hb1
     refine hK.out _ _ hS1 (fun hHeld9 => ?_)
     clear hK K hHeld9
     try simp only [List.getElem_toArray,List.getElem_cons_zero,List.getElem_cons_succ,Act.put,List.setIfInBounds_toArray,List.set_cons_zero,List.set_cons_succ]
     refine wpAnyH_ready (rs := [19,21]) (by kernel_rfl) (by simp) ?_
     refine AllReadyH.cons rfl (fun K hK => ?_) ?_
     . try simp only [List.getElem_toArray,List.getElem_cons_zero,List.getElem_cons_succ]
       go_simp
       refine (cP2 _ hS1).mono ?_
       rintro e W2c ⟨rfl,hb2⟩
       go_wp2_with fail
       have hS2:=hSB _ _ hS1 hb2
       refine hK.out _ _ hS2 (fun hHeld9 => ?_)
       clear hK K hHeld9
       try simp only [List.getElem_toArray,List.getElem_cons_zero,List.getElem_cons_succ,Act.put,List.setIfInBounds_toArray,List.set_cons_zero,List.set_cons_succ]
       refine wpAnyH_take (i:=20) (v := .agg (tokA 0 [] (.slice none 0 0) S.k.text P Q)) rfl (by kernel_rfl) (by kernel_rfl) (by kernel_rfl) (fun _ _ _ h => h) (Or.inl ⟨by rfl, ?y20⟩) (by assumption) ?_
       case y20 => (intro w' hSw; have q18:=s18 w' hSw; have q19:=s19 w' hSw; have q22:=s22 w' hSw; have qV:=sV w' hSw; go_simp; try rfl)
       try simp only [List.getElem_toArray,List.getElem_cons_zero,List.getElem_cons_succ,Act.put,List.setIfInBounds_toArray,List.set_cons_zero,List.set_cons_succ]
       refine wpAnyH_ready (rs := [21]) (by kernel_rfl) (by simp) ?_
       refine AllReadyH.cons rfl (fun K hK => ?_) AllReadyH.nil
       try simp only [List.getElem_toArray,List.getElem_cons_zero,List.getElem_cons_succ]
       go_simp
       have hSa:=hSA _ hS2 (.cells tok0 43)
       have hTa:=heap_alloc_new W2c (.cells tok0 43)
       have hTg:=hSG _ hS2
       refine hK.out _ _ hSa (fun hHeld9 => ?_)
       clear hK K hHeld9
       try simp only [List.getElem_toArray,List.getElem_cons_zero,List.getElem_cons_succ,Act.put,List.setIfInBounds_toArray,List.set_cons_zero,List.set_cons_succ]
       change wpAnyH _ _ _ _ _ _ _ _ (World.alloc W2c (.cells tok0 43))
       generalize W2c.alloc (.cells tok0 43)=W3a at hSa hTa ⊢
       refine wpAnyH_ready (rs := [22]) (by kernel_rfl) (by simp) ?_
       refine AllReadyH.cons rfl (fun K hK => ?_) AllReadyH.nil
       try simp only [List.getElem_toArray,List.getElem_cons_zero,List.getElem_cons_succ]
       rw [if_pos (by rfl)]
       refine wp_store_mid 43 (.tmp 3) (.tmp 24) ?_ W2c.heap.size 0 (tokA 0 [] (.slice none 0 0) S.k.text P Q) ?_ ?_ (there_of hTa 0 12 (Nat.le_refl _)) tokInfo (tokOne _ _ _ _ _ _ _ _) ?_
       . rfl
       . rfl
       . rfl
       refine hK.out _ _ (hSC _ _ hSa hTg) (fun hHeld9 => ?_)
       clear hK K
       try simp only [Act.put]
       refine wpAnyH_done (by kernel_rfl) ?_ _
       show Mid _ _
       rw [HMid.out]
       exact ⟨rfl,rfl,rfl,rfl,W2c.heap.size,rfl,hHeld9,hTg,by have:=heap_setCells (tokA 0 [] (.slice none 0 0) S.k.text P Q).toList 0 _ _ hTa; rw [tok_set] at this; exact this⟩
     refine AllReadyH.cons rfl (fun K hK => ?_) AllReadyH.nil
     try simp only [List.getElem_toArray,List.getElem_cons_zero,List.getElem_cons_succ]
     go_simp
     have hSa:=hSA _ hS1 (.cells tok0 43)
     have hTa:=heap_alloc_new W1c (.cells tok0 43)
     have hTg:=hSG _ hS1
     refine hK.out _ _ hSa (fun hHeld9 => ?_)
     clear hK K hHeld9
     try simp only [List.getElem_toArray,List.getElem_cons_zero,List.getElem_cons_succ,Act.put,List.setIfInBounds_toArray,List.set_cons_zero,List.set_cons_succ]
     change wpAnyH _ _ _ _ _ _ _ _ (World.alloc W1c (.cells tok0 43))
     generalize W1c.alloc (.cells tok0 43)=W2a at hSa hTa ⊢
     refine wpAnyH_ready (rs := [19]) (by kernel_rfl) (by simp) ?_
     refine AllReadyH.cons rfl (fun K hK => ?_) AllReadyH.nil
     try simp only [List.getElem_toArray,List.getElem_cons_zero,List.getElem_cons_succ]
     go_simp
     refine (cP2 _ hSa).mono ?_
     rintro e W3c ⟨rfl,hb3⟩
     go_wp2_with fail
     have hS3:=hSB _ _ hSa hb3
     have hT3:=(hb3.block _ (heap_lt hTa)).trans hTa
     refine hK.out _ _ hS3 (fun hHeld9 => ?_)
     clear hK K hHeld9
     try simp only [List.getElem_toArray,List.getElem_cons_zero,List.getElem_cons_succ,Act.put,List.setIfInBounds_toArray,List.set_cons_zero,List.set_cons_succ]
     refine wpAnyH_take (i:=20) (v := .agg (tokA 0 [] (.slice none 0 0) S.k.text P Q)) rfl (by kernel_rfl) (by kernel_rfl) (by kernel_rfl) (fun _ _ _ h => h) (Or.inl ⟨by rfl, ?y20⟩) (by assumption) ?_
     case y20 => (intro w' hSw; have q18:=s18 w' hSw; have q19:=s19 w' hSw; have q22:=s22 w' hSw; have qV:=sV w' hSw; go_simp; try rfl)
     try simp only [List.getElem_toArray,List.getElem_cons_zero,List.getElem_cons_succ,Act.put,List.setIfInBounds_toArray,List.set_cons_zero,List.set_cons_succ]
     refine wpAnyH_ready (rs := [22]) (by kernel_rfl) (by simp) ?_
     refine AllReadyH.cons rfl (fun K hK => ?_) AllReadyH.nil
     try simp only [List.getElem_toArray,List.getElem_cons_zero,List.getElem_cons_succ]
     rw [if_pos (by rfl)]
     refine wp_store_mid 43 (.tmp 3) (.tmp 24) ?_ W1c.heap.size 0 (tokA 0 [] (.slice none 0 0) S.k.text P Q) ?_ ?_ (there_of hT3 0 12 (Nat.le_refl _)) tokInfo (tokOne _ _ _ _ _ _ _ _) ?_
     . rfl
     . rfl
     . rfl
     refine hK.out _ _ (hSC _ _ hS3 hTg) (fun hHeld9 => ?_)
     clear hK K
     try simp only [Act.put]
     refine wpAnyH_done (by kernel_rfl) ?_ _
     show Mid _ _
     rw [HMid.out]
     exact ⟨rfl,rfl,rfl,rfl,W1c.heap.size,rfl,hHeld9,hTg,by have:=heap_setCells (tokA 0 [] (.slice none 0 0) S.k.text P Q).toList 0 _ _ hT3; rw [tok_set] at this; exact this⟩
   refine AllReadyH.cons rfl (fun K hK => ?_) AllReadyH.nil
   try simp only [List.getElem_toArray,List.getElem_cons_zero,List.getElem_cons_succ]
   go_simp
   have hSa:=hSA _ hHeld (.cells tok0 43)
   have hTa:=heap_alloc_new W0 (.cells tok0 43)
   have hTg:=hSG _ hHeld
   refine hK.out _ _ hSa (fun hHeld9 => ?_)
   clear hK K hHeld9
   try simp only [List.getElem_toArray,List.getElem_cons_zero,List.getElem_cons_succ,Act.put,List.setIfInBounds_toArray,List.set_cons_zero,List.set_cons_succ]
   change wpAnyH _ _ _ _ _ _ _ _ (World.alloc W0 (.cells tok0 43))
   generalize W0.alloc (.cells tok0 43)=W1a at hSa hTa ⊢
   refine wpAnyH_ready (rs := [12]) (by kernel_rfl) (by simp) ?_
   refine AllReadyH.cons rfl (fun K hK => ?_) AllReadyH.nil
   try simp only [List.getElem_toArray,List.getElem_cons_zero,List.getElem_cons_succ]
   go_simp
   refine (cP1 _ hSa).mono ?_
   rintro e W2c ⟨rfl,hb2⟩
   go_wp2_with fail
   have hS2:=hSB _ _ hSa hb2
   have hT2:=(hb2.block _ (heap_lt hTa)).trans hTa
   refine hK.out _ _ hS2 (fun hHeld9 => ?_)
   clear hK K hHeld9
   try simp only [List.getElem_toArray,List.getElem_cons_zero,List.getElem_cons_succ,Act.put,List.setIfInBounds_toArray,List.set_cons_zero,List.set_cons_succ]
   refine wpAnyH_ready (rs := [19]) (by kernel_rfl) (by simp) ?_
   refine AllReadyH.cons rfl (fun K hK => ?_) AllReadyH.nil
   try simp only [List.getElem_toArray,List.getElem_cons_zero,List.getElem_cons_succ]
   go_simp
   refine (cP2 _ hS2).mono ?_
   rintro e W3c ⟨rfl,hb3⟩
   go_wp2_with fail
   have hS3:=hSB _ _ hS2 hb3
   have hT3:=(hb3.block _ (heap_lt hT2)).trans hT2
   refine hK.out _ _ hS3 (fun hHeld9 => ?_)
   clear hK K hHeld9
   try simp only [List.getElem_toArray,List.getElem_cons_zero,List.getElem_cons_succ,Act.put,List.setIfInBounds_toArray,List.set_cons_zero,List.set_cons_succ]
   refine wpAnyH_take (i:=20) (v := .agg (tokA 0 [] (.slice none 0 0) S.k.text P Q)) rfl (by kernel_rfl) (by kernel_rfl) (by kernel_rfl) (fun _ _ _ h => h) (Or.inl ⟨by rfl, ?y20⟩) (by assumption) ?_
   case y20 => (intro w' hSw; have q18:=s18 w' hSw; have q19:=s19 w' hSw; have q22:=s22 w' hSw; have qV:=sV w' hSw; go_simp; try rfl)
   try simp only [List.getElem_toArray,List.getElem_cons_zero,List.getElem_cons_succ,Act.put,List.setIfInBounds_toArray,List.set_cons_zero,List.set_cons_succ]
   refine wpAnyH_ready (rs := [22]) (by kernel_rfl) (by simp) ?_
   refine AllReadyH.cons rfl (fun K hK => ?_) AllReadyH.nil
   try simp only [List.getElem_toArray,List.getElem_cons_zero,List.getElem_cons_succ]
   rw [if_pos (by rfl)]
   refine wp_store_mid 43 (.tmp 3) (.tmp 24) ?_ W0.heap.size 0 (tokA 0 [] (.slice none 0 0) S.k.text P Q) ?_ ?_ (there_of hT3 0 12 (Nat.le_refl _)) tokInfo (tokOne _ _ _ _ _ _ _ _) ?_
   . rfl
   . rfl
   . rfl
   refine hK.out _ _ (hSC _ _ hS3 hTg) (fun hHeld9 => ?_)
   clear hK K
   try simp only [Act.put]
   refine wpAnyH_done (by kernel_rfl) ?_ _
   show Mid _ _
   rw [HMid.out]
   exact ⟨rfl,rfl,rfl,rfl,W0.heap.size,rfl,hHeld9,hTg,by have:=heap_setCells (tokA 0 [] (.slice none 0 0) S.k.text P Q).toList 0 _ _ hT3; rw [tok_set] at this; exact this⟩
 . intro e a' W' hM
   cases e with
   | normal =>
     have hM':Mid a' W':=hM
     rw [HMid.out] at hM'
     obtain ⟨q1,q2,q3,q5,T,q6,hSW,hTg,hTc⟩:=hM'
     obtain ⟨tm,df⟩:=a'
     simp only at q1 q2 q3 q5 q6
     subst q1
     clear hM
     revert q3 q5 q6
     revert tm
     refine frame57 ?_
     intro v0 v1 v2 v3 v4 v5 v6 v7 v8 v9 v10 v11 v12 v13 v14 v15 v16 v17 v18 v19 v20 v21 v22 v23 v24 v25 v26 v27 v28 v29 v30 v31 v32 v33 v34 v35 v36 v37 v38 v39 v40 v41 v42 v43 v44 v45 v46 v47 v48 v49 v50 v51 v52 v53 v54 v55 v56 q3 q5 q6
     have q7:v0 = .pointer (some ⟨D,0,none⟩):=by simpa using q3
     subst q7
     have q8:v2 = .pointer (some ⟨w.heap.size,0,none⟩):=by simpa using q5
     subst q8
     have q9:v3 = .pointer (some ⟨T,0,none⟩):=by simpa using q6
     subst q9
     clear q3 q5 q6 s18 s19 s22 sV cP1 cP2 hSB hSA hSG hSC hS0
     rw [HSD.out] at hSW
     have h2:=(H1.out.below hSW).drew
     have hlt:=h2.lt0
     have hTlt:T < W'.heap.size:=heap_lt hTc
     have hwT:w.heap.size < WR.heap.size:=heap_lt HCT.out
     have hT0:W'.heap[w.heap.size]? = some (.cells tok0 43 (0,0)):=(hSW.block _ hwT).trans HCT.out
     have hfl : ∀ q,some q ∈ foot D R -> q < w.heap.size:=fun q hq => (H0.out.lt q hq).2
     have hTD:T ≠ D:=by have:=H0.out.lt0; omega
     have hTc2 : ∀ X:World,X.heap[T]? = W'.heap[T]? -> X.cell? ⟨T,8,none⟩ = some (.int .i64 (Q.1:Nat)) /\ X.cell? ⟨T,9,none⟩ = some (.int .i64 (Q.2.1:Nat)) /\ X.cell? ⟨T,10,none⟩ = some (.int .i64 (Q.2.2.1:Nat)) /\ X.cell? ⟨T,11,none⟩ = some (.int .i64 (Q.2.2.2:Nat)):=fun X hX => by
      have hc:=hX.trans hTc
      exact ⟨by rw [Lib.cell_of_heap hc]; rfl,by rw [Lib.cell_of_heap hc]; rfl,by rw [Lib.cell_of_heap hc]; rfl,by rw [Lib.cell_of_heap hc]; rfl⟩
     have cT:=tell_any h2 S.k.tg Q (by omega) (by omega)
     unfold plaV at cT
     have CT:Hid (Calls Tryd.prog 41 #[.pointer (some ⟨D,0,none⟩), .int .i64 (S.k.tg:Nat), .agg #[.int .i64 (Q.1:Nat), .int .i64 (Q.2.1:Nat), .int .i64 (Q.2.2.1:Nat), .int .i64 (Q.2.2.2:Nat)]] W'.drew fun e w'' => e = .returned (.tuple #[]) /\ (w''.cell? ⟨D,22,none⟩ = some (.int .i64 (S.k.tg:Nat)) /\ w''.cell? ⟨T,8,none⟩ = some (.int .i64 (Q.1:Nat)) /\ w''.cell? ⟨T,9,none⟩ = some (.int .i64 (Q.2.1:Nat)) /\ w''.cell? ⟨T,10,none⟩ = some (.int .i64 (Q.2.2.1:Nat)) /\ w''.cell? ⟨T,11,none⟩ = some (.int .i64 (Q.2.2.2:Nat))) /\ ∃ R',SCe w'' D B (Rn.off f S.k.tg) (n - S.k.tg) { S with pl:=Q } R' /\ To D R W'.drew R' w'' /\ R' = { R with rest:=R'.rest }):=by
      refine cT.mono ?_
      rintro e w'' ⟨rfl,R',t1,t2,t3⟩
      have hTT:w''.heap[T]? = W'.heap[T]? := t2.mv.block T hTlt fun hq => by have:=hfl T hq; omega
      exact ⟨rfl,⟨t1.c22,(hTc2 w'' hTT).1,(hTc2 w'' hTT).2.1,(hTc2 w'' hTT).2.2.1,(hTc2 w'' hTT).2.2.2⟩,R',t1,t2,t3⟩
     have xx:W'.drew.cell? ⟨D,22,none⟩ = some (.int .i64 (S.k.tg:Nat)) /\ W'.drew.cell? ⟨T,8,none⟩ = some (.int .i64 (Q.1:Nat)) /\ W'.drew.cell? ⟨T,9,none⟩ = some (.int .i64 (Q.2.1:Nat)) /\ W'.drew.cell? ⟨T,10,none⟩ = some (.int .i64 (Q.2.2.1:Nat)) /\ W'.drew.cell? ⟨T,11,none⟩ = some (.int .i64 (Q.2.2.2:Nat)):=⟨h2.c22,(hTc2 W'.drew rfl).1,(hTc2 W'.drew rfl).2.1,(hTc2 W'.drew rfl).2.2.1,(hTc2 W'.drew rfl).2.2.2⟩
     have HTC:=hide' hTc
     have HT0:=hide' hT0
     have HSW:=hide' hSW
     have HTG:=hide' hTg
     have HFL:=hide' hfl
     have HTL:=hide' hTlt
     have HWT:=hide' hwT
     clear cT h2 hlt hTc2 hTc hT0 hSW hTg hfl hTlt hTD hwT
     go_wp2_with fail
     go_region_held (fun w' => w'.cell? ⟨D,22,none⟩ = some (.int .i64 (S.k.tg:Nat)) /\ w'.cell? ⟨T,8,none⟩ = some (.int .i64 (Q.1:Nat)) /\ w'.cell? ⟨T,9,none⟩ = some (.int .i64 (Q.2.1:Nat)) /\ w'.cell? ⟨T,10,none⟩ = some (.int .i64 (Q.2.2.1:Nat)) /\ w'.cell? ⟨T,11,none⟩ = some (.int .i64 (Q.2.2.2:Nat))) (first | (with_reducible exact xx) | (with_reducible exact zz)) (first | (go_at_call 41; refine CT.out.mono ?_; rintro e W3 ⟨rfl,zz,hrest⟩))
     obtain ⟨R3,hS3,hTo3,hR3⟩:=hrest
     have d16:=hS3.c16
     have d22:=hS3.c22
     have d18:=hS3.c18
     have g16:=hS3.fz 16
     have g22:=hS3.fz 22
     have g18:=hS3.fz 18
     have w1:IntKind.i64.wrap ((S.k.ps:Int) - (S.k.tg:Int))=((S.k.ps - S.k.tg:Nat) : Int):=by rw [IntKind.wrap_i64]; omega
     have hDl:=H0.out.lt0
     have hwl:=HWT.out
     have hgl:=HTG.out
     have hXh : ∀ q,q ≠ D -> q < W'.heap.size -> some q ∉ foot D R -> ((((W3.setCell ⟨D,16,none⟩ (.int .i64 ((S.k.ps - S.k.tg:Nat) : Int))).setCell ⟨D,22,none⟩ (.int .i64 0)).setCell ⟨D,18,none⟩ (.slice none 0 0)).drew).heap[q]? = W'.heap[q]? := fun q h1 h2 h3 =>
      ((RowKit.Below.heap_setCell _ _ _ _ h1).trans ((RowKit.Below.heap_setCell _ _ _ _ h1).trans (RowKit.Below.heap_setCell _ _ _ _ h1))).trans (hTo3.mv.block q h2 h3)
     have hXT:=(hXh T (by omega) HTL.out fun hq => by have:=HFL.out T hq; omega).trans HTC.out
     have hX0:=(hXh w.heap.size (by omega) (by have:=HTL.out; omega) fun hq => by have:=HFL.out _ hq; omega).trans HT0.out
     have hrng:((((W3.setCell ⟨D,16,none⟩ (.int .i64 ((S.k.ps - S.k.tg:Nat) : Int))).setCell ⟨D,22,none⟩ (.int .i64 0)).setCell ⟨D,18,none⟩ (.slice none 0 0)).drew).rangeAt T 0 (tokA 0 [] (.slice none 0 0) S.k.text P Q).toList:=fun j v hv => by rw [Nat.zero_add,Lib.cell_of_heap hXT]; simpa using hv
     have hth:=there_of hX0 0 12 (Nat.le_refl _)
     have hres:(loadVar 43 ⟨w.heap.size,0,none⟩).run Tryd.prog (((((W3.setCell ⟨D,16,none⟩ (.int .i64 ((S.k.ps - S.k.tg:Nat) : Int))).setCell ⟨D,22,none⟩ (.int .i64 0)).setCell ⟨D,18,none⟩ (.slice none 0 0)).drew).setCells w.heap.size 0 (tokA 0 [] (.slice none 0 0) S.k.text P Q).toList) = .ok (.agg (tokA 0 [] (.slice none 0 0) S.k.text P Q)) (((((W3.setCell ⟨D,16,none⟩ (.int .i64 ((S.k.ps - S.k.tg:Nat) : Int))).setCell ⟨D,22,none⟩ (.int .i64 0)).setCell ⟨D,18,none⟩ (.slice none 0 0)).drew).setCells w.heap.size 0 (tokA 0 [] (.slice none 0 0) S.k.text P Q).toList) :=
      run_loadVar_mid _ w.heap.size 0 43 (tokA 0 [] (.slice none 0 0) S.k.text P Q).toList _ (World.rangeAt_setCells_same _ _ _ _ hth) Tryd.underlying43 rfl tokInfo
     have s1:=(hS3.put 16 (.int .i64 ((S.k.ps - S.k.tg:Nat) : Int)) { S with pl:=Q,k := { S.k with ps:=S.k.ps - S.k.tg } } rfl ⟨rfl,rfl,rfl,rfl,rfl,rfl,rfl,rfl⟩).put 22 (.int .i64 0) { S with pl:=Q,k := { S.k with ps:=S.k.ps - S.k.tg,tg:=0 } } rfl ⟨rfl,rfl,rfl,rfl,rfl,rfl,rfl,rfl⟩
     have s2:=s1.text0.drew
     have t1:To D R w { R3 with text := .slice none 0 0 } ((((W3.setCell ⟨D,16,none⟩ (.int .i64 ((S.k.ps - S.k.tg:Nat) : Int))).setCell ⟨D,22,none⟩ (.int .i64 0)).setCell ⟨D,18,none⟩ (.slice none 0 0)).drew):=(((((((To.of_below HBEL.out).trans (To.of_below HSW.out)).drew).trans hTo3).setCell 16 _ rfl).setCell 22 _ rfl).trans To.text0).drew
     have hnf : ∀ q,some q ∈ foot D { R3 with text := .slice none 0 0 } -> q ≠ w.heap.size:=fun q hq e => by
      rcases (((hTo3.setCell 16 (.int .i64 0) rfl).setCell 22 (.int .i64 0) rfl).trans (To.text0 (D:=D) (R:=R3))).own q hq with k | k
      . have:=HFL.out q k; omega
      . have h9:W'.heap.size <= q:=k; have:=HTL.out; omega
     have hfin : ∃ R',SCe (((((W3.setCell ⟨D,16,none⟩ (.int .i64 ((S.k.ps - S.k.tg:Nat) : Int))).setCell ⟨D,22,none⟩ (.int .i64 0)).setCell ⟨D,18,none⟩ (.slice none 0 0)).drew).setCells w.heap.size 0 (tokA 0 [] (.slice none 0 0) S.k.text P Q).toList) D B (Rn.off f S.k.tg) (n - S.k.tg) { S with pl:=Q,k := { S.k with ps:=S.k.ps - S.k.tg,tg:=0,text := [] } } R' /\ To D R w R' (((((W3.setCell ⟨D,16,none⟩ (.int .i64 ((S.k.ps - S.k.tg:Nat) : Int))).setCell ⟨D,22,none⟩ (.int .i64 0)).setCell ⟨D,18,none⟩ (.slice none 0 0)).drew).setCells w.heap.size 0 (tokA 0 [] (.slice none 0 0) S.k.text P Q).toList) /\ R'.fp=R.fp :=
      ⟨_,s2.keep fun q hq => heap_setCells_far (hnf q hq) _ _ _,t1.cells (Nat.le_refl _),by rw [hR3]⟩
     have HFIN:=hide' hfin
     have HRNG:=hide' hrng
     have HTH:=hide' hth
     have HRES:=hide' hres
     dsimp only at d16 d22
     clear hS3 hTo3 hR3 zz xx CT htg hps hbig hDl hwl hgl hXh hXT hX0 hrng hth hres s1 s2 t1 hnf hfin
     go_wp2_with fail
     go_region
     go_wp2_with (first | refine wpList_load_mid rfl 43 (.tmp 3) rfl T 0 rfl (tokA 0 [] (.slice none 0 0) S.k.text P Q).toList _ HRNG.out Tryd.underlying43 rfl tokInfo ?_ | refine wpList_store_mid rfl 43 (.tmp 2) (.tmp 56) rfl w.heap.size 0 (tokA 0 [] (.slice none 0 0) S.k.text P Q) rfl rfl HTH.out tokInfo (tokOne _ _ _ _ _ _ _ _) ?_)
     exact bodyPost_ret (v := .agg (tokA 0 [] (.slice none 0 0) S.k.text P Q)) (results_cell Tryd.results24 _ ⟨w.heap.size,0,none⟩ rfl _ _ HRES.out) rfl ⟨rfl,HFIN.out⟩
   | _ => exact hM.elim
end
section
variable {w:World} {D B n:Nat} {f:Nat -> Nat} {S:St} {R:Raw}
theorem tag_fin {WR W' W3 X1:World} {T:Nat} {pb:Option Addr} {cb:Nat} {P Q:Nat × Nat × Nat × Nat} {R3:Raw} (h0:SCe w D B f n S R) (hbel:Below w.heap.size w WR) (hSW:Below WR.heap.size WR W') (hwT:w.heap.size < WR.heap.size) (hTg:WR.heap.size <= T) (hTlt:T < W'.heap.size)
 (hTc:W'.heap[T]? = some (.cells (tokA S.k.kind S.k.tag (.slice pb S.k.attrs.length cb) [] P Q) 43 (0,0))) (hT0:W'.heap[w.heap.size]? = some (.cells tok0 43 (0,0))) (heb:R.attrs = .slice pb S.k.attrs.length cb)
 (hS3:SCe W3 D B (Rn.off f S.k.ps) (n - S.k.ps) { S with pl:=Q } R3) (hTo3:To D R W'.drew R3 W3) (hR3:R3 = { R with rest:=R3.rest }) (hX1:X1=W3.setCells D 6 walk0.toList) :
 X1.rangeAt T 0 (tokA S.k.kind S.k.tag (.slice pb S.k.attrs.length cb) [] P Q).toList /\ X1.there w.heap.size 0 12 /\ (loadVar 43 ⟨w.heap.size,0,none⟩).run Tryd.prog (X1.setCells w.heap.size 0 (tokA S.k.kind S.k.tag (.slice pb S.k.attrs.length cb) [] P Q).toList) = .ok (.agg (tokA S.k.kind S.k.tag (.slice pb S.k.attrs.length cb) [] P Q)) (X1.setCells w.heap.size 0 (tokA S.k.kind S.k.tag (.slice pb S.k.attrs.length cb) [] P Q).toList) /\
 ∃ v,SC (X1.setCells w.heap.size 0 (tokA S.k.kind S.k.tag (.slice pb S.k.attrs.length cb) [] P Q).toList) D B (Rn.off f S.k.ps) (n - S.k.ps) (noSt Q S.ended) (noRaw v) /\ To D R w (noRaw v) (X1.setCells w.heap.size 0 (tokA S.k.kind S.k.tag (.slice pb S.k.attrs.length cb) [] P Q).toList) /\ (X1.setCells w.heap.size 0 (tokA S.k.kind S.k.tag (.slice pb S.k.attrs.length cb) [] P Q).toList).ownsRow B 61 2 (.slice pb S.k.attrs.length cb) S.k.attrs.length (acells S.k.attrs) /\ ∀ q,(Value.slice pb S.k.attrs.length cb).ownBlock=some q -> some q ∉ foot D (noRaw v):=by
 have hfl : ∀ q,some q ∈ foot D R -> q < w.heap.size:=fun q hq => (h0.lt q hq).2
 have hDl:=h0.lt0
 have hwl:=hwT
 have hgl:=hTg
 have hXf : ∀ q,q ≠ D -> X1.heap[q]? = W3.heap[q]? := fun q h1 => by rw [hX1]; exact heap_setCells_far h1 _ _ _
 have hXh : ∀ q,q ≠ D -> q < W'.heap.size -> some q ∉ foot D R -> X1.heap[q]? = W'.heap[q]? := fun q h1 h2 h3 =>
  (hXf q h1).trans (hTo3.mv.block q h2 h3)
 have hXT:=(hXh T (by omega) hTlt fun hq => by have:=hfl T hq; omega).trans hTc
 have hX0:=(hXh w.heap.size (by omega) (by have:=hTlt; omega) fun hq => by have:=hfl _ hq; omega).trans hT0
 have hrng:X1.rangeAt T 0 (tokA S.k.kind S.k.tag (.slice pb S.k.attrs.length cb) [] P Q).toList:=fun j v hv => by rw [Nat.zero_add,Lib.cell_of_heap hXT]; simpa using hv
 have hth:=there_of hX0 0 12 (Nat.le_refl _)
 have hres:(loadVar 43 ⟨w.heap.size,0,none⟩).run Tryd.prog (X1.setCells w.heap.size 0 (tokA S.k.kind S.k.tag (.slice pb S.k.attrs.length cb) [] P Q).toList) = .ok (.agg (tokA S.k.kind S.k.tag (.slice pb S.k.attrs.length cb) [] P Q)) (X1.setCells w.heap.size 0 (tokA S.k.kind S.k.tag (.slice pb S.k.attrs.length cb) [] P Q).toList) :=
  run_loadVar_mid _ w.heap.size 0 43 (tokA S.k.kind S.k.tag (.slice pb S.k.attrs.length cb) [] P Q).toList _ (World.rangeAt_setCells_same _ _ _ _ hth) Tryd.underlying43 rfl tokInfo
 have hrD:R3.rest.ownBlock ≠ some D:=fun e => by have:=hS3.apart 0 3 D rfl (by rw [<- e]; rfl); omega
 have hnf : ∀ q,some q ∈ foot D R3 -> q ≠ w.heap.size:=fun q hq e => by
  rcases hTo3.own q hq with k | k
  . have:=hfl q k; omega
  . have h9:W'.heap.size <= q:=k; have:=hTlt; omega
 have hfar : ∀ q,q ≠ D -> q ≠ w.heap.size -> (X1.setCells w.heap.size 0 (tokA S.k.kind S.k.tag (.slice pb S.k.attrs.length cb) [] P Q).toList).heap[q]? = W3.heap[q]? := fun q h1 h2 => (heap_setCells_far h2 _ _ _).trans (hXf q h1)
 have s2:SC (X1.setCells w.heap.size 0 (tokA S.k.kind S.k.tag (.slice pb S.k.attrs.length cb) [] P Q).toList) D B (Rn.off f S.k.ps) (n - S.k.ps) (noSt Q S.ended) (noRaw R3.rest):=by
  refine SC.none_of ?_ hS3.low (hS3.rest.keep fun q e => hfar q (fun e2 => hrD (by rw [<- e2]; exact e)) (hnf q (by simp [foot,e]))) hrD
  refine (heap_setCells_far (by omega) _ _ _).trans ?_
  have:=heap_setCells walk0.toList 6 _ _ hS3.cell
  rw [cells_none] at this
  rw [hX1]
  exact this
 have hd3:To D R3 W3 (noRaw R3.rest) X1:=by
  rw [hX1]
  refine ⟨⟨(below_cells (B:=0) (a:=W3) (Nat.zero_le D) _ _ W3 (Below.refl _ _)).os,(below_cells (B:=0) (a:=W3) (Nat.zero_le D) _ _ W3 (Below.refl _ _)).tape,(below_cells (B:=0) (a:=W3) (Nat.zero_le D) _ _ W3 (Below.refl _ _)).output,by rw [size_setCells]; exact Nat.le_refl _,fun k _ hn => heap_setCells_far (fun e => hn (by rw [e]; simp [foot])) _ _ _⟩,fun q hq => .inl ?_⟩
  rw [foot_no] at hq
  simp only [List.mem_cons,List.not_mem_nil,or_false,Option.some.injEq,reduceCtorEq,false_or] at hq
  rcases hq with e | e
  . rw [e]; simp [foot]
  . rw [e]; simp [foot]
 have t1:To D R w (noRaw R3.rest) X1:=(((((To.of_below hbel).trans (To.of_below hSW)).drew).trans hTo3).trans hd3)
 have hat:(X1.setCells w.heap.size 0 (tokA S.k.kind S.k.tag (.slice pb S.k.attrs.length cb) [] P Q).toList).ownsRow B 61 2 (.slice pb S.k.attrs.length cb) S.k.attrs.length (acells S.k.attrs):=by
  have h3:=hS3.attrs
  rw [show R3.attrs=R.attrs by rw [hR3],heb] at h3
  refine own_keep h3 fun q e => hfar q (fun e2 => ?_) (hnf q ?_)
  . have:=hS3.apart 0 7 q (by rw [e2]; rfl) (by rw [<- e, <- heb]; show some R3.attrs.ownBlock=_; rw [show R3.attrs=R.attrs by rw [hR3]])
    omega
  . rw [<- e, <- heb,show R.attrs=R3.attrs by rw [hR3]]; simp [foot]
 have hsep : ∀ q,(Value.slice pb S.k.attrs.length cb).ownBlock=some q -> some q ∉ foot D (noRaw R3.rest):=fun q e hq => by
  have e7:(foot D R3)[7]? = some (some q):=by rw [<- e, <- heb]; show some R3.attrs.ownBlock=_; rw [show R3.attrs=R.attrs by rw [hR3]]
  rw [foot_no] at hq
  simp only [List.mem_cons,List.not_mem_nil,or_false,Option.some.injEq,reduceCtorEq,false_or] at hq
  rcases hq with e1 | e1
  . have:=hS3.apart 0 7 q (by rw [e1]; rfl) e7; omega
  . have:=hS3.apart 3 7 q (by rw [e1]; rfl) e7; omega
 have hfin : ∃ v,SC (X1.setCells w.heap.size 0 (tokA S.k.kind S.k.tag (.slice pb S.k.attrs.length cb) [] P Q).toList) D B (Rn.off f S.k.ps) (n - S.k.ps) (noSt Q S.ended) (noRaw v) /\ To D R w (noRaw v) (X1.setCells w.heap.size 0 (tokA S.k.kind S.k.tag (.slice pb S.k.attrs.length cb) [] P Q).toList) /\ (X1.setCells w.heap.size 0 (tokA S.k.kind S.k.tag (.slice pb S.k.attrs.length cb) [] P Q).toList).ownsRow B 61 2 (.slice pb S.k.attrs.length cb) S.k.attrs.length (acells S.k.attrs) /\ ∀ q,(Value.slice pb S.k.attrs.length cb).ownBlock=some q -> some q ∉ foot D (noRaw v) :=
  ⟨_,s2,t1.cells (Nat.le_refl _),hat,hsep⟩
 exact ⟨hrng,hth,hres,hfin⟩
theorem tellTag_any (h:SCe w D B f n S R) (hf : ∀ j,f j < 256) (htg:S.k.tg <= S.k.ps) (hps:S.k.ps <= n) (hbig:n <= 1099511627776) (hpl:S.pl.1 <= 1099511627776 /\ S.pl.2.1 <= 1099511627776 /\ S.pl.2.2.1 <= 1099511627776 /\ S.pl.2.2.2 <= 1099511627776) :
 Calls Tryd.prog 25 #[.pointer (some ⟨D,0,none⟩)] w fun e w' => e = .returned (.agg (tokA S.k.kind S.k.tag R.attrs [] (pla S.pl f n S.k.tg) (pla S.pl f n S.k.ps))) /\
  ∃ v,SC w' D B (Rn.off f S.k.ps) (n - S.k.ps) (noSt (pla S.pl f n S.k.ps) S.ended) (noRaw v) /\ To D R w (noRaw v) w' /\ w'.ownsRow B 61 2 R.attrs S.k.attrs.length (acells S.k.attrs) /\ ∀ q,R.attrs.ownBlock=some q -> some q ∉ foot D (noRaw v):=by
 obtain ⟨WR,hWR⟩ : ∃ WR,WR=w.alloc (.cells tok0 43):=⟨_,rfl⟩
 have hbel:Below w.heap.size w WR:=by rw [hWR]; exact (Below.refl _ _).alloc (Nat.le_refl _) _
 have h1:=h.below hbel
 have hcT:WR.heap[w.heap.size]? = some (.cells tok0 43 (0,0)):=by rw [hWR]; exact heap_alloc_new w _
 obtain ⟨S',hSd⟩ : ∃ S':World -> Prop,S'=fun W' => Below WR.heap.size WR W':=⟨_,rfl⟩
 have hSB : ∀ W' W8,S' W' -> Below W'.heap.size W' W8 -> S' W8:=fun W' W8 h hb => by rw [hSd] at h ⊢; exact h.trans (hb.mono h.size)
 have hSA : ∀ W',S' W' -> ∀ o,S' (W'.alloc o):=fun W' h o => hSB _ _ h ((Below.refl _ _).alloc (Nat.le_refl _) o)
 have hSG : ∀ W',S' W' -> WR.heap.size <= W'.heap.size:=fun W' h => by rw [hSd] at h; exact h.size
 have hSC : ∀ W' b,S' W' -> WR.heap.size <= b -> ∀ {vs:List Value},S' (W'.setCells b 0 vs):=fun W' b h hb vs => by rw [hSd] at h ⊢; exact below_cells hb _ _ _ h
 have hS0:S' WR.drew:=by rw [hSd]; exact (Below.refl _ _).drew
 obtain ⟨pt,ct,et⟩:=h.tag.shape
 obtain ⟨pb,cb,eb⟩:=own_shape h.attrs
 have s16 : ∀ W',S' W' -> W'.cell? ⟨D,16,none⟩ = some (.int .i64 (S.k.ps:Nat)):=fun W' hw => by rw [hSd] at hw; exact (h1.below hw).c16
 have s22 : ∀ W',S' W' -> W'.cell? ⟨D,22,none⟩ = some (.int .i64 (S.k.tg:Nat)):=fun W' hw => by rw [hSd] at hw; exact (h1.below hw).c22
 have s23 : ∀ W',S' W' -> W'.cell? ⟨D,23,none⟩ = some (.int .i64 (S.k.kind:Nat)):=fun W' hw => by rw [hSd] at hw; exact (h1.below hw).c23
 have s24 : ∀ W',S' W' -> W'.cell? ⟨D,24,none⟩ = some (.slice pt S.k.tag.length ct):=fun W' hw => by rw [hSd] at hw; rw [<- et]; exact (h1.below hw).c24
 have s25 : ∀ W',S' W' -> W'.cell? ⟨D,25,none⟩ = some (.slice pb S.k.attrs.length cb):=fun W' hw => by rw [hSd] at hw; rw [<- eb]; exact (h1.below hw).c25
 have sV : ∀ W',S' W' -> (convert 22 9 (.slice pt S.k.tag.length ct)).run Tryd.prog W' = .ok (.string ⟨S.k.tag.toArray⟩) W':=fun W' hw => by rw [hSd] at hw; rw [<- et]; exact (h1.below hw).tag.conv
 obtain ⟨P,hP⟩ : ∃ P,pla S.pl f n S.k.tg=P:=⟨_,rfl⟩
 obtain ⟨Q,hQ⟩ : ∃ Q,pla S.pl f n S.k.ps=Q:=⟨_,rfl⟩
 have cP1 : ∀ W',S' W' -> Calls Tryd.prog 40 #[.pointer (some ⟨D,0,none⟩), .int .i64 (S.k.tg:Nat)] W' fun e w' => e = .returned (plaV P) /\ Below W'.heap.size W' w':=fun W' hw => by
  rw [hSd] at hw; rw [<- hP]; exact placeOf_anyE (h1.below hw) S.k.tg hf (by omega) (by omega) (by omega)
 have cP2 : ∀ W',S' W' -> Calls Tryd.prog 40 #[.pointer (some ⟨D,0,none⟩), .int .i64 (S.k.ps:Nat)] W' fun e w' => e = .returned (plaV Q) /\ Below W'.heap.size W' w':=fun W' hw => by
  rw [hSd] at hw; rw [<- hQ]; exact placeOf_anyE (h1.below hw) S.k.ps hf hps (by omega) (by omega)
 unfold plaV at cP1 cP2
 rw [hP,hQ,eb]
 obtain ⟨Mid,hMid⟩ : ∃ Mid:Act -> World -> Prop,Mid=fun a' W' => a'.defers = [] /\ a'.tmps.size=49 /\ a'.tmps[0]? = some (.pointer (some ⟨D,0,none⟩)) /\ a'.tmps[2]? = some (.pointer (some ⟨w.heap.size,0,none⟩)) /\ ∃ T,a'.tmps[3]? = some (.pointer (some ⟨T,0,none⟩)) /\ S' W' /\ WR.heap.size <= T /\ W'.heap[T]? = some (.cells (tokA S.k.kind S.k.tag (.slice pb S.k.attrs.length cb) [] P Q) 43 (0,0)):=⟨_,rfl⟩
 have HMid:=hide' hMid
 have HSD:=hide' hSd
 have H1:=hide' h1
 have HCT:=hide' hcT
 have H0:=hide' h
 have HBEL:=hide' hbel
 have HEB:=hide' eb
 clear hMid hSd h h1 hcT hbel hf hpl et hP hQ eb
 go_enter Tryd.func25,Tryd.ntmps25
 go_wp2_with fail
 change Code.wp _ _ _ _ (World.alloc w (.cells tok0 43))
 rw [<- hWR]
 clear hWR
 refine wp_mono (Q:=Exit.then Mid (fun _ _ _ => False)) ?_ ?_
 . refine wp_region_held_drew (S:=S') (by kernel_rfl) hS0 (fun hHeld => ?_)
   simp only [List.size_toArray,List.length_cons,List.length_nil,Nat.reduceAdd]
   generalize WR.drew=W0 at hHeld hS0 ⊢
   clear hS0
   refine wpAnyH_take (i:=0) (v := .pointer (some ⟨D,0,none⟩)) rfl (by kernel_rfl) (by kernel_rfl) (by kernel_rfl) (fun _ _ _ h => h) (Or.inl ⟨by rfl, ?y0⟩) (by assumption) ?_
   case y0 => (intro w' hSw; have q16:=s16 w' hSw; have q22:=s22 w' hSw; have q23:=s23 w' hSw; have q24:=s24 w' hSw; have q25:=s25 w' hSw; have qV:=sV w' hSw; go_simp; try rfl)
   try simp only [List.getElem_toArray,List.getElem_cons_zero,Act.put,List.setIfInBounds_toArray,List.set_cons_zero,List.set_cons_succ]
   refine wpAnyH_take (i:=1) (v := .pointer (some ⟨D,0,none⟩)) rfl (by kernel_rfl) (by kernel_rfl) (by kernel_rfl) (fun _ _ _ h => h) (Or.inl ⟨by rfl, ?y1⟩) (by assumption) ?_
   case y1 => (intro w' hSw; have q16:=s16 w' hSw; have q22:=s22 w' hSw; have q23:=s23 w' hSw; have q24:=s24 w' hSw; have q25:=s25 w' hSw; have qV:=sV w' hSw; go_simp; try rfl)
   try simp only [List.getElem_toArray,List.getElem_cons_zero,List.getElem_cons_succ,Act.put,List.setIfInBounds_toArray,List.set_cons_zero,List.set_cons_succ]
   refine wpAnyH_take (i:=2) (v := .pointer (some ⟨D,6,none⟩)) rfl (by kernel_rfl) (by kernel_rfl) (by kernel_rfl) (fun _ _ _ h => h) (Or.inl ⟨by rfl, ?y2⟩) (by assumption) ?_
   case y2 => (intro w' hSw; have q16:=s16 w' hSw; have q22:=s22 w' hSw; have q23:=s23 w' hSw; have q24:=s24 w' hSw; have q25:=s25 w' hSw; have qV:=sV w' hSw; go_simp; try rfl)
   try simp only [List.getElem_toArray,List.getElem_cons_zero,List.getElem_cons_succ,Act.put,List.setIfInBounds_toArray,List.set_cons_zero,List.set_cons_succ]
   refine wpAnyH_take (i:=3) (v := .pointer (some ⟨D,23,none⟩)) rfl (by kernel_rfl) (by kernel_rfl) (by kernel_rfl) (fun _ _ _ h => h) (Or.inl ⟨by rfl, ?y3⟩) (by assumption) ?_
   case y3 => (intro w' hSw; have q16:=s16 w' hSw; have q22:=s22 w' hSw; have q23:=s23 w' hSw; have q24:=s24 w' hSw; have q25:=s25 w' hSw; have qV:=sV w' hSw; go_simp; try rfl)
   try simp only [List.getElem_toArray,List.getElem_cons_zero,List.getElem_cons_succ,Act.put,List.setIfInBounds_toArray,List.set_cons_zero,List.set_cons_succ]
   refine wpAnyH_take (i:=4) (v := .int .i64 (S.k.kind:Nat)) rfl (by kernel_rfl) (by kernel_rfl) (by kernel_rfl) (fun _ _ _ h => h) (Or.inl ⟨by rfl, ?y4⟩) (by assumption) ?_
   case y4 => (intro w' hSw; have q16:=s16 w' hSw; have q22:=s22 w' hSw; have q23:=s23 w' hSw; have q24:=s24 w' hSw; have q25:=s25 w' hSw; have qV:=sV w' hSw; go_simp; try rfl)
   try simp only [List.getElem_toArray,List.getElem_cons_zero,List.getElem_cons_succ,Act.put,List.setIfInBounds_toArray,List.set_cons_zero,List.set_cons_succ]
   refine wpAnyH_take (i:=5) (v := .pointer (some ⟨D,0,none⟩)) rfl (by kernel_rfl) (by kernel_rfl) (by kernel_rfl) (fun _ _ _ h => h) (Or.inl ⟨by rfl, ?y5⟩) (by assumption) ?_
   case y5 => (intro w' hSw; have q16:=s16 w' hSw; have q22:=s22 w' hSw; have q23:=s23 w' hSw; have q24:=s24 w' hSw; have q25:=s25 w' hSw; have qV:=sV w' hSw; go_simp; try rfl)
   try simp only [List.getElem_toArray,List.getElem_cons_zero,List.getElem_cons_succ,Act.put,List.setIfInBounds_toArray,List.set_cons_zero,List.set_cons_succ]
   refine wpAnyH_take (i:=6) (v := .pointer (some ⟨D,0,none⟩)) rfl (by kernel_rfl) (by kernel_rfl) (by kernel_rfl) (fun _ _ _ h => h) (Or.inl ⟨by rfl, ?y6⟩) (by assumption) ?_
   case y6 => (intro w' hSw; have q16:=s16 w' hSw; have q22:=s22 w' hSw; have q23:=s23 w' hSw; have q24:=s24 w' hSw; have q25:=s25 w' hSw; have qV:=sV w' hSw; go_simp; try rfl)
   try simp only [List.getElem_toArray,List.getElem_cons_zero,List.getElem_cons_succ,Act.put,List.setIfInBounds_toArray,List.set_cons_zero,List.set_cons_succ]
   refine wpAnyH_take (i:=7) (v := .pointer (some ⟨D,6,none⟩)) rfl (by kernel_rfl) (by kernel_rfl) (by kernel_rfl) (fun _ _ _ h => h) (Or.inl ⟨by rfl, ?y7⟩) (by assumption) ?_
   case y7 => (intro w' hSw; have q16:=s16 w' hSw; have q22:=s22 w' hSw; have q23:=s23 w' hSw; have q24:=s24 w' hSw; have q25:=s25 w' hSw; have qV:=sV w' hSw; go_simp; try rfl)
   try simp only [List.getElem_toArray,List.getElem_cons_zero,List.getElem_cons_succ,Act.put,List.setIfInBounds_toArray,List.set_cons_zero,List.set_cons_succ]
   refine wpAnyH_take (i:=8) (v := .pointer (some ⟨D,24,none⟩)) rfl (by kernel_rfl) (by kernel_rfl) (by kernel_rfl) (fun _ _ _ h => h) (Or.inl ⟨by rfl, ?y8⟩) (by assumption) ?_
   case y8 => (intro w' hSw; have q16:=s16 w' hSw; have q22:=s22 w' hSw; have q23:=s23 w' hSw; have q24:=s24 w' hSw; have q25:=s25 w' hSw; have qV:=sV w' hSw; go_simp; try rfl)
   try simp only [List.getElem_toArray,List.getElem_cons_zero,List.getElem_cons_succ,Act.put,List.setIfInBounds_toArray,List.set_cons_zero,List.set_cons_succ]
   refine wpAnyH_take (i:=9) (v := .slice pt S.k.tag.length ct) rfl (by kernel_rfl) (by kernel_rfl) (by kernel_rfl) (fun _ _ _ h => h) (Or.inl ⟨by rfl, ?y9⟩) (by assumption) ?_
   case y9 => (intro w' hSw; have q16:=s16 w' hSw; have q22:=s22 w' hSw; have q23:=s23 w' hSw; have q24:=s24 w' hSw; have q25:=s25 w' hSw; have qV:=sV w' hSw; go_simp; try rfl)
   try simp only [List.getElem_toArray,List.getElem_cons_zero,List.getElem_cons_succ,Act.put,List.setIfInBounds_toArray,List.set_cons_zero,List.set_cons_succ]
   refine wpAnyH_take (i:=10) (v := .string ⟨S.k.tag.toArray⟩) rfl (by kernel_rfl) (by kernel_rfl) (by kernel_rfl) (fun _ _ _ h => h) (Or.inl ⟨by rfl, ?y10⟩) (by assumption) ?_
   case y10 => (intro w' hSw; have q16:=s16 w' hSw; have q22:=s22 w' hSw; have q23:=s23 w' hSw; have q24:=s24 w' hSw; have q25:=s25 w' hSw; have qV:=sV w' hSw; go_simp; try rfl)
   try simp only [List.getElem_toArray,List.getElem_cons_zero,List.getElem_cons_succ,Act.put,List.setIfInBounds_toArray,List.set_cons_zero,List.set_cons_succ]
   refine wpAnyH_take (i:=11) (v := .pointer (some ⟨D,0,none⟩)) rfl (by kernel_rfl) (by kernel_rfl) (by kernel_rfl) (fun _ _ _ h => h) (Or.inl ⟨by rfl, ?y11⟩) (by assumption) ?_
   case y11 => (intro w' hSw; have q16:=s16 w' hSw; have q22:=s22 w' hSw; have q23:=s23 w' hSw; have q24:=s24 w' hSw; have q25:=s25 w' hSw; have qV:=sV w' hSw; go_simp; try rfl)
   try simp only [List.getElem_toArray,List.getElem_cons_zero,List.getElem_cons_succ,Act.put,List.setIfInBounds_toArray,List.set_cons_zero,List.set_cons_succ]
   refine wpAnyH_take (i:=12) (v := .pointer (some ⟨D,0,none⟩)) rfl (by kernel_rfl) (by kernel_rfl) (by kernel_rfl) (fun _ _ _ h => h) (Or.inl ⟨by rfl, ?y12⟩) (by assumption) ?_
   case y12 => (intro w' hSw; have q16:=s16 w' hSw; have q22:=s22 w' hSw; have q23:=s23 w' hSw; have q24:=s24 w' hSw; have q25:=s25 w' hSw; have qV:=sV w' hSw; go_simp; try rfl)
   try simp only [List.getElem_toArray,List.getElem_cons_zero,List.getElem_cons_succ,Act.put,List.setIfInBounds_toArray,List.set_cons_zero,List.set_cons_succ]
   refine wpAnyH_take (i:=13) (v := .pointer (some ⟨D,6,none⟩)) rfl (by kernel_rfl) (by kernel_rfl) (by kernel_rfl) (fun _ _ _ h => h) (Or.inl ⟨by rfl, ?y13⟩) (by assumption) ?_
   case y13 => (intro w' hSw; have q16:=s16 w' hSw; have q22:=s22 w' hSw; have q23:=s23 w' hSw; have q24:=s24 w' hSw; have q25:=s25 w' hSw; have qV:=sV w' hSw; go_simp; try rfl)
   try simp only [List.getElem_toArray,List.getElem_cons_zero,List.getElem_cons_succ,Act.put,List.setIfInBounds_toArray,List.set_cons_zero,List.set_cons_succ]
   refine wpAnyH_take (i:=14) (v := .pointer (some ⟨D,25,none⟩)) rfl (by kernel_rfl) (by kernel_rfl) (by kernel_rfl) (fun _ _ _ h => h) (Or.inl ⟨by rfl, ?y14⟩) (by assumption) ?_
   case y14 => (intro w' hSw; have q16:=s16 w' hSw; have q22:=s22 w' hSw; have q23:=s23 w' hSw; have q24:=s24 w' hSw; have q25:=s25 w' hSw; have qV:=sV w' hSw; go_simp; try rfl)
   try simp only [List.getElem_toArray,List.getElem_cons_zero,List.getElem_cons_succ,Act.put,List.setIfInBounds_toArray,List.set_cons_zero,List.set_cons_succ]
   refine wpAnyH_take (i:=15) (v := .slice pb S.k.attrs.length cb) rfl (by kernel_rfl) (by kernel_rfl) (by kernel_rfl) (fun _ _ _ h => h) (Or.inl ⟨by rfl, ?y15⟩) (by assumption) ?_
   case y15 => (intro w' hSw; have q16:=s16 w' hSw; have q22:=s22 w' hSw; have q23:=s23 w' hSw; have q24:=s24 w' hSw; have q25:=s25 w' hSw; have qV:=sV w' hSw; go_simp; try rfl)
   try simp only [List.getElem_toArray,List.getElem_cons_zero,List.getElem_cons_succ,Act.put,List.setIfInBounds_toArray,List.set_cons_zero,List.set_cons_succ]
   refine wpAnyH_take (i:=16) (v := .pointer (some ⟨D,0,none⟩)) rfl (by kernel_rfl) (by kernel_rfl) (by kernel_rfl) (fun _ _ _ h => h) (Or.inl ⟨by rfl, ?y16⟩) (by assumption) ?_
   case y16 => (intro w' hSw; have q16:=s16 w' hSw; have q22:=s22 w' hSw; have q23:=s23 w' hSw; have q24:=s24 w' hSw; have q25:=s25 w' hSw; have qV:=sV w' hSw; go_simp; try rfl)
   try simp only [List.getElem_toArray,List.getElem_cons_zero,List.getElem_cons_succ,Act.put,List.setIfInBounds_toArray,List.set_cons_zero,List.set_cons_succ]
   refine wpAnyH_take (i:=17) (v := .pointer (some ⟨D,0,none⟩)) rfl (by kernel_rfl) (by kernel_rfl) (by kernel_rfl) (fun _ _ _ h => h) (Or.inl ⟨by rfl, ?y17⟩) (by assumption) ?_
   case y17 => (intro w' hSw; have q16:=s16 w' hSw; have q22:=s22 w' hSw; have q23:=s23 w' hSw; have q24:=s24 w' hSw; have q25:=s25 w' hSw; have qV:=sV w' hSw; go_simp; try rfl)
   try simp only [List.getElem_toArray,List.getElem_cons_zero,List.getElem_cons_succ,Act.put,List.setIfInBounds_toArray,List.set_cons_zero,List.set_cons_succ]
   refine wpAnyH_take (i:=18) (v := .pointer (some ⟨D,0,none⟩)) rfl (by kernel_rfl) (by kernel_rfl) (by kernel_rfl) (fun _ _ _ h => h) (Or.inl ⟨by rfl, ?y18⟩) (by assumption) ?_
   case y18 => (intro w' hSw; have q16:=s16 w' hSw; have q22:=s22 w' hSw; have q23:=s23 w' hSw; have q24:=s24 w' hSw; have q25:=s25 w' hSw; have qV:=sV w' hSw; go_simp; try rfl)
   try simp only [List.getElem_toArray,List.getElem_cons_zero,List.getElem_cons_succ,Act.put,List.setIfInBounds_toArray,List.set_cons_zero,List.set_cons_succ]
   refine wpAnyH_take (i:=19) (v := .pointer (some ⟨D,6,none⟩)) rfl (by kernel_rfl) (by kernel_rfl) (by kernel_rfl) (fun _ _ _ h => h) (Or.inl ⟨by rfl, ?y19⟩) (by assumption) ?_
   case y19 => (intro w' hSw; have q16:=s16 w' hSw; have q22:=s22 w' hSw; have q23:=s23 w' hSw; have q24:=s24 w' hSw; have q25:=s25 w' hSw; have qV:=sV w' hSw; go_simp; try rfl)
   try simp only [List.getElem_toArray,List.getElem_cons_zero,List.getElem_cons_succ,Act.put,List.setIfInBounds_toArray,List.set_cons_zero,List.set_cons_succ]
   refine wpAnyH_take (i:=20) (v := .pointer (some ⟨D,22,none⟩)) rfl (by kernel_rfl) (by kernel_rfl) (by kernel_rfl) (fun _ _ _ h => h) (Or.inl ⟨by rfl, ?y20⟩) (by assumption) ?_
   case y20 => (intro w' hSw; have q16:=s16 w' hSw; have q22:=s22 w' hSw; have q23:=s23 w' hSw; have q24:=s24 w' hSw; have q25:=s25 w' hSw; have qV:=sV w' hSw; go_simp; try rfl)
   try simp only [List.getElem_toArray,List.getElem_cons_zero,List.getElem_cons_succ,Act.put,List.setIfInBounds_toArray,List.set_cons_zero,List.set_cons_succ]
   refine wpAnyH_take (i:=21) (v := .int .i64 (S.k.tg:Nat)) rfl (by kernel_rfl) (by kernel_rfl) (by kernel_rfl) (fun _ _ _ h => h) (Or.inl ⟨by rfl, ?y21⟩) (by assumption) ?_
   case y21 => (intro w' hSw; have q16:=s16 w' hSw; have q22:=s22 w' hSw; have q23:=s23 w' hSw; have q24:=s24 w' hSw; have q25:=s25 w' hSw; have qV:=sV w' hSw; go_simp; try rfl)
   try simp only [List.getElem_toArray,List.getElem_cons_zero,List.getElem_cons_succ,Act.put,List.setIfInBounds_toArray,List.set_cons_zero,List.set_cons_succ]
   refine wpAnyH_take (i:=23) (v := .pointer (some ⟨D,0,none⟩)) rfl (by kernel_rfl) (by kernel_rfl) (by kernel_rfl) (fun _ _ _ h => h) (Or.inl ⟨by rfl, ?y23⟩) (by assumption) ?_
   case y23 => (intro w' hSw; have q16:=s16 w' hSw; have q22:=s22 w' hSw; have q23:=s23 w' hSw; have q24:=s24 w' hSw; have q25:=s25 w' hSw; have qV:=sV w' hSw; go_simp; try rfl)
   try simp only [List.getElem_toArray,List.getElem_cons_zero,List.getElem_cons_succ,Act.put,List.setIfInBounds_toArray,List.set_cons_zero,List.set_cons_succ]
   refine wpAnyH_take (i:=24) (v := .pointer (some ⟨D,0,none⟩)) rfl (by kernel_rfl) (by kernel_rfl) (by kernel_rfl) (fun _ _ _ h => h) (Or.inl ⟨by rfl, ?y24⟩) (by assumption) ?_
   case y24 => (intro w' hSw; have q16:=s16 w' hSw; have q22:=s22 w' hSw; have q23:=s23 w' hSw; have q24:=s24 w' hSw; have q25:=s25 w' hSw; have qV:=sV w' hSw; go_simp; try rfl)
   try simp only [List.getElem_toArray,List.getElem_cons_zero,List.getElem_cons_succ,Act.put,List.setIfInBounds_toArray,List.set_cons_zero,List.set_cons_succ]
   refine wpAnyH_take (i:=25) (v := .pointer (some ⟨D,0,none⟩)) rfl (by kernel_rfl) (by kernel_rfl) (by kernel_rfl) (fun _ _ _ h => h) (Or.inl ⟨by rfl, ?y25⟩) (by assumption) ?_
   case y25 => (intro w' hSw; have q16:=s16 w' hSw; have q22:=s22 w' hSw; have q23:=s23 w' hSw; have q24:=s24 w' hSw; have q25:=s25 w' hSw; have qV:=sV w' hSw; go_simp; try rfl)
   try simp only [List.getElem_toArray,List.getElem_cons_zero,List.getElem_cons_succ,Act.put,List.setIfInBounds_toArray,List.set_cons_zero,List.set_cons_succ]
   refine wpAnyH_take (i:=26) (v := .pointer (some ⟨D,6,none⟩)) rfl (by kernel_rfl) (by kernel_rfl) (by kernel_rfl) (fun _ _ _ h => h) (Or.inl ⟨by rfl, ?y26⟩) (by assumption) ?_
   case y26 => (intro w' hSw; have q16:=s16 w' hSw; have q22:=s22 w' hSw; have q23:=s23 w' hSw; have q24:=s24 w' hSw; have q25:=s25 w' hSw; have qV:=sV w' hSw; go_simp; try rfl)
   try simp only [List.getElem_toArray,List.getElem_cons_zero,List.getElem_cons_succ,Act.put,List.setIfInBounds_toArray,List.set_cons_zero,List.set_cons_succ]
   refine wpAnyH_take (i:=27) (v := .pointer (some ⟨D,16,none⟩)) rfl (by kernel_rfl) (by kernel_rfl) (by kernel_rfl) (fun _ _ _ h => h) (Or.inl ⟨by rfl, ?y27⟩) (by assumption) ?_
   case y27 => (intro w' hSw; have q16:=s16 w' hSw; have q22:=s22 w' hSw; have q23:=s23 w' hSw; have q24:=s24 w' hSw; have q25:=s25 w' hSw; have qV:=sV w' hSw; go_simp; try rfl)
   try simp only [List.getElem_toArray,List.getElem_cons_zero,List.getElem_cons_succ,Act.put,List.setIfInBounds_toArray,List.set_cons_zero,List.set_cons_succ]
   refine wpAnyH_take (i:=28) (v := .int .i64 (S.k.ps:Nat)) rfl (by kernel_rfl) (by kernel_rfl) (by kernel_rfl) (fun _ _ _ h => h) (Or.inl ⟨by rfl, ?y28⟩) (by assumption) ?_
   case y28 => (intro w' hSw; have q16:=s16 w' hSw; have q22:=s22 w' hSw; have q23:=s23 w' hSw; have q24:=s24 w' hSw; have q25:=s25 w' hSw; have qV:=sV w' hSw; go_simp; try rfl)
   try simp only [List.getElem_toArray,List.getElem_cons_zero,List.getElem_cons_succ,Act.put,List.setIfInBounds_toArray,List.set_cons_zero,List.set_cons_succ]
   refine wpAnyH_ready (rs := [22,31]) (by kernel_rfl) (by simp) ?_
   refine AllReadyH.cons rfl (fun K hK => ?_) ?_
   . try simp only [List.getElem_toArray,List.getElem_cons_zero,List.getElem_cons_succ]
     go_simp
     refine (cP1 _ hHeld).mono ?_
     rintro e W1c ⟨rfl,hb1⟩
     go_wp2_with fail
     have hS1:=hSB _ _ hHeld hb1
     refine hK.out _ _ hS1 (fun hHeld9 => ?_)
     clear hK K hHeld9
     try simp only [List.getElem_toArray,List.getElem_cons_zero,List.getElem_cons_succ,Act.put,List.setIfInBounds_toArray,List.set_cons_zero,List.set_cons_succ]
     refine wpAnyH_ready (rs := [29,31]) (by kernel_rfl) (by simp) ?_
     refine AllReadyH.cons rfl (fun K hK => ?_) ?_
     . try simp only [List.getElem_toArray,List.getElem_cons_zero,List.getElem_cons_succ]
       go_simp
       refine (cP2 _ hS1).mono ?_
       rintro e W2c ⟨rfl,hb2⟩
       go_wp2_with fail
       have hS2:=hSB _ _ hS1 hb2
       refine hK.out _ _ hS2 (fun hHeld9 => ?_)
       clear hK K hHeld9
       try simp only [List.getElem_toArray,List.getElem_cons_zero,List.getElem_cons_succ,Act.put,List.setIfInBounds_toArray,List.set_cons_zero,List.set_cons_succ]
       refine wpAnyH_take (i:=30) (v := .agg (tokA S.k.kind S.k.tag (.slice pb S.k.attrs.length cb) [] P Q)) rfl (by kernel_rfl) (by kernel_rfl) (by kernel_rfl) (fun _ _ _ h => h) (Or.inl ⟨by rfl, ?y30⟩) (by assumption) ?_
       case y30 => (intro w' hSw; have q16:=s16 w' hSw; have q22:=s22 w' hSw; have q23:=s23 w' hSw; have q24:=s24 w' hSw; have q25:=s25 w' hSw; have qV:=sV w' hSw; go_simp; try rfl)
       try simp only [List.getElem_toArray,List.getElem_cons_zero,List.getElem_cons_succ,Act.put,List.setIfInBounds_toArray,List.set_cons_zero,List.set_cons_succ]
       refine wpAnyH_ready (rs := [31]) (by kernel_rfl) (by simp) ?_
       refine AllReadyH.cons rfl (fun K hK => ?_) AllReadyH.nil
       try simp only [List.getElem_toArray,List.getElem_cons_zero,List.getElem_cons_succ]
       go_simp
       have hSa:=hSA _ hS2 (.cells tok0 43)
       have hTa:=heap_alloc_new W2c (.cells tok0 43)
       have hTg:=hSG _ hS2
       refine hK.out _ _ hSa (fun hHeld9 => ?_)
       clear hK K hHeld9
       try simp only [List.getElem_toArray,List.getElem_cons_zero,List.getElem_cons_succ,Act.put,List.setIfInBounds_toArray,List.set_cons_zero,List.set_cons_succ]
       change wpAnyH _ _ _ _ _ _ _ _ (World.alloc W2c (.cells tok0 43))
       generalize W2c.alloc (.cells tok0 43)=W3a at hSa hTa ⊢
       refine wpAnyH_ready (rs := [32]) (by kernel_rfl) (by simp) ?_
       refine AllReadyH.cons rfl (fun K hK => ?_) AllReadyH.nil
       try simp only [List.getElem_toArray,List.getElem_cons_zero,List.getElem_cons_succ]
       rw [if_pos (by rfl)]
       refine wp_store_mid 43 (.tmp 3) (.tmp 34) ?_ W2c.heap.size 0 (tokA S.k.kind S.k.tag (.slice pb S.k.attrs.length cb) [] P Q) ?_ ?_ (there_of hTa 0 12 (Nat.le_refl _)) tokInfo (tokOne _ _ _ _ _ _ _ _) ?_
       . rfl
       . rfl
       . rfl
       refine hK.out _ _ (hSC _ _ hSa hTg) (fun hHeld9 => ?_)
       clear hK K
       try simp only [Act.put]
       refine wpAnyH_done (by kernel_rfl) ?_ _
       show Mid _ _
       rw [HMid.out]
       exact ⟨rfl,rfl,rfl,rfl,W2c.heap.size,rfl,hHeld9,hTg,by have:=heap_setCells (tokA S.k.kind S.k.tag (.slice pb S.k.attrs.length cb) [] P Q).toList 0 _ _ hTa; rw [tok_set] at this; exact this⟩
     refine AllReadyH.cons rfl (fun K hK => ?_) AllReadyH.nil
     try simp only [List.getElem_toArray,List.getElem_cons_zero,List.getElem_cons_succ]
     go_simp
     have hSa:=hSA _ hS1 (.cells tok0 43)
     have hTa:=heap_alloc_new W1c (.cells tok0 43)
     have hTg:=hSG _ hS1
     refine hK.out _ _ hSa (fun hHeld9 => ?_)
     clear hK K hHeld9
     try simp only [List.getElem_toArray,List.getElem_cons_zero,List.getElem_cons_succ,Act.put,List.setIfInBounds_toArray,List.set_cons_zero,List.set_cons_succ]
     change wpAnyH _ _ _ _ _ _ _ _ (World.alloc W1c (.cells tok0 43))
     generalize W1c.alloc (.cells tok0 43)=W2a at hSa hTa ⊢
     refine wpAnyH_ready (rs := [29]) (by kernel_rfl) (by simp) ?_
     refine AllReadyH.cons rfl (fun K hK => ?_) AllReadyH.nil
     try simp only [List.getElem_toArray,List.getElem_cons_zero,List.getElem_cons_succ]
     go_simp
     refine (cP2 _ hSa).mono ?_
     rintro e W3c ⟨rfl,hb3⟩
     go_wp2_with fail
     have hS3:=hSB _ _ hSa hb3
     have hT3:=(hb3.block _ (heap_lt hTa)).trans hTa
     refine hK.out _ _ hS3 (fun hHeld9 => ?_)
     clear hK K hHeld9
     try simp only [List.getElem_toArray,List.getElem_cons_zero,List.getElem_cons_succ,Act.put,List.setIfInBounds_toArray,List.set_cons_zero,List.set_cons_succ]
     refine wpAnyH_take (i:=30) (v := .agg (tokA S.k.kind S.k.tag (.slice pb S.k.attrs.length cb) [] P Q)) rfl (by kernel_rfl) (by kernel_rfl) (by kernel_rfl) (fun _ _ _ h => h) (Or.inl ⟨by rfl, ?y30⟩) (by assumption) ?_
     case y30 => (intro w' hSw; have q16:=s16 w' hSw; have q22:=s22 w' hSw; have q23:=s23 w' hSw; have q24:=s24 w' hSw; have q25:=s25 w' hSw; have qV:=sV w' hSw; go_simp; try rfl)
     try simp only [List.getElem_toArray,List.getElem_cons_zero,List.getElem_cons_succ,Act.put,List.setIfInBounds_toArray,List.set_cons_zero,List.set_cons_succ]
     refine wpAnyH_ready (rs := [32]) (by kernel_rfl) (by simp) ?_
     refine AllReadyH.cons rfl (fun K hK => ?_) AllReadyH.nil
     try simp only [List.getElem_toArray,List.getElem_cons_zero,List.getElem_cons_succ]
     rw [if_pos (by rfl)]
     refine wp_store_mid 43 (.tmp 3) (.tmp 34) ?_ W1c.heap.size 0 (tokA S.k.kind S.k.tag (.slice pb S.k.attrs.length cb) [] P Q) ?_ ?_ (there_of hT3 0 12 (Nat.le_refl _)) tokInfo (tokOne _ _ _ _ _ _ _ _) ?_
     . rfl
     . rfl
     . rfl
     refine hK.out _ _ (hSC _ _ hS3 hTg) (fun hHeld9 => ?_)
     clear hK K
     try simp only [Act.put]
     refine wpAnyH_done (by kernel_rfl) ?_ _
     show Mid _ _
     rw [HMid.out]
     exact ⟨rfl,rfl,rfl,rfl,W1c.heap.size,rfl,hHeld9,hTg,by have:=heap_setCells (tokA S.k.kind S.k.tag (.slice pb S.k.attrs.length cb) [] P Q).toList 0 _ _ hT3; rw [tok_set] at this; exact this⟩
   refine AllReadyH.cons rfl (fun K hK => ?_) AllReadyH.nil
   try simp only [List.getElem_toArray,List.getElem_cons_zero,List.getElem_cons_succ]
   go_simp
   have hSa:=hSA _ hHeld (.cells tok0 43)
   have hTa:=heap_alloc_new W0 (.cells tok0 43)
   have hTg:=hSG _ hHeld
   refine hK.out _ _ hSa (fun hHeld9 => ?_)
   clear hK K hHeld9
   try simp only [List.getElem_toArray,List.getElem_cons_zero,List.getElem_cons_succ,Act.put,List.setIfInBounds_toArray,List.set_cons_zero,List.set_cons_succ]
   change wpAnyH _ _ _ _ _ _ _ _ (World.alloc W0 (.cells tok0 43))
   generalize W0.alloc (.cells tok0 43)=W1a at hSa hTa ⊢
   refine wpAnyH_ready (rs := [22]) (by kernel_rfl) (by simp) ?_
   refine AllReadyH.cons rfl (fun K hK => ?_) AllReadyH.nil
   try simp only [List.getElem_toArray,List.getElem_cons_zero,List.getElem_cons_succ]
   go_simp
   refine (cP1 _ hSa).mono ?_
   rintro e W2c ⟨rfl,hb2⟩
   go_wp2_with fail
   have hS2:=hSB _ _ hSa hb2
   have hT2:=(hb2.block _ (heap_lt hTa)).trans hTa
   refine hK.out _ _ hS2 (fun hHeld9 => ?_)
   clear hK K hHeld9
   try simp only [List.getElem_toArray,List.getElem_cons_zero,List.getElem_cons_succ,Act.put,List.setIfInBounds_toArray,List.set_cons_zero,List.set_cons_succ]
   refine wpAnyH_ready (rs := [29]) (by kernel_rfl) (by simp) ?_
   refine AllReadyH.cons rfl (fun K hK => ?_) AllReadyH.nil
   try simp only [List.getElem_toArray,List.getElem_cons_zero,List.getElem_cons_succ]
   go_simp
   refine (cP2 _ hS2).mono ?_
   rintro e W3c ⟨rfl,hb3⟩
   go_wp2_with fail
   have hS3:=hSB _ _ hS2 hb3
   have hT3:=(hb3.block _ (heap_lt hT2)).trans hT2
   refine hK.out _ _ hS3 (fun hHeld9 => ?_)
   clear hK K hHeld9
   try simp only [List.getElem_toArray,List.getElem_cons_zero,List.getElem_cons_succ,Act.put,List.setIfInBounds_toArray,List.set_cons_zero,List.set_cons_succ]
   refine wpAnyH_take (i:=30) (v := .agg (tokA S.k.kind S.k.tag (.slice pb S.k.attrs.length cb) [] P Q)) rfl (by kernel_rfl) (by kernel_rfl) (by kernel_rfl) (fun _ _ _ h => h) (Or.inl ⟨by rfl, ?y30⟩) (by assumption) ?_
   case y30 => (intro w' hSw; have q16:=s16 w' hSw; have q22:=s22 w' hSw; have q23:=s23 w' hSw; have q24:=s24 w' hSw; have q25:=s25 w' hSw; have qV:=sV w' hSw; go_simp; try rfl)
   try simp only [List.getElem_toArray,List.getElem_cons_zero,List.getElem_cons_succ,Act.put,List.setIfInBounds_toArray,List.set_cons_zero,List.set_cons_succ]
   refine wpAnyH_ready (rs := [32]) (by kernel_rfl) (by simp) ?_
   refine AllReadyH.cons rfl (fun K hK => ?_) AllReadyH.nil
   try simp only [List.getElem_toArray,List.getElem_cons_zero,List.getElem_cons_succ]
   rw [if_pos (by rfl)]
   refine wp_store_mid 43 (.tmp 3) (.tmp 34) ?_ W0.heap.size 0 (tokA S.k.kind S.k.tag (.slice pb S.k.attrs.length cb) [] P Q) ?_ ?_ (there_of hT3 0 12 (Nat.le_refl _)) tokInfo (tokOne _ _ _ _ _ _ _ _) ?_
   . rfl
   . rfl
   . rfl
   refine hK.out _ _ (hSC _ _ hS3 hTg) (fun hHeld9 => ?_)
   clear hK K
   try simp only [Act.put]
   refine wpAnyH_done (by kernel_rfl) ?_ _
   show Mid _ _
   rw [HMid.out]
   exact ⟨rfl,rfl,rfl,rfl,W0.heap.size,rfl,hHeld9,hTg,by have:=heap_setCells (tokA S.k.kind S.k.tag (.slice pb S.k.attrs.length cb) [] P Q).toList 0 _ _ hT3; rw [tok_set] at this; exact this⟩
 . intro e a' W' hM
   cases e with
   | normal =>
     have hM':Mid a' W':=hM
     rw [HMid.out] at hM'
     obtain ⟨q1,q2,q3,q5,T,q6,hSW,hTg,hTc⟩:=hM'
     obtain ⟨tm,df⟩:=a'
     simp only at q1 q2 q3 q5 q6
     subst q1
     clear hM
     revert q3 q5 q6
     revert tm
     refine frame49 ?_
     intro v0 v1 v2 v3 v4 v5 v6 v7 v8 v9 v10 v11 v12 v13 v14 v15 v16 v17 v18 v19 v20 v21 v22 v23 v24 v25 v26 v27 v28 v29 v30 v31 v32 v33 v34 v35 v36 v37 v38 v39 v40 v41 v42 v43 v44 v45 v46 v47 v48 q3 q5 q6
     have q7:v0 = .pointer (some ⟨D,0,none⟩):=by simpa using q3
     subst q7
     have q8:v2 = .pointer (some ⟨w.heap.size,0,none⟩):=by simpa using q5
     subst q8
     have q9:v3 = .pointer (some ⟨T,0,none⟩):=by simpa using q6
     subst q9
     clear q3 q5 q6 s16 s22 s23 s24 s25 sV cP1 cP2 hSB hSA hSG hSC hS0
     rw [HSD.out] at hSW
     have h2:=(H1.out.below hSW).drew
     have hlt:=h2.lt0
     have hTlt:T < W'.heap.size:=heap_lt hTc
     have hwT:w.heap.size < WR.heap.size:=heap_lt HCT.out
     have hT0:W'.heap[w.heap.size]? = some (.cells tok0 43 (0,0)):=(hSW.block _ hwT).trans HCT.out
     have hfl : ∀ q,some q ∈ foot D R -> q < w.heap.size:=fun q hq => (H0.out.lt q hq).2
     have hTD:T ≠ D:=by have:=H0.out.lt0; omega
     have hTc2 : ∀ X:World,X.heap[T]? = W'.heap[T]? -> X.cell? ⟨T,8,none⟩ = some (.int .i64 (Q.1:Nat)) /\ X.cell? ⟨T,9,none⟩ = some (.int .i64 (Q.2.1:Nat)) /\ X.cell? ⟨T,10,none⟩ = some (.int .i64 (Q.2.2.1:Nat)) /\ X.cell? ⟨T,11,none⟩ = some (.int .i64 (Q.2.2.2:Nat)):=fun X hX => by
      have hc:=hX.trans hTc
      exact ⟨by rw [Lib.cell_of_heap hc]; rfl,by rw [Lib.cell_of_heap hc]; rfl,by rw [Lib.cell_of_heap hc]; rfl,by rw [Lib.cell_of_heap hc]; rfl⟩
     have cT:=tell_any h2 S.k.ps Q hps (by omega)
     unfold plaV at cT
     have CT:Hid (Calls Tryd.prog 41 #[.pointer (some ⟨D,0,none⟩), .int .i64 (S.k.ps:Nat), .agg #[.int .i64 (Q.1:Nat), .int .i64 (Q.2.1:Nat), .int .i64 (Q.2.2.1:Nat), .int .i64 (Q.2.2.2:Nat)]] W'.drew fun e w'' => e = .returned (.tuple #[]) /\ (w''.cell? ⟨D,16,none⟩ = some (.int .i64 (S.k.ps:Nat)) /\ w''.cell? ⟨T,8,none⟩ = some (.int .i64 (Q.1:Nat)) /\ w''.cell? ⟨T,9,none⟩ = some (.int .i64 (Q.2.1:Nat)) /\ w''.cell? ⟨T,10,none⟩ = some (.int .i64 (Q.2.2.1:Nat)) /\ w''.cell? ⟨T,11,none⟩ = some (.int .i64 (Q.2.2.2:Nat))) /\ ∃ R',SCe w'' D B (Rn.off f S.k.ps) (n - S.k.ps) { S with pl:=Q } R' /\ To D R W'.drew R' w'' /\ R' = { R with rest:=R'.rest }):=by
      refine cT.mono ?_
      rintro e w'' ⟨rfl,R',t1,t2,t3⟩
      have hTT:w''.heap[T]? = W'.heap[T]? := t2.mv.block T hTlt fun hq => by have:=hfl T hq; omega
      exact ⟨rfl,⟨t1.c16,(hTc2 w'' hTT).1,(hTc2 w'' hTT).2.1,(hTc2 w'' hTT).2.2.1,(hTc2 w'' hTT).2.2.2⟩,R',t1,t2,t3⟩
     have xx:W'.drew.cell? ⟨D,16,none⟩ = some (.int .i64 (S.k.ps:Nat)) /\ W'.drew.cell? ⟨T,8,none⟩ = some (.int .i64 (Q.1:Nat)) /\ W'.drew.cell? ⟨T,9,none⟩ = some (.int .i64 (Q.2.1:Nat)) /\ W'.drew.cell? ⟨T,10,none⟩ = some (.int .i64 (Q.2.2.1:Nat)) /\ W'.drew.cell? ⟨T,11,none⟩ = some (.int .i64 (Q.2.2.2:Nat)):=⟨h2.c16,(hTc2 W'.drew rfl).1,(hTc2 W'.drew rfl).2.1,(hTc2 W'.drew rfl).2.2.1,(hTc2 W'.drew rfl).2.2.2⟩
     have HTC:=hide' hTc
     have HT0:=hide' hT0
     have HSW:=hide' hSW
     have HTG:=hide' hTg
     have HFL:=hide' hfl
     have HTL:=hide' hTlt
     have HWT:=hide' hwT
     clear cT h2 hlt hTc2 hTc hT0 hSW hTg hfl hTlt hTD hwT
     go_wp2_with fail
     go_region_held (fun w' => w'.cell? ⟨D,16,none⟩ = some (.int .i64 (S.k.ps:Nat)) /\ w'.cell? ⟨T,8,none⟩ = some (.int .i64 (Q.1:Nat)) /\ w'.cell? ⟨T,9,none⟩ = some (.int .i64 (Q.2.1:Nat)) /\ w'.cell? ⟨T,10,none⟩ = some (.int .i64 (Q.2.2.1:Nat)) /\ w'.cell? ⟨T,11,none⟩ = some (.int .i64 (Q.2.2.2:Nat))) (first | (with_reducible exact xx) | (with_reducible exact zz)) (first | (go_at_call 41; refine CT.out.mono ?_; rintro e W3 ⟨rfl,zz,hrest⟩))
     obtain ⟨R3,hS3,hTo3,hR3⟩:=hrest
     have HS3:=hide' hS3
     have HTO3:=hide' hTo3
     have HR3:=hide' hR3
     obtain ⟨X1,hX1⟩ : ∃ X1,X1=W3.setCells D 6 walk0.toList:=⟨_,rfl⟩
     have HX1:=hide' hX1
     clear hX1
     clear hS3 hTo3 hR3 zz xx CT htg hps hbig
     go_wp2_with (first | (refine wpList_store_mid rfl 57 (.tmp 47) (.tmp 45) rfl D 6 walk0 rfl rfl (there_of HS3.out.cell 6 24 (by simp [cells])) walkInfo walk0One ?_; rw [<- HX1.out]) | refine wpList_load_mid rfl 43 (.tmp 3) rfl T 0 rfl (tokA S.k.kind S.k.tag (.slice pb S.k.attrs.length cb) [] P Q).toList _ (tag_fin H0.out HBEL.out HSW.out HWT.out HTG.out HTL.out HTC.out HT0.out HEB.out HS3.out HTO3.out HR3.out HX1.out).1 Tryd.underlying43 rfl tokInfo ?_ | refine wpList_store_mid rfl 43 (.tmp 2) (.tmp 48) rfl w.heap.size 0 (tokA S.k.kind S.k.tag (.slice pb S.k.attrs.length cb) [] P Q) rfl rfl (tag_fin H0.out HBEL.out HSW.out HWT.out HTG.out HTL.out HTC.out HT0.out HEB.out HS3.out HTO3.out HR3.out HX1.out).2.1 tokInfo (tokOne _ _ _ _ _ _ _ _) ?_)
     have tf:=tag_fin H0.out HBEL.out HSW.out HWT.out HTG.out HTL.out HTC.out HT0.out HEB.out HS3.out HTO3.out HR3.out HX1.out
     exact bodyPost_ret (v := .agg (tokA S.k.kind S.k.tag (.slice pb S.k.attrs.length cb) [] P Q)) (results_cell Tryd.results25 _ ⟨w.heap.size,0,none⟩ rfl _ _ tf.2.2.1) rfl ⟨rfl,tf.2.2.2⟩
   | _ => exact hM.elim
end
end Sc
end Go.Proofs.YteiiepjegdlbeaaDoor
