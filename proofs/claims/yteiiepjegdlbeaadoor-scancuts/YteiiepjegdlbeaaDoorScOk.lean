import Derived.Test.YteiiepjegdlbeaaDoorScMono
set_option maxHeartbeats 2000000
namespace Go.Proofs.YteiiepjegdlbeaaDoor
open Go.RowKit Go.Lib
namespace Sc
theorem step_le {inn:Nat} {nm:List UInt8} {f:Nat -> Nat} {n1 n:Nat} {s:Wk} (hn:n1 <= n) : step inn nm f n1 s=step inn nm f n s \/ step inn nm f n1 s=none:=by
 cases h:step inn nm f n1 s with
 | none => exact .inr rfl
 | some t => exact .inl (step_more (fun _ _ => rfl) hn h).symm
theorem nx_in0 {f:Nat -> Nat} {n a:Nat} {c:Int} {sg:List Nat} (h:(nx f n a c sg).1=0) : 0 < (nx f n a c sg).2.2 /\ a + (nx f n a c sg).2.2 <= n:=by
 unfold nx at h ⊢
 split at h
 . next hc =>
   rw [if_pos hc]
   obtain ⟨q1,q2,q3,q4,q5,q6⟩:=Fd.pk_have (r:=(Fd.pk f n a false).1) (a:=(Fd.pk f n a false).2.1) (w:=(Fd.pk f n a false).2.2.1) (by rw [<- hc.1])
   have hl:=Fd.whole_lt q6
   exact ⟨q2,q3.bound (by omega)⟩
 . split at h
   . cases h
   . split at h <;> cases h
theorem nx_in2 {f:Nat -> Nat} {n a:Nat} {c:Int} {sg:List Nat} (h:(nx f n a c sg).1=2) : a <= (nx f n a c sg).2.1 /\ (nx f n a c sg).2.1 < n:=by
 unfold nx at h ⊢
 split at h
 . cases h
 . next h0 =>
   rw [if_neg h0]
   split at h
   . cases h
   . next h1 =>
     rw [if_neg h1]
     split at h
     . next h2 =>
       rw [if_pos h2]
       exact ⟨Nat.le_add_right _ _,by show a + gd f n a c < n; omega⟩
     . cases h
theorem onNx_bad {f:Nat -> Nat} {n:Nat} {c:Int} {sg:List Nat} {s t:Wk} {k:Nat -> Wk -> Wk} (h:onNx (nx f n s.ps c sg) s k=some t) (h2:t.how=2) (hk : ∀ r s',s'.fr < n -> s'.how=1 -> (k r s').how=2 -> (k r s').bad < n) (h1:s.how=1) : t.bad < n:=by
 unfold onNx at h
 split at h
 . next h0 =>
   cases h
   have:=nx_in0 h0
   exact hk _ _ (by show s.ps < n; omega) h1 h2
 . split at h
   . next h0 =>
     cases h
     exact (nx_in2 h0).2
   . cases h
theorem onRef_bad {f:Nat -> Nat} {n:Nat} {s t:Wk} {k:Nat -> Wk -> Wk} (h:onRef f n s k=some t) (h2:t.how=2) (hk : ∀ r s',s'.how=1 -> (k r s').how=1) (h1:s.how=1) : t.bad < n:=by
 unfold onRef at h
 split at h
 . cases h
 . split at h
   . cases h
     show s.ps < n
     omega
   . split at h
     . cases h
       have:=hk (Rf.rd (Rn.lf (s.ref ++ [(f s.ps).toUInt8])) (s.ref.length + 1)).1 { s with ref:=s.ref ++ [(f s.ps).toUInt8],ps:=s.ps + 1 } h1
       omega
     . cases h
       have:s.how=2:=h2
       omega
theorem step_bad {inn:Nat} {nm:List UInt8} {f:Nat -> Nat} {n:Nat} {s t:Wk} (h:step inn nm f n s=some t) (h1:s.how=1) (h2:t.how=2) : t.bad < n:=by
 unfold step at h
 split at h
 case h_2 => exact onRef_bad h h2 (fun r s' e => e) h1
 case h_18 => exact onRef_bad h h2 (fun r s' e => e) h1
 case h_14 =>
  split at h
  . next hc =>
    cases h
    exact hc.1
  . refine onNx_bad h h2 (fun r s' q1 q2 q3 => ?_) h1
    revert q3
    repeat' split
    all_goals (intro q3; first | (have:s'.how=2:=q3; omega) | exact q1)
 case h_19 =>
  split at h
  . cases h
    have:s.how=2:=h2
    omega
  . split at h
    . cases h
    . split at h
      . cases h
        show s.ps < n
        omega
      . cases h
        have:s.how=2:=h2
        omega
 all_goals
  refine onNx_bad h h2 (fun r s' q1 q2 q3 => ?_) h1
  revert q3
  try repeat' split
  all_goals (intro q3; first | exact q1 | (have:s'.how=2:=q3; omega) | (simp [Wk.whole] at q3))
theorem Steps.less {inn:Nat} {nm:List UInt8} {f:Nat -> Nat} {n1 n:Nat} {s t:Wk} (hn:n1 <= n) (h:Steps inn nm f n s t) (ht:t.how=1) : ∃ u,Steps inn nm f n1 s u /\ u.how=1 /\ (step inn nm f n1 u=none \/ u=t):=by
 induction h with
 | refl s => exact ⟨s, .refl _,ht, .inr rfl⟩
 | @cons s t' u h0 h r ih =>
   rcases step_le (inn:=inn) (nm:=nm) (f:=f) (s:=s) hn with e | e
   . obtain ⟨u',q1,q2,q3⟩:=ih ht
     exact ⟨u', .cons h0 (e.trans h) q1,q2,q3⟩
   . exact ⟨s, .refl _,h0, .inl e⟩
theorem Steps.wait {inn:Nat} {nm:List UInt8} {f:Nat -> Nat} {n:Nat} {s t u:Wk} (h:Steps inn nm f n s t) (ht:t.how=1) (hu:step inn nm f n t=some u) (h2:u.how=2) : ∃ v,Steps inn nm f u.bad s v /\ v.how=1 /\ step inn nm f u.bad v=none:=by
 have hb:=step_bad hu ht h2
 obtain ⟨v,q1,q2,q3⟩:=h.less (Nat.le_of_lt hb) ht
 rcases q3 with q3 | rfl
 . exact ⟨v,q1,q2,q3⟩
 . refine ⟨v,q1,q2, ?_⟩
   rcases step_le (inn:=inn) (nm:=nm) (f:=f) (s:=v) (Nat.le_of_lt hb) with e | e
   . exact absurd (step_bad (e.trans hu) ht h2) (Nat.lt_irrefl _)
   . exact e
theorem nx_there2 {f:Nat -> Nat} {n1 n a:Nat} {c:Int} {sg:List Nat} (hn:n1 <= n) (hc:Cls c) (hs:Sgn sg) (hs2:13 ∈ sg -> 10 ∈ sg) (h:(nx f n a c sg).1=2) (hb:(nx f n a c sg).2.1 < n1) : nx f n1 a c sg=nx f n a c sg:=by
 by_cases h1:(nx f n1 a c sg).1=1
 . exfalso
   have h':=h
   have hb':=hb
   unfold nx at h' hb'
   split at h'
   . cases h'
   . next h0 =>
     rw [if_neg h0] at hb'
     split at h'
     . cases h'
     . next k1 =>
       rw [if_neg k1] at hb'
       split at h'
       . next k2 =>
         rw [if_pos k2] at hb'
         have hb2:a + gd f n a c < n1:=hb'
         obtain ⟨g1,g2,g3⟩:=gd_spec f n a c
         have hgd:gd f n1 a c=gd f n a c:=gd_eq ⟨by omega,g2,fun _ => g3 k2⟩
         unfold nx at h1
         split at h1
         . cases h1
         . split at h1
           . next k3 =>
             obtain ⟨e1,e2,e3⟩:=k3
             have hna:a + 1 < n:=by
              rcases Nat.lt_or_ge (a + 1) n with q | q
              . exact q
              . exact absurd ⟨by omega,e2,e3⟩ k1
             have hw:Rn.whole (Rn.off f a) (n - a)=true:=by
              unfold Rn.whole Rn.fk Rn.fs
              rw [if_neg (by omega)]
              have e4:Rn.off f a 0=13:=e2
              rw [e4]
              have hsz:Rn.size 13=1:=size_low (by omega)
              rw [hsz]
              have hln:Rn.len (n - a) 13 (Rn.off f a 1) (Rn.off f a 2) (Rn.off f a 3)=1:=by
               have:=Rn.len_le_size (n - a) 13 (Rn.off f a 1) (Rn.off f a 2) (Rn.off f a 3)
               rw [hsz] at this
               unfold Rn.len
               rw [hsz]
               repeat' split
               all_goals omega
              rw [hln]
              decide
             have hv:=(fv_one hw (by show f (a + 0) < 128; rw [Nat.add_zero,e2]; omega)).1
             have hv3:Rn.fv (Rn.off f a)=13:=by rw [hv]; exact e2
             apply h0
             unfold Fd.pk
             rw [if_pos hw,if_pos hv3,if_pos hna]
             split
             . exact ⟨rfl, .inr (hs2 e3)⟩
             . exact ⟨rfl, .inr (hs2 e3)⟩
           . split at h1
             . cases h1
             . next k4 => omega
       . cases h'
 . exact (nx_up hn hc hs h1).symm
theorem nx_there0 {f:Nat -> Nat} {n1 n a:Nat} {c:Int} {sg:List Nat} (h:(nx f n a c sg).1=0) (hw:a + (nx f n a c sg).2.2 < n1 \/ (a + (nx f n a c sg).2.2 <= n1 /\ (nx f n a c sg).2.1 ≠ 10)) (hn:n1 <= n) : nx f n1 a c sg=nx f n a c sg:=by
 have h':=h
 unfold nx at h'
 split at h'
 . next ok =>
   have e0:nx f n a c sg=(0,(Fd.pk f n a false).1,(Fd.pk f n a false).2.2.1):=by unfold nx; rw [if_pos ok]
   rw [e0] at hw
   simp only at hw
   obtain ⟨q1,q2,q3,q4,q5,q6⟩:=Fd.pk_have (r:=(Fd.pk f n a false).1) (a:=(Fd.pk f n a false).2.1) (w:=(Fd.pk f n a false).2.2.1) (by rw [<- ok.1])
   have hl:=Fd.whole_lt q6
   have e:Fd.pk f n1 a false=Fd.pk f n a false:=by
    have okk:=ok.1
    unfold Fd.pk at hw okk ⊢
    rw [if_pos q6] at hw okk ⊢
    by_cases c13:Rn.fv (Rn.off f a)=13
    . rw [if_pos c13] at hw okk ⊢
      by_cases c1:a + 1 < n
      . rw [if_pos c1] at hw okk ⊢
        have hs1:=((Fd.whole_cr q6).1 c13)
        have k:a + 1 < n1:=by
         split at hw <;> simp at hw <;> omega
        rw [if_pos (Fd.whole_down q6 (by have:=hs1.1; omega) (by omega)),if_pos c13,if_pos k]
      . rw [if_neg c1] at okk
        simp at okk
    . rw [if_neg c13] at hw ⊢
      simp only at hw
      have k:a + Rn.fs (Rn.off f a) (n - a) <= n1:=by omega
      have hp:=hl.1
      rw [if_pos (Fd.whole_down q6 (by omega) (by omega)),if_neg c13]
      have e2:Rn.fs (Rn.off f a) (n1 - a)=Rn.fs (Rn.off f a) (n - a):=by
       unfold Rn.fs at hp ⊢
       rw [if_neg (by omega),if_neg (by omega)]
      rw [e2]
   unfold nx
   rw [e,if_pos ok,if_pos ok]
 . split at h'
   . cases h'
   . split at h' <;> cases h'
theorem nx_byte {f:Nat -> Nat} {n a:Nat} {c:Int} {sg:List Nat} (h:(nx f n a c sg).1=0) (h1:(nx f n a c sg).2.1 < 128) (h2:(nx f n a c sg).2.1 ≠ 10) : (nx f n a c sg).2.2=1:=by
 unfold nx at h h1 h2 ⊢
 split at h
 . next hc =>
   rw [if_pos hc] at h1 h2 ⊢
   have hh:=hc.1
   unfold Fd.pk at hh h1 h2 ⊢
   by_cases hw:Rn.whole (Rn.off f a) (n - a)=true
   . rw [if_pos hw] at hh h1 h2 ⊢
     by_cases c13:Rn.fv (Rn.off f a)=13
     . exfalso
       rw [if_pos c13] at hh h2
       by_cases c1:a + 1 < n
       . rw [if_pos c1] at h2
         split at h2 <;> exact h2 rfl
       . rw [if_neg c1] at hh
         simp at hh
     . rw [if_neg c13] at h1 ⊢
       exact ((Fd.whole_cr hw).2.2.1 h1).1
   . exfalso
     rw [if_neg hw] at hh
     by_cases c1:n <= a
     . rw [if_pos c1] at hh; simp at hh
     . rw [if_neg c1] at hh
       split at hh <;> simp at hh
 . split at h
   . cases h
   . split at h <;> cases h
theorem nx_ok {f:Nat -> Nat} {n a:Nat} {c:Int} {sg:List Nat} (h:(nx f n a c sg).1=0) : Ch.isT Ch.tab c ((nx f n a c sg).2.1:Nat)=true \/ (nx f n a c sg).2.1 ∈ sg:=by
 unfold nx at h ⊢
 split at h
 . next hc => rw [if_pos hc]; exact hc.2
 . split at h
   . cases h
   . split at h <;> cases h
theorem none_is (r:Int) : Ch.isT Ch.tab 6 r=false:=by
 simp [Ch.tab,Ch.isT]
structure Kp (c:Int) (sg:List Nat) (k:Nat -> Wk -> Wk) : Prop where
 ps : ∀ r s,(k r s).ps=s.ps
 zero : ∀ r s,(Ch.isT Ch.tab c (r:Nat)=true \/ r ∈ sg) -> s.how=1 -> (k r s).how=0 -> r ≠ 10
 two : ∀ r s,s.how=1 -> (k r s).how=2 -> r < 128 /\ r ≠ 10 /\ (k r s).bad=s.fr
 all : ∀ r s,s.how=1 -> (k r s).how=0 \/ (k r s).how=1 \/ (k r s).how=2
theorem onNx_there {f:Nat -> Nat} {n1 n:Nat} {c:Int} {sg:List Nat} {s t:Wk} {k:Nat -> Wk -> Wk} (hn:n1 <= n) (hc:Cls c) (hs:Sgn sg) (hs2:13 ∈ sg -> 10 ∈ sg) (hk:Kp c sg k) (h1:s.how=1) (h:onNx (nx f n s.ps c sg) s k=some t)
 (hb:t.how=2 -> t.bad < n1) (hp:t.how=1 -> t.ps < n1) (h0:t.how=0 -> t.ps <= n1) : onNx (nx f n1 s.ps c sg) s k=some t:=by
 have e:nx f n1 s.ps c sg=nx f n s.ps c sg:=by
  have h':=h
  unfold onNx at h'
  split at h'
  . next hz =>
    cases h'
    refine nx_there0 hz ?_ hn
    have q1:=hk.ps (nx f n s.ps c sg).2.1 (s.took (nx f n s.ps c sg).2.2)
    have q2:(s.took (nx f n s.ps c sg).2.2).ps=s.ps + (nx f n s.ps c sg).2.2:=rfl
    rcases hk.all (nx f n s.ps c sg).2.1 (s.took (nx f n s.ps c sg).2.2) h1 with e | e | e
    . exact .inr ⟨by have:=h0 e; omega,hk.zero _ (s.took (nx f n s.ps c sg).2.2) (nx_ok hz) h1 e⟩
    . exact .inl (by have:=hp e; omega)
    . obtain ⟨r1,r2,r3⟩:=hk.two _ (s.took (nx f n s.ps c sg).2.2) h1 e
      have q3:=nx_byte hz r1 r2
      have q4:=hb e
      rw [r3] at q4
      have q5:s.ps < n1:=q4
      exact .inr ⟨by omega,r2⟩
  . split at h'
    . next hz =>
      cases h'
      exact nx_there2 hn hc hs hs2 hz (hb rfl)
    . cases h'
 rw [e]
 exact h
theorem onRef_there {f:Nat -> Nat} {n1 n:Nat} {s t:Wk} {k:Nat -> Wk -> Wk} (hk : ∀ r s,(k r s).ps=s.ps /\ (k r s).how=s.how) (h1:s.how=1) (h:onRef f n s k=some t) (hb:t.how=2 -> t.bad < n1) (hp:t.how=1 -> t.ps < n1) : onRef f n1 s k=some t:=by
 have q:s.ps < n1:=by
  unfold onRef at h
  split at h
  . cases h
  . split at h
    . cases h
      exact hb rfl
    . split at h
      . cases h
        have e:=hk (Rf.rd (Rn.lf (s.ref ++ [(f s.ps).toUInt8])) (s.ref.length + 1)).1 { s with ref:=s.ref ++ [(f s.ps).toUInt8],ps:=s.ps + 1 }
        have:=hp (e.2.trans h1)
        rw [e.1] at this
        have h9:s.ps + 1 < n1:=this
        omega
      . cases h
        have h9:s.ps + 1 < n1:=hp h1
        omega
 unfold onRef at h ⊢
 split at h
 . cases h
 . rw [if_neg (by omega)]
   exact h
theorem step_there {inn:Nat} {nm:List UInt8} {f:Nat -> Nat} {n1 n:Nat} {s t:Wk} (hn:n1 <= n) (h1:s.how=1) (h:step inn nm f n s=some t) (hb:t.how=2 -> t.bad < n1) (hp:t.how=1 -> t.ps < n1) (h0:t.how=0 -> t.ps <= n1) : step inn nm f n1 s=some t:=by
 unfold step at h ⊢
 split at h
 case h_2 => exact onRef_there (fun r s => ⟨rfl,rfl⟩) h1 h hb hp
 case h_18 => exact onRef_there (fun r s => ⟨rfl,rfl⟩) h1 h hb hp
 case h_14 =>
  by_cases c:s.ps < n
  . by_cases c2 : f s.ps ∈ bl ++ [61] ∧ s.attr ∈ s.attrs.map (·.1)
    . rw [if_pos ⟨c,c2⟩] at h
      cases h
      rw [if_pos ⟨hb rfl,c2⟩]
    . rw [if_neg fun k => c2 k.2] at h
      rw [if_neg fun k => c2 k.2]
      refine onNx_there hn (by simp [Cls]) (by simp [Sgn,bl]) (by simp [bl]) ⟨fun r s => ?_,fun r s _ q => ?_,fun r s q => ?_,fun r s q => ?_⟩ h1 h hb hp h0
      all_goals (repeat' split)
      all_goals first | rfl | (intro e; have:s.how=0:=e; omega) | (intro e; have:s.how=2:=e; omega) | exact .inr (.inl q)
  . rw [if_neg fun k => c k.1,nx_none (by omega)] at h
    simp [onNx] at h
 case h_19 =>
  split at h
  . next c => rw [if_pos c]; exact h
  . next c =>
    rw [if_neg c]
    split at h
    . cases h
    . next c2 =>
      split at h
      . next c3 =>
        cases h
        rw [if_neg (by have:s.ps < n1:=hb rfl; omega),if_pos c3]
      . next c3 =>
        cases h
        rw [if_neg (by have:s.ps + 1 < n1:=hp h1; omega),if_neg c3]
 case h_8 =>
  have hwd : ∀ i,word.getD i 0 < 128 /\ word.getD i 0 ≠ 10 /\ word.getD i 0 ≠ 13:=by
   intro i
   match i with
   | 0 | 1 | 2 | 3 | 4 | 5 => decide
   | _ + 6 => simp [word]
  have h9:=hwd s.ct
  refine onNx_there hn (by simp [Cls]) (by simp only [Sgn,List.mem_singleton]; exact ⟨fun x hx => by omega,fun e => by omega⟩) (by simp only [List.mem_singleton]; omega) ⟨fun r s => ?_,fun r s _ q => ?_,fun r s q => ?_,fun r s q => ?_⟩ h1 h hb hp h0
  all_goals (repeat' split)
  all_goals first | rfl | (intro e; have:s.how=0:=e; omega) | (intro e; have:s.how=2:=e; omega) | exact .inr (.inl q)
 case h_13 =>
  refine onNx_there hn (by simp [Cls]) (by simp [Sgn]) (by simp) ⟨fun r s => rfl,fun r s hr q _ => ?_,fun r s q e => ?_,fun r s q => .inl rfl⟩ h1 h hb hp h0
  . rcases hr with hr | hr
    . rw [none_is] at hr
      cases hr
    . simp at hr
      omega
  . cases e
 all_goals
  refine onNx_there hn (by (try split) <;> simp [Cls]) (by (try split) <;> simp [Sgn,bl]) (by (try split) <;> simp [bl]) ⟨fun r s => ?_,fun r s _ q => ?_,fun r s q => ?_,fun r s q => ?_⟩ h1 h hb hp h0
  all_goals (try (repeat' split))
  all_goals first
   | rfl
   | (intro e; have:s.how=0:=e; omega)
   | (intro e; have:s.how=2:=e; omega)
   | exact .inr (.inl q)
   | exact .inl rfl
   | exact .inr (.inr rfl)
   | (intro e; cases e; done)
   | (intro _; omega)
   | (intro _; exact ⟨by omega,by omega,rfl⟩)
structure Fw (s t:Wk) : Prop where
 ps:s.ps <= t.ps
 zero:t.how=0 -> s.ps < t.ps
 two:t.how=2 -> s.ps <= t.bad
theorem onNx_fw {f:Nat -> Nat} {n:Nat} {c:Int} {sg:List Nat} {s t:Wk} {k:Nat -> Wk -> Wk} (hp : ∀ r s,(k r s).ps=s.ps) (h2 : ∀ r s,s.how=1 -> (k r s).how=2 -> (k r s).bad=s.fr) (h1:s.how=1) (h:onNx (nx f n s.ps c sg) s k=some t) : Fw s t:=by
 unfold onNx at h
 split at h
 . next hz =>
   cases h
   have q:=nx_in0 hz
   have e:=hp (nx f n s.ps c sg).2.1 (s.took (nx f n s.ps c sg).2.2)
   have e2:(s.took (nx f n s.ps c sg).2.2).ps=s.ps + (nx f n s.ps c sg).2.2:=rfl
   refine ⟨by omega,fun _ => (by omega),fun g => ?_⟩
   rw [h2 _ (s.took (nx f n s.ps c sg).2.2) h1 g]
   exact Nat.le_refl _
 . split at h
   . next hz =>
     cases h
     exact ⟨Nat.le_refl _,fun g => (by cases g),fun _ => (nx_in2 hz).1⟩
   . cases h
theorem onRef_fw {f:Nat -> Nat} {n:Nat} {s t:Wk} {k:Nat -> Wk -> Wk} (hk : ∀ r s,(k r s).ps=s.ps /\ (k r s).how=s.how) (h1:s.how=1) (h:onRef f n s k=some t) : Fw s t:=by
 unfold onRef at h
 split at h
 . cases h
 . split at h
   . cases h
     exact ⟨Nat.le_refl _,fun g => (by cases g),fun _ => Nat.le_refl _⟩
   . split at h
     . cases h
       have e:=hk (Rf.rd (Rn.lf (s.ref ++ [(f s.ps).toUInt8])) (s.ref.length + 1)).1 { s with ref:=s.ref ++ [(f s.ps).toUInt8],ps:=s.ps + 1 }
       have e3:({ s with ref:=s.ref ++ [(f s.ps).toUInt8],ps:=s.ps + 1 } : Wk).ps=s.ps + 1:=rfl
       have e4:({ s with ref:=s.ref ++ [(f s.ps).toUInt8],ps:=s.ps + 1 } : Wk).how=s.how:=rfl
       exact ⟨by omega,fun g => (by omega),fun g => by omega⟩
     . cases h
       exact ⟨Nat.le_succ _,fun g => (by have:s.how=0:=g; omega),fun g => by have:s.how=2:=g; omega⟩
theorem step_fw {inn:Nat} {nm:List UInt8} {f:Nat -> Nat} {n:Nat} {s t:Wk} (h1:s.how=1) (h:step inn nm f n s=some t) : Fw s t:=by
 unfold step at h
 split at h
 case h_2 => (refine onRef_fw (fun r s => ?_) h1 h; exact ⟨rfl,rfl⟩)
 case h_18 => (refine onRef_fw (fun r s => ?_) h1 h; exact ⟨rfl,rfl⟩)
 case h_14 =>
  split at h
  . cases h
    exact ⟨Nat.le_refl _,fun g => (by cases g),fun _ => Nat.le_refl _⟩
  . refine onNx_fw (fun r s => ?_) (fun r s q => ?_) h1 h
    all_goals (repeat' split)
    all_goals first | rfl | (intro e; have:s.how=2:=e; omega)
 case h_19 =>
  split at h
  . cases h
    exact ⟨Nat.le_refl _,fun g => (by have:s.how=0:=g; omega),fun g => by have:s.how=2:=g; omega⟩
  . split at h
    . cases h
    . split at h
      . cases h
        exact ⟨Nat.le_refl _,fun g => (by cases g),fun _ => Nat.le_refl _⟩
      . cases h
        exact ⟨Nat.le_succ _,fun g => (by have:s.how=0:=g; omega),fun g => by have:s.how=2:=g; omega⟩
 all_goals
  refine onNx_fw (fun r s => ?_) (fun r s q => ?_) h1 h
  all_goals (try (repeat' split))
  all_goals first
   | rfl
   | (intro e; have:s.how=2:=e; omega)
   | (intro e; cases e; done)
   | (intro _; rfl)
theorem onNx_all {x:Nat × Nat × Nat} {s t:Wk} {k:Nat -> Wk -> Wk} (hk : ∀ r s,s.how=1 -> (k r s).how=0 \/ (k r s).how=1 \/ (k r s).how=2) (h1:s.how=1) (h:onNx x s k=some t) : t.how=0 \/ t.how=1 \/ t.how=2:=by
 unfold onNx at h
 split at h
 . cases h
   exact hk _ _ h1
 . split at h
   . cases h
     exact .inr (.inr rfl)
   . cases h
theorem onRef_all {f:Nat -> Nat} {n:Nat} {s t:Wk} {k:Nat -> Wk -> Wk} (hk : ∀ r s,(k r s).how=s.how) (h1:s.how=1) (h:onRef f n s k=some t) : t.how=0 \/ t.how=1 \/ t.how=2:=by
 unfold onRef at h
 split at h
 . cases h
 . split at h
   . cases h
     exact .inr (.inr rfl)
   . split at h
     . cases h
       rw [hk]
       exact .inr (.inl h1)
     . cases h
       exact .inr (.inl h1)
theorem step_all {inn:Nat} {nm:List UInt8} {f:Nat -> Nat} {n:Nat} {s t:Wk} (h1:s.how=1) (h:step inn nm f n s=some t) : t.how=0 \/ t.how=1 \/ t.how=2:=by
 unfold step at h
 split at h
 case h_2 => (refine onRef_all (fun r s => ?_) h1 h; rfl)
 case h_18 => (refine onRef_all (fun r s => ?_) h1 h; rfl)
 case h_14 =>
  split at h
  . cases h
    exact .inr (.inr rfl)
  . refine onNx_all (fun r s q => ?_) h1 h
    all_goals (repeat' split)
    all_goals first | exact .inr (.inl q) | exact .inl rfl | exact .inr (.inr rfl)
 case h_19 =>
  split at h
  . cases h
    exact .inr (.inl h1)
  . split at h
    . cases h
    . split at h
      . cases h
        exact .inr (.inr rfl)
      . cases h
        exact .inr (.inl h1)
 all_goals
  refine onNx_all (fun r s q => ?_) h1 h
  all_goals (try (repeat' split))
  all_goals first | exact .inr (.inl q) | exact .inl rfl | exact .inr (.inr rfl)
def Lim (n:Nat) (t:Wk) : Prop:=(t.how=1 -> t.ps < n) /\ (t.how=0 -> t.ps <= n) /\ (t.how=2 -> t.bad < n)
theorem step_lim {inn:Nat} {nm:List UInt8} {f:Nat -> Nat} {n n':Nat} {t u:Wk} (ht:t.how=1) (hu:step inn nm f n t=some u) (hl:Lim n' u) : Lim n' t:=by
 have q:=step_fw ht hu
 refine ⟨fun _ => ?_,fun g => (by omega),fun g => (by omega)⟩
 rcases step_all ht hu with e | e | e
 . have:=q.zero e
   have:=hl.2.1 e
   omega
 . have:=q.ps
   have:=hl.1 e
   omega
 . have:=q.two e
   have:=hl.2.2 e
   omega
theorem Steps.lim {inn:Nat} {nm:List UInt8} {f:Nat -> Nat} {n n':Nat} {t u:Wk} (h:Steps inn nm f n t u) (hl:Lim n' u) : Lim n' t:=by
 induction h with
 | refl => exact hl
 | cons h0 h r ih => exact step_lim h0 h (ih hl)
theorem Steps.there {inn:Nat} {nm:List UInt8} {f:Nat -> Nat} {n1 n:Nat} {s t:Wk} (hn:n1 <= n) (h:Steps inn nm f n s t) (hl:Lim n1 t) : Steps inn nm f n1 s t:=by
 induction h with
 | refl => exact .refl _
 | @cons s t' u h0 h r ih =>
   have q:=r.lim hl
   exact .cons h0 (step_there hn h0 h q.2.2 q.1 q.2.1) (ih hl)
theorem Steps.bad {inn:Nat} {nm:List UInt8} {f:Nat -> Nat} {n:Nat} {s t:Wk} (h1:s.how=1) (h:Steps inn nm f n s t) (ht:t.how=2) : t.bad < n /\ Steps inn nm f (t.bad + 1) s t:=by
 have hb:t.bad < n:=by
  induction h with
  | refl => omega
  | @cons s t' u h0 h r ih =>
    rcases step_all h0 h with e | e | e
    . cases r with
      | refl => omega
      | cons g _ _ => omega
    . exact ih e ht
    . cases r with
      | refl => exact step_bad h h0 e
      | cons g _ _ => omega
 exact ⟨hb,h.there (by omega) ⟨fun g => (by omega),fun g => (by omega),fun _ => Nat.lt_succ_self _⟩⟩
structure In (s:Wk) : Prop where
 fr:s.fr <= s.ps
 tg:s.tg <= s.ps
 tf:s.tf <= s.ps
 tt:2 <= s.st -> s.tf <= s.tg
theorem in_new:In {}:=⟨Nat.le_refl _,Nat.le_refl _,Nat.le_refl _,fun _ => Nat.le_refl _⟩
theorem onNx_in {x:Nat × Nat × Nat} {s t:Wk} {k:Nat -> Wk -> Wk} (h:onNx x s k=some t) (hs:In s) (hk : ∀ r s',In s' -> s'.st=s.st -> s'.tf <= s'.fr -> In (k r s')) : In t:=by
 obtain ⟨a,b,c,d⟩:=hs
 unfold onNx at h
 split at h
 . cases h
   refine hk _ _ ⟨?_, ?_, ?_,d⟩ rfl c
   . exact Nat.le_add_right _ _
   . exact Nat.le_trans b (Nat.le_add_right _ _)
   . exact Nat.le_trans c (Nat.le_add_right _ _)
 . split at h
   . cases h
     exact ⟨a,b,c,d⟩
   . cases h
theorem onRef_in {f:Nat -> Nat} {n:Nat} {s t:Wk} {k:Nat -> Wk -> Wk} (h:onRef f n s k=some t) (hs:In s) (hk : ∀ r s',In s' -> s'.st=s.st -> In (k r s')) : In t:=by
 obtain ⟨a,b,c,d⟩:=hs
 unfold onRef at h
 split at h
 . cases h
 . split at h
   . cases h
     exact ⟨a,b,c,d⟩
   . split at h
     . cases h
       exact hk _ _ ⟨Nat.le_succ_of_le a,Nat.le_succ_of_le b,Nat.le_succ_of_le c,d⟩ rfl
     . cases h
       exact ⟨Nat.le_succ_of_le a,Nat.le_succ_of_le b,Nat.le_succ_of_le c,d⟩
theorem In.add {s:Wk} (h:In s) (r a:Nat) (ha:a <= s.ps) (h2:2 <= s.st -> a <= s.tg) : In (s.add r a):=by
 obtain ⟨p,q,c,d⟩:=h
 refine ⟨p,q, ?_,fun e => ?_⟩
 . show (if s.text = [] then a else s.tf) <= s.ps
   split
   . exact ha
   . exact c
 . show (if s.text = [] then a else s.tf) <= s.tg
   split
   . exact h2 e
   . exact d e
theorem In.low {s t:Wk} (h:In s) (e1:t.fr=s.fr) (e2:t.tg=s.tg) (e3:t.tf=s.tf) (e4:t.ps=s.ps) (h0:t.st < 2 \/ 2 <= s.st) : In t :=
 ⟨by rw [e1,e4]; exact h.fr,by rw [e2,e4]; exact h.tg,by rw [e3,e4]; exact h.tf,fun g => by rw [e3,e2]; exact h.tt (by omega)⟩
theorem step_in {inn:Nat} {nm:List UInt8} {f:Nat -> Nat} {n:Nat} {s t:Wk} (h:step inn nm f n s=some t) (hs:In s) : In t:=by
 unfold step at h
 split at h
 case h_1 e0 =>
  refine onNx_in h hs fun r s' q e c => ?_
  split
  . exact ⟨q.fr,q.fr,q.tf,fun _ => c⟩
  . split
    . exact q
    . split
      . exact q.low rfl rfl rfl rfl (.inl (by show 1 < 2; omega))
      . split
        . exact q.low rfl rfl rfl rfl (.inl (by show s'.st < 2; omega))
        . exact (q.add r s'.fr q.fr (fun g => by omega)).low rfl rfl rfl rfl (.inl (by show s'.st < 2; omega))
 case h_2 e0 =>
  refine onRef_in h hs fun r s' q e => ?_
  have q1:In { s' with st:=0 }:=q.low rfl rfl rfl rfl (.inl (by show 0 < 2; omega))
  exact (q1.add r s'.fr q.fr (fun g => by have:2 <= 0:=g; omega)).low rfl rfl rfl rfl (.inl (by show 0 < 2; omega))
 case h_18 e0 =>
  refine onRef_in h hs fun r s' q e => ?_
  exact q.low rfl rfl rfl rfl (.inr (by omega))
 case h_14 e0 =>
  split at h
  . cases h; exact hs.low rfl rfl rfl rfl (.inr (by omega))
  . refine onNx_in h hs fun r s' q e c => ?_
    repeat' split
    all_goals exact q.low rfl rfl rfl rfl (.inr (by omega))
 case h_19 e0 =>
  split at h
  . cases h; exact hs.low rfl rfl rfl rfl (.inr (by omega))
  . split at h
    . cases h
    . split at h
      . cases h; exact hs.low rfl rfl rfl rfl (.inr (by omega))
      . cases h; exact ⟨Nat.le_succ_of_le hs.fr,Nat.le_succ_of_le hs.tg,Nat.le_succ_of_le hs.tf,hs.tt⟩
 case h_9 e0 =>
  refine onNx_in h hs fun r s' q e c => ?_
  split
  . exact q.low rfl rfl rfl rfl (.inr (by omega))
  . exact (q.add r s'.tg q.tg (fun _ => Nat.le_refl _)).low rfl rfl rfl rfl (.inr (by show 2 <= s'.st; omega))
 case h_20 =>
  have a0:s.st ≠ 0:=by assumption
  have a1:s.st ≠ 1:=by assumption
  refine onNx_in h hs fun r s' q e c => ?_
  split
  . exact q.low rfl rfl rfl rfl (.inr (by omega))
  . exact q
 all_goals
  refine onNx_in h hs fun r s' q e c => ?_
  try repeat' split
  all_goals first
   | exact q.low rfl rfl rfl rfl (.inr (by omega))
   | exact q
theorem Steps.inn {inn:Nat} {nm:List UInt8} {f:Nat -> Nat} {n:Nat} {s t:Wk} (h:Steps inn nm f n s t) (hs:In s) : In t:=by
 induction h with
 | refl => exact hs
 | cons h0 h r ih => exact ih (step_in h hs)
structure Okm (nm:List UInt8) (k:Wk) : Prop where
 text:k.text.length <= 4 * k.ps
 tag:k.tag.length <= 4 * k.ps
 attr:k.attr.length <= 4 * k.ps
 val:k.val.length <= 4 * k.ps
 ref:k.ref.length <= k.ps
 ct:k.ct <= k.ps
 attrs:k.attrs.length <= k.ps
 dat:k.st=8 -> k.ct <= k.text.length
 opn:k.st=7 -> k.ct < 6
 nam:k.st=18 -> k.tg + 2 <= k.ps /\ k.ps - k.tg - 2 <= nm.length
 sig:k.st=2 -> k.ps=k.tg + 1
 zer:k.st=2 \/ k.st=3 -> k.ct=0
theorem okm_new (nm:List UInt8) : Okm nm {}:=by
 constructor <;> simp
theorem enc4 (r:Int) : (Lib.encodeRune r).length <= 4:=by
 have:=(Lib.encodeRuneZ_length r).2
 unfold Lib.encodeRune
 rw [List.length_map]
 exact this
theorem enc1 (r:Int) : 1 <= (Lib.encodeRune r).length:=by
 have:=(Lib.encodeRuneZ_length r).1
 unfold Lib.encodeRune
 rw [List.length_map]
 exact this
theorem Okm.go {nm:List UInt8} {s t:Wk} (h:Okm nm s) {w:Nat} (hw:0 < w) (hp:t.ps=s.ps + w) (text:t.text.length <= s.text.length + 4) (tag:t.tag.length <= s.tag.length + 4) (attr:t.attr.length <= s.attr.length + 4) (val:t.val.length <= s.val.length + 4)
 (ref:t.ref.length <= s.ref.length + 1) (ct:t.ct <= s.ct + 1) (attrs:t.attrs.length <= s.attrs.length + 1) (dat:t.st=8 -> t.ct <= t.text.length) (opn:t.st=7 -> t.ct < 6) (nam:t.st=18 -> t.tg + 2 <= t.ps /\ t.ps - t.tg - 2 <= nm.length) (sig:t.st=2 -> t.ps=t.tg + 1) (zer:t.st=2 \/ t.st=3 -> t.ct=0) : Okm nm t:=by
 have:=h.text; have:=h.tag; have:=h.attr; have:=h.val; have:=h.ref; have:=h.ct; have:=h.attrs
 exact ⟨by omega,by omega,by omega,by omega,by omega,by omega,by omega,dat,opn,nam,sig,zer⟩
theorem onNx_okm {nm:List UInt8} {f:Nat -> Nat} {n:Nat} {c:Int} {sg:List Nat} {s t:Wk} {k:Nat -> Wk -> Wk} (h:onNx (nx f n s.ps c sg) s k=some t) (h1:t.how=1) (hk : ∀ r w,0 < w -> (r < 128 -> r ≠ 10 -> w=1) -> (k r (s.took w)).how=1 -> Okm nm (k r (s.took w))) : Okm nm t:=by
 unfold onNx at h
 split at h
 . next hz =>
   cases h
   exact hk _ _ (nx_in0 hz).1 (fun a b => nx_byte hz a b) h1
 . split at h
   . cases h
     cases h1
   . cases h
theorem nought_leM (l:List UInt8) : (nought l).length <= l.length:=by
 unfold nought
 split
 . simp
 . exact Nat.le_refl _
theorem onRef_okm {nm:List UInt8} {f:Nat -> Nat} {n:Nat} {s t:Wk} {k:Nat -> Wk -> Wk} (h:onRef f n s k=some t) (h1:t.how=1) (hs:Okm nm s) (hst:s.st=1 \/ s.st=17) (hk : ∀ r s',s'.ps=s.ps + 1 -> s'.text=s.text -> s'.tag=s.tag -> s'.attr=s.attr -> s'.val=s.val -> s'.ref.length=s.ref.length + 1 -> s'.ct=s.ct -> s'.attrs=s.attrs -> Okm nm (k r s')) : Okm nm t:=by
 unfold onRef at h
 split at h
 . cases h
 . split at h
   . cases h
     cases h1
   . split at h
     . cases h
       exact hk _ _ rfl rfl rfl rfl rfl (by simp) rfl rfl
     . cases h
       have q:=nought_leM (s.ref ++ [(f s.ps).toUInt8])
       simp only [List.length_append,List.length_cons,List.length_nil] at q
       refine hs.go (w:=1) (by omega) rfl ?_ ?_ ?_ ?_ ?_ ?_ ?_ ?_ ?_ ?_ ?_ ?_
       . exact Nat.le_add_right _ _
       . exact Nat.le_add_right _ _
       . exact Nat.le_add_right _ _
       . exact Nat.le_add_right _ _
       . show (nought _).length <= _
         omega
       . exact Nat.le_add_right _ _
       . exact Nat.le_add_right _ _
       all_goals (intro e; have e2:s.st=_ \/ s.st=_:=hst; revert e; simp only; omega)
theorem step_okm {inn:Nat} {nm:List UInt8} {f:Nat -> Nat} {n:Nat} {s t:Wk} (h:step inn nm f n s=some t) (h1:t.how=1) (hs:Okm nm s) : Okm nm t:=by
 have a1:=hs.dat; have a2:=hs.opn; have a3:=hs.nam; have a4:=hs.sig; have a5:=hs.zer
 unfold step at h
 split at h
 case h_2 e0 =>
  refine onRef_okm h h1 hs (.inl e0) fun r s' b1 b2 b3 b4 b5 b6 b7 b8 => ?_
  have:=enc4 r
  refine hs.go (w:=1) (by omega) b1 ?_ ?_ ?_ ?_ ?_ ?_ ?_ ?_ ?_ ?_ ?_ ?_
  all_goals (simp [Wk.add,b2,b3,b4,b5,b6,b7,b8]; try omega)
 case h_18 e0 =>
  refine onRef_okm h h1 hs (.inr e0) fun r s' b1 b2 b3 b4 b5 b6 b7 b8 => ?_
  have:=enc4 r
  refine hs.go (w:=1) (by omega) b1 ?_ ?_ ?_ ?_ ?_ ?_ ?_ ?_ ?_ ?_ ?_ ?_
  all_goals (simp [b2,b3,b4,b5,b6,b7,b8]; try omega)
 case h_14 e0 =>
  split at h
  . cases h
    cases h1
  . refine onNx_okm h h1 fun r w hw ho hh => ?_
    have:=enc4 r
    repeat' split
    all_goals (refine hs.go hw rfl ?_ ?_ ?_ ?_ ?_ ?_ ?_ ?_ ?_ ?_ ?_ ?_ <;> simp [Wk.turn,Wk.took,e0] <;> (first | omega | exact fun _ => trivial))
 case h_19 e0 =>
  split at h
  . cases h
    exact ⟨hs.text,hs.tag,hs.attr,hs.val,hs.ref,hs.ct,hs.attrs,by simp [Wk.turn],by simp [Wk.turn],by simp [Wk.turn],by simp [Wk.turn],by simp [Wk.turn]⟩
  . split at h
    . cases h
    . split at h
      . cases h
        cases h1
      . cases h
        have:=a3 e0
        refine hs.go (w:=1) (by omega) rfl ?_ ?_ ?_ ?_ ?_ ?_ ?_ ?_ ?_ ?_ ?_ ?_ <;> simp [e0] <;> omega
 case h_20 =>
  have q0:s.st ≠ 2:=by assumption
  have q1:s.st ≠ 3:=by assumption
  have q2:s.st ≠ 7:=by assumption
  have q3:s.st ≠ 8:=by assumption
  have q4:s.st ≠ 18:=by assumption
  refine onNx_okm h h1 fun r w hw ho hh => ?_
  split
  . next e => rw [if_pos e] at hh; cases hh
  . refine hs.go hw rfl ?_ ?_ ?_ ?_ ?_ ?_ ?_ ?_ ?_ ?_ ?_ ?_ <;> simp [Wk.took,q0,q1,q2,q3,q4]
 all_goals
  next e0 =>
  refine onNx_okm h h1 fun r w hw ho hh => ?_
  have:=enc4 r
  have:=enc1 r
  have:=enc4 32
  have:(s.took w).ct=s.ct:=rfl
  have:(s.took w).ps=s.ps + w:=rfl
  have:(s.took w).fr=s.ps:=rfl
  revert hh
  try repeat' split
  all_goals
   intro hh
   first
    | (cases hh; done)
    | (refine hs.go hw rfl ?_ ?_ ?_ ?_ ?_ ?_ ?_ ?_ ?_ ?_ ?_ ?_ <;> (try simp only [Wk.turn,Wk.took,Wk.add,Wk.tally,List.length_append,List.length_take,List.length_cons,List.length_nil]) <;> (try split) <;> (first | omega | exact fun _ => trivial))
theorem Steps.okm {inn:Nat} {nm:List UInt8} {f:Nat -> Nat} {n:Nat} {s t:Wk} (h:Steps inn nm f n s t) (h1:t.how=1) (hs:Okm nm s) : Okm nm t:=by
 induction h with
 | refl => exact hs
 | @cons s t' u _ h r ih =>
   refine ih h1 (step_okm h ?_ hs)
   cases r with
   | refl => exact h1
   | cons g _ _ => exact g
end Sc
end Go.Proofs.YteiiepjegdlbeaaDoor
