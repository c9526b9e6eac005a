import Derived.Test.YteiiepjegdlbeaaDoorScApp
import Derived.Test.YteiiepjegdlbeaaDoorChBytMath
import Derived.Test.YteiiepjegdlbeaaDoorRnMm
namespace Go.Proofs.YteiiepjegdlbeaaDoor
open Go.RowKit Go.Lib
namespace Sc
theorem begP_congr {c:Int} {f g:Nat -> Nat} {m:Nat} (h : ∀ j,j < m -> f j=g j) : Ch.begP c f m=Ch.begP c g m:=by
 rcases Nat.eq_zero_or_pos m with rfl | hm
 . unfold Ch.begP
   rw [if_neg (by omega),if_neg (by omega)]
 . have e : ∀ y x,Ch.goOn f m y x=Ch.goOn g m y x:=by
    intro y x
    funext j
    unfold Ch.goOn
    split
    . exact h j (by assumption)
    . rfl
   unfold Ch.begP Ch.low Ch.high
   rw [Rn.fk_congr h,h 0 hm,e,e]
def Gd (f:Nat -> Nat) (a:Nat) (c:Int) (l x:Nat) : Prop:=x <= l /\ (∀ m,0 < m -> m <= x -> Ch.begP c (Rn.off f a) m=true) /\ (x < l -> Ch.begP c (Rn.off f a) (x + 1)=false)
theorem gdF_spec (f:Nat -> Nat) (a:Nat) (c:Int) : ∀ k g,g <= gdF f a c k g /\ gdF f a c k g <= g + k /\ (∀ m,g < m -> m <= gdF f a c k g -> Ch.begP c (Rn.off f a) m=true) /\ (gdF f a c k g < g + k -> Ch.begP c (Rn.off f a) (gdF f a c k g + 1)=false)
 | 0,g => ⟨Nat.le_refl _,Nat.le_refl _,fun m h1 h2 => by unfold gdF at h2; omega,fun h => by unfold gdF at h; omega⟩
 | k + 1,g => by
   unfold gdF
   split
   . next hb =>
     obtain ⟨h1,h2,h3,h4⟩:=gdF_spec f a c k (g + 1)
     refine ⟨by omega,by omega,fun m m1 m2 => ?_,fun h => h4 (by omega)⟩
     by_cases e:m=g + 1
     . rw [e]; exact hb
     . exact h3 m (by omega) m2
   . next hb => exact ⟨Nat.le_refl _,by omega,fun m h1 h2 => by omega,fun _ => by simpa using hb⟩
theorem gd_spec (f:Nat -> Nat) (n a:Nat) (c:Int) : Gd f a c (n - a) (gd f n a c):=by
 obtain ⟨_,h2,h3,h4⟩:=gdF_spec f a c (n - a) 0
 exact ⟨by unfold gd; omega,fun m m1 m2 => h3 m m1 m2,fun h => h4 (by unfold gd at h; omega)⟩
theorem Gd.eq {f:Nat -> Nat} {a:Nat} {c:Int} {l x y:Nat} (hx:Gd f a c l x) (hy:Gd f a c l y) : x=y:=by
 obtain ⟨x1,x2,x3⟩:=hx
 obtain ⟨y1,y2,y3⟩:=hy
 rcases Nat.lt_trichotomy x y with h | h | h
 . have:=y2 (x + 1) (by omega) (by omega)
   rw [x3 (by omega)] at this
   cases this
 . exact h
 . have:=x2 (y + 1) (by omega) (by omega)
   rw [y3 (by omega)] at this
   cases this
theorem gd_eq {f:Nat -> Nat} {n a:Nat} {c:Int} {x:Nat} (h:Gd f a c (n - a) x) : gd f n a c=x:=(gd_spec f n a c).eq h
theorem Gd.congr {f g:Nat -> Nat} {a:Nat} {c:Int} {l x:Nat} (h:Gd f a c l x) (e : ∀ j,j < a + l -> f j=g j) : Gd g a c l x:=by
 obtain ⟨x1,x2,x3⟩:=h
 have k : ∀ m,m <= l -> Ch.begP c (Rn.off g a) m=Ch.begP c (Rn.off f a) m:=fun m hm => begP_congr fun j hj => (e (a + j) (by omega)).symm
 exact ⟨x1,fun m m1 m2 => by rw [k m (by omega)]; exact x2 m m1 m2,fun h => by rw [k _ (by omega)]; exact x3 h⟩
theorem gd_congr {f g:Nat -> Nat} {n a:Nat} {c:Int} (e : ∀ j,j < n -> f j=g j) : gd f n a c=gd g n a c:=by
 rcases Nat.lt_or_ge n a with h | h
 . have h1:=(gd_spec f n a c).1
   have h2:=(gd_spec g n a c).1
   omega
 . exact (gd_eq ((gd_spec f n a c).congr fun j hj => e j (by omega))).symm
theorem nx_congr {f g:Nat -> Nat} {n a:Nat} {c:Int} {sg:List Nat} (e : ∀ j,j < n -> f j=g j) : nx f n a c sg=nx g n a c sg:=by
 unfold nx
 rw [Fd.pk_congr e,gd_congr e]
 by_cases h:n=a + 1
 . rw [e a (by omega)]
 . simp [h]
def Cls (c:Int) : Prop:=c=0 \/ c=1 \/ c=2 \/ c=3 \/ c=6
theorem cls_cr {c:Int} (h:Cls c) (hl:Ch.isT Ch.tab c 10=true) : Ch.isT Ch.tab c 13=true:=by
 rcases h with rfl | rfl | rfl | rfl | rfl
 all_goals first | decide | (revert hl; decide)
def Sgn (sg:List Nat) : Prop:=(∀ s ∈ sg,s < 128) /\ (10 ∈ sg -> 13 ∈ sg)
theorem gd_whole {f:Nat -> Nat} {n n' a:Nat} {c:Int} (hw:Rn.whole (Rn.off f a) (n' - a)=true) (hi:Ch.isT Ch.tab c ((Rn.fv (Rn.off f a) : Nat) : Int)=true) (hn:n - a <= Rn.fs (Rn.off f a) (n' - a)) : gd f n a c=n - a:=by
 obtain ⟨e1,e2⟩:=Rn.enc_fv _ _ hw
 refine gd_eq ⟨Nat.le_refl _,fun m m1 m2 => ?_,fun h => absurd h (Nat.lt_irrefl _)⟩
 rw [begP_congr (g:=Rn.eb (Rn.fv (Rn.off f a) : Nat)) fun j hj => (e2 j (by omega)).symm]
 exact Ch.beg_cut c _ hi m m1 (by omega)
theorem fv_one {f:Nat -> Nat} {n:Nat} (hw:Rn.whole f n=true) (h:f 0 < 128) : Rn.fv f=f 0 /\ Rn.fs f n=1:=by
 obtain ⟨e1,e2⟩:=Rn.enc_fv _ _ hw
 have hp:=Rn.el_pos (Rn.fv f:Nat)
 have h0:=e2 0 (by omega)
 have hs:=Rn.fv_scal _ _ hw
 have hwt:(Rn.want (Rn.fv f:Nat)).toNat=Rn.fv f:=by
  unfold Rn.want
  obtain ⟨s1,s2⟩:=hs
  rw [if_neg (by omega)]
  simp
 have E:=Rn.eb_enc (Rn.fv f:Nat)
 rw [hwt] at E
 cases E with
 | one hn k0 hv => exact ⟨by omega,by omega⟩
 | two hn k0 => omega
 | three hn k0 => omega
 | four hn k0 => omega
theorem fv_first {f:Nat -> Nat} {n:Nat} (hw:Rn.whole f n=true) (h:128 <= f 0) : 128 <= Rn.fv f:=by
 obtain ⟨e1,e2⟩:=Rn.enc_fv _ _ hw
 have hp:=Rn.el_pos (Rn.fv f:Nat)
 have h0:=e2 0 (by omega)
 have hs:=Rn.fv_scal _ _ hw
 have hwt:(Rn.want (Rn.fv f:Nat)).toNat=Rn.fv f:=by
  unfold Rn.want
  obtain ⟨s1,s2⟩:=hs
  rw [if_neg (by omega)]
  simp
 have E:=Rn.eb_enc (Rn.fv f:Nat)
 rw [hwt] at E
 cases E with
 | one hn k0 hv => omega
 | two hn k0 k1 hv => omega
 | three hn k0 k1 k2 hv => omega
 | four hn k0 k1 k2 k3 hv => omega
theorem size_low {b:Nat} (h:b < 128) : Rn.size b=1:=by
 unfold Rn.size
 repeat' split
 all_goals omega
theorem waits_high {f:Nat -> Nat} {n:Nat} (h:Rn.waits f n=true) (hn:0 < n) : 128 <= f 0:=by
 unfold Rn.waits at h
 rw [decide_eq_true_eq] at h
 obtain ⟨h1,h2,h3⟩:=h
 rcases Nat.lt_or_ge (f 0) 128 with k | k
 . unfold Rn.fs at h3
   rw [if_neg (by omega),size_low k] at h3
   omega
 . exact k
theorem pk_wait {f:Nat -> Nat} {n a:Nat} (h:(Fd.pk f n a false).2.2.2=1) : n <= a \/ (n=a + 1 /\ f a=13) \/ (a < n /\ Rn.whole (Rn.off f a) (n - a)=false /\ Rn.waits (Rn.off f a) (n - a)=true):=by
 unfold Fd.pk at h
 split at h
 . next hw =>
   split at h
   . next h13 =>
     have hl:=Fd.whole_lt hw
     by_cases c:a + 1 < n
     . rw [if_pos c] at h
       split at h <;> simp at h
     . right; left
       have hf0:=(Fd.whole_cr hw).1 h13
       refine ⟨by omega, ?_⟩
       have:=hf0.2
       simpa [Rn.off] using this
   . simp at h
 . next hw =>
   split at h
   . next hna => exact .inl hna
   . next hna =>
     right; right
     refine ⟨by omega,by simpa using hw, ?_⟩
     split at h
     . assumption
     . simp at h
theorem nx_up {f:Nat -> Nat} {n n' a:Nat} {c:Int} {sg:List Nat} (hn:n <= n') (hc:Cls c) (hs:Sgn sg) (h:(nx f n a c sg).1 ≠ 1) : nx f n' a c sg=nx f n a c sg:=by
 by_cases hw:(Fd.pk f n a false).2.2.2=1
 . have e0 : ¬ ((Fd.pk f n a false).2.2.2=0 /\ (Ch.isT Ch.tab c ((Fd.pk f n a false).1:Nat)=true \/ (Fd.pk f n a false).1 ∈ sg)):=fun k => by omega
   have h':=h
   unfold nx at h'
   rw [if_neg e0] at h'
   by_cases c1:n=a + 1 /\ f a=13 /\ 13 ∈ sg
   . rw [if_pos c1] at h'
     exact absurd rfl h'
   rw [if_neg c1] at h'
   by_cases c2:gd f n a c < n - a
   . have e1:nx f n a c sg=(2,a + gd f n a c,0):=by
      unfold nx
      rw [if_neg e0,if_neg c1,if_pos c2]
     obtain ⟨g1,g2,g3⟩:=gd_spec f n a c
     have hgd:gd f n' a c=gd f n a c:=gd_eq ⟨by omega,g2,fun _ => g3 c2⟩
     rw [e1]
     have e2 : ¬ ((Fd.pk f n' a false).2.2.2=0 /\ (Ch.isT Ch.tab c ((Fd.pk f n' a false).1:Nat)=true \/ (Fd.pk f n' a false).1 ∈ sg)):=by
      rintro ⟨k1,k2⟩
      rcases pk_wait hw with q | ⟨q1,q2⟩ | ⟨q1,q2,q3⟩
      . omega
      . have hw1:Rn.whole (Rn.off f a) (n' - a)=true:=by
         unfold Fd.pk at k1
         split at k1
         . assumption
         . split at k1
           . simp at k1
           . split at k1 <;> simp at k1
        obtain ⟨v1,v2⟩:=fv_one hw1 (by show f (a + 0) < 128; rw [Nat.add_zero,q2]; omega)
        have v3:Rn.fv (Rn.off f a)=13:=by rw [v1]; exact q2
        have r10:(Fd.pk f n' a false).1=10:=by
         unfold Fd.pk at k1 ⊢
         rw [if_pos hw1,if_pos v3] at k1 ⊢
         by_cases c3:a + 1 < n'
         . rw [if_pos c3]
           split <;> rfl
         . rw [if_neg c3] at k1
           simp at k1
        rw [r10] at k2
        rcases k2 with k2 | k2
        . have k3:=cls_cr hc k2
          have:=gd_whole (n:=n) hw1 (by rw [v3]; exact k3) (by omega)
          omega
        . exact c1 ⟨q1,q2,hs.2 k2⟩
      . have hh:=waits_high q3 (by omega)
        have hw1:Rn.whole (Rn.off f a) (n' - a)=true:=by
         unfold Fd.pk at k1
         split at k1
         . assumption
         . split at k1
           . simp at k1
           . split at k1 <;> simp at k1
        have v1:=fv_first hw1 hh
        have hr:(Fd.pk f n' a false).1=Rn.fv (Rn.off f a):=by
         unfold Fd.pk
         rw [if_pos hw1,if_neg (by omega)]
        rw [hr] at k2
        rcases k2 with k2 | k2
        . have q4:n - a < Rn.fs (Rn.off f a) (n - a):=by
           unfold Rn.waits at q3
           rw [decide_eq_true_eq] at q3
           exact q3.2.2
          have q5:Rn.fs (Rn.off f a) (n - a)=Rn.fs (Rn.off f a) (n' - a):=by
           unfold Rn.fs
           rw [if_neg (by omega),if_neg (by omega)]
          have:=gd_whole (n:=n) hw1 k2 (by omega)
          omega
        . have:=hs.1 _ k2
          omega
     unfold nx
     rw [if_neg e2,if_neg (fun k => c1 ⟨by omega,k.2⟩),hgd,if_pos (by omega)]
   . rw [if_neg c2] at h'
     exact absurd rfl h'
 . have e:Fd.pk f n' a false=Fd.pk f n a false:=by
    exact Fd.pk_stays (r:=(Fd.pk f n a false).1) (a:=(Fd.pk f n a false).2.1) (w:=(Fd.pk f n a false).2.2.1) (x:=(Fd.pk f n a false).2.2.2) rfl hw hn false
   by_cases hok:(Fd.pk f n a false).2.2.2=0 /\ (Ch.isT Ch.tab c ((Fd.pk f n a false).1:Nat)=true \/ (Fd.pk f n a false).1 ∈ sg)
   . unfold nx
     rw [e,if_pos hok,if_pos hok]
   . have h':=h
     unfold nx at h'
     rw [if_neg hok] at h'
     by_cases c1:n=a + 1 /\ f a=13 /\ 13 ∈ sg
     . rw [if_pos c1] at h'
       exact absurd rfl h'
     rw [if_neg c1] at h'
     by_cases c2:gd f n a c < n - a
     . obtain ⟨g1,g2,g3⟩:=gd_spec f n a c
       have hgd:gd f n' a c=gd f n a c:=gd_eq ⟨by omega,g2,fun _ => g3 c2⟩
       unfold nx
       rw [e,if_neg hok,if_neg hok,if_neg (fun k => c1 ⟨by omega,k.2⟩),if_neg c1,hgd,if_pos (by omega),if_pos c2]
     . rw [if_neg c2] at h'
       exact absurd rfl h'
theorem nx_more {f g:Nat -> Nat} {n n' a:Nat} {c:Int} {sg:List Nat} (hfg : ∀ j,j < n -> f j=g j) (hn:n <= n') (hc:Cls c) (hs:Sgn sg) (h:(nx f n a c sg).1 ≠ 1) : nx g n' a c sg=nx f n a c sg:=by
 rw [nx_congr hfg] at h ⊢
 exact nx_up hn hc hs h
theorem onNx_more {f g:Nat -> Nat} {n n' a:Nat} {c:Int} {sg:List Nat} {s t:Wk} {k:Nat -> Wk -> Wk} (hfg : ∀ j,j < n -> f j=g j) (hn:n <= n') (hc:Cls c) (hs:Sgn sg) (h:onNx (nx f n a c sg) s k=some t) : onNx (nx g n' a c sg) s k=some t:=by
 have h1:(nx f n a c sg).1 ≠ 1:=by
  intro e
  unfold onNx at h
  rw [if_neg (by omega),if_neg (by omega)] at h
  cases h
 rw [nx_more hfg hn hc hs h1]
 exact h
theorem onRef_more {f g:Nat -> Nat} {n n':Nat} {s t:Wk} {k:Nat -> Wk -> Wk} (hfg : ∀ j,j < n -> f j=g j) (hn:n <= n') (h:onRef f n s k=some t) : onRef g n' s k=some t:=by
 unfold onRef at h ⊢
 by_cases c:n <= s.ps
 . rw [if_pos c] at h
   cases h
 . rw [if_neg c] at h
   rw [if_neg (by omega), <- hfg s.ps (by omega)]
   exact h
theorem nx_none {f:Nat -> Nat} {n a:Nat} {c:Int} {sg:List Nat} (h:n <= a) : nx f n a c sg=(1,0,0):=by
 have e:Fd.pk f n a false=(0,0,0,1):=by
  unfold Fd.pk
  have hw:Rn.whole (Rn.off f a) (n - a)=false:=by
   rw [show n - a=0 by omega]
   simp [Rn.whole,Rn.fs]
  rw [hw,if_neg (by simp),if_pos h]
  rfl
 have:=gd_le f n a c
 unfold nx
 rw [e,if_neg (by simp),if_neg (by omega),if_neg (by omega)]
theorem step_more {inn:Nat} {nm:List UInt8} {f g:Nat -> Nat} {n n':Nat} {s t:Wk} (hfg : ∀ j,j < n -> f j=g j) (hn:n <= n') (h:step inn nm f n s=some t) : step inn nm g n' s=some t:=by
 unfold step at h ⊢
 split at h
 case h_1 => exact onNx_more hfg hn (by split <;> simp [Cls]) (by simp [Sgn]) h
 case h_2 => exact onRef_more hfg hn h
 case h_3 => exact onNx_more hfg hn (by split <;> simp [Cls]) (by split <;> simp [Sgn]) h
 case h_4 => exact onNx_more hfg hn (by simp [Cls]) (by split <;> simp [Sgn]) h
 case h_14 =>
  by_cases c:s.ps < n
  . rw [<- hfg s.ps c]
    by_cases c2:f s.ps ∈ bl ++ [61] /\ s.attr ∈ s.attrs.map (·.1)
    . rw [if_pos ⟨c,c2⟩] at h
      rw [if_pos ⟨by omega,c2⟩]
      exact h
    . rw [if_neg fun k => c2 k.2] at h
      rw [if_neg fun k => c2 k.2]
      exact onNx_more hfg hn (by simp [Cls]) (by simp [Sgn,bl]) h
  . rw [if_neg fun k => c k.1,nx_none (by omega)] at h
    simp [onNx] at h
 case h_18 => exact onRef_more hfg hn h
 case h_19 =>
  split at h
  . next c => rw [if_pos c]; exact h
  . next c =>
    rw [if_neg c]
    split at h
    . cases h
    . next c2 =>
      rw [if_neg (by omega), <- hfg s.ps (by omega)]
      exact h
 case h_8 =>
  refine onNx_more hfg hn (by simp [Cls]) ?_ h
  have : ∀ i,word.getD i 0 < 128 /\ word.getD i 0 ≠ 10:=by
   intro i
   match i with
   | 0 | 1 | 2 | 3 | 4 | 5 => decide
   | _ + 6 => simp [word]
  have h1:=this s.ct
  simp only [Sgn,List.mem_singleton]
  refine ⟨fun x hx => by omega,fun e => by omega⟩
 all_goals exact onNx_more hfg hn (by simp [Cls]) (by simp [Sgn,bl]) h
theorem Steps.more {inn:Nat} {nm:List UInt8} {f g:Nat -> Nat} {n n':Nat} {s t:Wk} (hfg : ∀ j,j < n -> f j=g j) (hn:n <= n') (h:Steps inn nm f n s t) : Steps inn nm g n' s t:=by
 induction h with
 | refl => exact .refl _
 | cons h0 h r ih => exact .cons h0 (step_more hfg hn h) ih
theorem Steps.line {inn:Nat} {nm:List UInt8} {f:Nat -> Nat} {n:Nat} {s a b:Wk} (ha:Steps inn nm f n s a) (hb:Steps inn nm f n s b) : Steps inn nm f n a b \/ Steps inn nm f n b a:=by
 induction ha with
 | refl => exact .inl hb
 | cons h0 h r ih =>
   cases hb with
   | refl => exact .inr (.cons h0 h r)
   | cons h0' h' r' =>
     rw [h] at h'
     cases h'
     exact ih r'
theorem Steps.ends {inn:Nat} {nm:List UInt8} {f:Nat -> Nat} {n:Nat} {a b:Wk} (h:Steps inn nm f n a b) (ha:Ends inn nm f n a) : a=b:=by
 cases h with
 | refl => rfl
 | cons h0 h r =>
   rcases ha with k | k
   . exact absurd h0 k
   . rw [h] at k
     cases k
theorem Steps.one_end {inn:Nat} {nm:List UInt8} {f:Nat -> Nat} {n:Nat} {s a b:Wk} (ha:Steps inn nm f n s a) (hb:Steps inn nm f n s b) (ea:Ends inn nm f n a) (eb:Ends inn nm f n b) : a=b:=by
 rcases ha.line hb with h | h
 . exact h.ends ea
 . exact (h.ends eb).symm
end Sc
end Go.Proofs.YteiiepjegdlbeaaDoor
