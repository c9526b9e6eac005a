import Derived.Test.YteiiepjegdlbeaaDoorFdDrop
import Derived.Deep.AppendLies
namespace Go.Proofs.YteiiepjegdlbeaaDoor
open Go.RowKit Go.Lib
section
variable {D B:Nat} {v:Value} {g:Nat -> Nat} {n k wh pb pr pl pc:Nat} {bad ended:Bool} {w:World}
end
end Go.Proofs.YteiiepjegdlbeaaDoor
namespace Go.Proofs.YteiiepjegdlbeaaDoor
open Go.RowKit Go.Lib
namespace Fd
open Rn
theorem bad_stays {f:Nat -> Nat} {n n':Nat} (hn:0 < n) (hw:whole f n=false) (hwt:waits f n=false) (h:n <= n') : whole f n'=false /\ waits f n'=false /\ fk f n'=fk f n:=by
 have hf:=fk_lt hn hw hwt
 have e0:fs f n=size (f 0):=by unfold fs; rw [if_neg (by omega)]
 have e1:fs f n'=size (f 0):=by unfold fs; rw [if_neg (by omega)]
 have hk:fk f n'=fk f n:=by
  by_cases hs:size (f 0)=0
  . rw [fk_zero _ _ hs,fk_zero _ _ hs]
  . have:=fk_min f (m:=n) (n:=n') h (by omega)
    omega
 refine ⟨?_, ?_,hk⟩
 . have:=hw
   unfold whole at this ⊢
   rw [e0] at this
   rw [e1,hk]
   exact this
 . simp only [waits,decide_eq_false_iff_not]
   omega
theorem Inv.more_bad {F G:Nat -> Nat} {N N' T d n k wh:Nat} (h:Inv F N T false d n k wh true) (hF : ∀ j,j < N -> F j=G j) (hN:N <= N') : Inv G N' T false d n k wh true:=by
 obtain ⟨a,b,c⟩:=h.wrong rfl
 have hl:=h.le
 have e : ∀ j,j < N - (d + wh) -> off F (d + wh) j=off G (d + wh) j:=fun j hj => hF _ (by omega)
 have hs:=h.stop
 rw [whole_congr e] at hs
 rw [waits_congr e] at b
 rw [fk_congr e] at c
 obtain ⟨s1,s2,s3⟩:=bad_stays (n':=N' - (d + wh)) (by omega) hs b (by omega)
 have hk:d + wh < N:=a
 refine ⟨h.at',(h.run.congr hF).up hN,(h.run0.congr hF).up hN,s1,fun e => (by cases e),fun _ => ⟨by omega,s2,by rw [s3]; exact c⟩,fun _ q => ?_⟩
 have:=h.run.le
 omega
def adv (x:Nat × Nat × Nat × Nat) (p:Nat × Nat × Nat) : Nat × Nat × Nat :=
 if x.2.2.2=0 then (if x.1=10 then (p.1 + x.2.2.1,p.2.1 + 1,1) else (p.1 + 1,p.2.1,p.2.2 + 1)) else p
theorem pk_no {F:Nat -> Nat} {N T:Nat} {E:Bool} (h:(pk F N T E).2.2.2 ≠ 0) : (pk F N T E).2.2.1=0:=by
 revert h
 unfold pk
 repeat' split
 all_goals simp
theorem pk_bound (F:Nat -> Nat) (N T:Nat) (E:Bool) : (pk F N T E).2.1 <= N - T /\ (T <= N -> T + (pk F N T E).2.2.1 <= N):=by
 have h1:=fk_le (off F T) (N - T)
 by_cases hw:whole (off F T) (N - T)=true
 . have hl:=whole_lt hw
   unfold pk
   rw [if_pos hw]
   repeat' split
   all_goals (simp only; omega)
 . unfold pk
   rw [if_neg hw]
   repeat' split
   all_goals (simp only; omega)
end Fd
theorem FeedAt.congr {w:World} {D B:Nat} {v:Value} {g g':Nat -> Nat} {n k wh pb pr pl pc:Nat} {bad ended:Bool} (h:FeedAt w D B v g n k wh pb pr pl pc bad ended) (hg : ∀ j,j < n -> g j=g' j) : FeedAt w D B v g' n k wh pb pr pl pc bad ended:=by
 refine ⟨h.1, ?_⟩
 have:xs g n=xs g' n:=by
  apply List.ext_getElem?
  intro j
  by_cases hj:j < n
  . rw [xs_at _ _ _ hj,xs_at _ _ _ hj,hg j hj]
  . rw [List.getElem?_eq_none (by rw [xs_length]; omega),List.getElem?_eq_none (by rw [xs_length]; omega)]
 rw [<- this]
 exact h.2
def Feed (w:World) (D B:Nat) (F:Nat -> Nat) (N T:Nat) (E:Bool) (v:Value) (p:Nat × Nat × Nat) : Prop :=
 (p.1 <= T /\ p.2.1 <= T + 1 /\ p.2.2 <= T + 1 /\ N <= 140737488355328) /\ ∃ d n k wh bad,FeedAt w D B v (Rn.off F d) n k wh T p.1 p.2.1 p.2.2 bad E /\ Fd.Inv F N T E d n k wh bad
theorem Feed.below {w w':World} {D B:Nat} {F:Nat -> Nat} {N T:Nat} {E:Bool} {v:Value} {p:Nat × Nat × Nat} (h:Feed w D B F N T E v p) (hb:Below w.heap.size w w') : Feed w' D B F N T E v p:=by
 obtain ⟨h0,d,n,k,wh,bad,h1,h2⟩:=h
 exact ⟨h0,d,n,k,wh,bad,h1.below hb,h2⟩
theorem Feed.lt {w:World} {D B:Nat} {F:Nat -> Nat} {N T:Nat} {E:Bool} {v:Value} {p:Nat × Nat × Nat} (h:Feed w D B F N T E v p) : D < w.heap.size:=by
 obtain ⟨h0,d,n,k,wh,bad,h1,h2⟩:=h
 exact h1.lt
theorem Feed.row {w:World} {D B:Nat} {F:Nat -> Nat} {N T:Nat} {E:Bool} {v:Value} {p:Nat × Nat × Nat} (h:Feed w D B F N T E v p) : ∀ q,v.ownBlock=some q -> B <= q /\ q < w.heap.size:=by
 obtain ⟨h0,d,n,k,wh,bad,h1,h2⟩:=h
 exact fun q hq => h1.2.lt q hq
theorem Feed.keep {w w':World} {D B:Nat} {F:Nat -> Nat} {N T:Nat} {E:Bool} {v:Value} {p:Nat × Nat × Nat} (h:Feed w D B F N T E v p) (hD:w'.heap[D]? = w.heap[D]?) (hv : ∀ q,v.ownBlock=some q -> w'.heap[q]? = w.heap[q]?) : Feed w' D B F N T E v p:=by
 obtain ⟨h0,d,n,k,wh,bad,h1,h2⟩:=h
 exact ⟨h0,d,n,k,wh,bad,⟨hD.trans h1.1,kept_grown h1.2 hv⟩,h2⟩
theorem feedNew_abs (w:World) (F:Nat -> Nat) (B:Nat) :
 Calls Tryd.prog 44 #[] w fun e w' => e = .returned (.pointer (some ⟨w.heap.size,0,none⟩)) /\ Feed w' w.heap.size B F 0 0 false (.slice none 0 0) (0,1,1) /\ Below w.heap.size w w' /\ w.heap.size < w'.heap.size:=by
 refine (feedNew_any w (Rn.off F 0) B).mono ?_
 rintro e w' ⟨rfl,h1,h2,h3⟩
 exact ⟨rfl,⟨⟨by simp,by simp,by simp,by omega⟩,0,0,0,0,false,h1,Fd.Inv.new F⟩,h2,h3⟩
section
variable {w:World} {D B:Nat} {F:Nat -> Nat} {N T:Nat} {E:Bool} {v:Value} {p:Nat × Nat × Nat}
theorem feedPeek_abs (hT:Lib.Utf8Tabs 2 3 w) (hF : ∀ j,F j < 256) (h:Feed w D B F N T E v p) :
 Calls Tryd.prog 72 #[.pointer (some ⟨D,0,none⟩)] w fun e w' => e = .returned (Fd.pkV (Fd.pk F N T E) T p.1 p.2.1 p.2.2) /\ Below w.heap.size w w':=by
 obtain ⟨h0,d,n,k,wh,bad,h1,h2⟩:=h
 have hl:=h2.le
 have:=feedPeek_any (g:=Rn.off F d) hT (fun j => hF _) h1 (by omega) (by omega) (by omega) (by omega)
 rw [h2.pk] at this
 exact this
theorem feedNext_abs (hT:Lib.Utf8Tabs 2 3 w) (hF : ∀ j,F j < 256) (h:Feed w D B F N T E v p) :
 Calls Tryd.prog 64 #[.pointer (some ⟨D,0,none⟩)] w fun e w' => e = .returned (Fd.pkV (Fd.pk F N T E) T p.1 p.2.1 p.2.2) /\ Feed w' D B F N (T + (Fd.pk F N T E).2.2.1) E v (Fd.adv (Fd.pk F N T E) p) /\ But D w w':=by
 have cP:=fun W (hb:Below w.heap.size w W) => feedPeek_abs (tabs_below hT hb (Nat.le_refl _)) hF (h.below hb)
 obtain ⟨h0,d,n,k,wh,bad,h1,h2⟩:=h
 have hl:=h2.le
 have hbd:=Fd.pk_bound F N T E
 have hbk:=h2.at'
 cases hx:Fd.pk F N T E with
 | mk r x2 => cases x2 with
   | mk a x3 => cases x3 with
     | mk z m =>
       rw [hx] at hbd cP
       simp only at hbd
       by_cases hm:m=0
       . subst hm
         obtain ⟨ha,hz, -,hz4, -, -⟩:=Fd.pk_have hx
         have cP' : ∀ W,Below w.heap.size w W -> _:=cP
         simp only [Fd.pkV,if_true] at cP' ⊢
         have hI:=h2.take hx
         by_cases hr:r=10
         . subst hr
           refine (next_nl h1 z T p.1 p.2.1 p.2.2 (by omega) (by omega) (by omega) (by omega) cP').mono ?_
           rintro e w' ⟨rfl,h3,h4⟩
           refine ⟨rfl,⟨?_,d,n,k + z,wh,bad, ?_,hI⟩,h4⟩
           . simp only [Fd.adv,if_true]; omega
           . simp only [Fd.adv,if_true]; exact h3
         . refine (next_ch h1 r z T p.1 p.2.1 p.2.2 hr (by omega) (by omega) (by omega) (by omega) cP').mono ?_
           rintro e w' ⟨rfl,h3,h4⟩
           refine ⟨rfl,⟨?_,d,n,k + z,wh,bad, ?_,hI⟩,h4⟩
           . simp only [Fd.adv,if_true,if_neg hr]; omega
           . simp only [Fd.adv,if_true,if_neg hr]; exact h3
       . have hz:z=0:=by
          have:=Fd.pk_no (F:=F) (N:=N) (T:=T) (E:=E) (by rw [hx]; exact hm)
          rw [hx] at this
          exact this
         subst hz
         have fin : ∀ (y0 y1 y2 y3 y4:Nat),Fd.pkV (r,a,0,m) T p.1 p.2.1 p.2.2 = .tuple #[.agg #[.int .i32 y0, .int .i64 y1, .int .i64 y2, .int .i64 y3, .int .i64 y4, .int .i64 (0:Nat)], .int .i64 m] -> Calls Tryd.prog 64 #[.pointer (some ⟨D,0,none⟩)] w fun e w' => e = .returned (Fd.pkV (r,a,0,m) T p.1 p.2.1 p.2.2) /\ Feed w' D B F N (T + 0) E v (Fd.adv (r,a,0,m) p) /\ But D w w':=fun y0 y1 y2 y3 y4 hy => by
          have cP' : ∀ W,Below w.heap.size w W -> _:=cP
          simp only [hy] at cP' ⊢
          refine (next_no h1 y0 0 m y1 y2 y3 y4 hm cP').mono ?_
          rintro e w' ⟨rfl,h3,h4⟩
          refine ⟨rfl,⟨?_,d,n,k,wh,bad, ?_,h2⟩,h4⟩
          . simp only [Fd.adv,if_neg hm]; omega
          . simp only [Fd.adv,if_neg hm]; exact h3
         by_cases h22:m=2
         . subst h22
           exact fin 0 (T + a) (p.1 + a) p.2.1 (p.2.2 + a) (by simp [Fd.pkV])
         . exact fin 0 0 0 0 0 (by simp [Fd.pkV,hm,h22])
end
end Go.Proofs.YteiiepjegdlbeaaDoor
