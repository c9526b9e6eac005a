import Derived.Test.YteiiepjegdlbeaaDoorChBegins
import Derived.Test.YteiiepjegdlbeaaDoorRnEnc
set_option maxHeartbeats 1000000
set_option maxRecDepth 100000
namespace Go.Proofs.YteiiepjegdlbeaaDoor
open Go.RowKit Go.Lib
end Go.Proofs.YteiiepjegdlbeaaDoor
namespace Go.Proofs.YteiiepjegdlbeaaDoor
open Go.RowKit Go.Lib
namespace Ch
theorem rise_small {b:Nat} {l:List (Nat × Nat)} (h:rise b l=true) : ∀ p ∈ l,p.1 <= p.2 /\ p.2 <= 1114111:=by
 induction l generalizing b with
 | nil => intro p hp; cases hp
 | cons q t ih =>
   obtain ⟨h1,h2,h3,h4⟩:=rise_cons h
   intro p hp
   rcases List.mem_cons.1 hp with rfl | hp
   . exact ⟨h2,h3⟩
   . exact ih h4 p hp
theorem rg_small (c:Int) : ∀ p ∈ rg c,p.1 <= p.2 /\ p.2 <= 1114111:=rise_small (rg_rise c)
theorem isR_cons (p:Nat × Nat) (t:List (Nat × Nat)) (r:Int) : isR (p :: t) r=if (p.1:Int) <= r /\ r <= (p.2:Int) then true else isR t r:=rfl
theorem nextR_cons (p:Nat × Nat) (t:List (Nat × Nat)) (r:Int) : nextR (p :: t) r=if r < (p.2:Int) then (max (p.1:Int) (r + 1),true) else nextR t r:=rfl
end Ch
end Go.Proofs.YteiiepjegdlbeaaDoor
namespace Go.Proofs.YteiiepjegdlbeaaDoor
open Go.RowKit Go.Lib
namespace Ch
def kdK (x:Nat) : Nat:=if x < 128 then 1 else if 192 <= x /\ x < 224 then 2 else if 224 <= x /\ x < 240 then 3 else if 240 <= x /\ x < 248 then 4 else 0
def kdF (x:Nat) : Nat:=if x < 128 then x else if 192 <= x /\ x < 224 then x - 192 else if 224 <= x /\ x < 240 then x - 224 else if 240 <= x /\ x < 248 then x - 240 else 0
def kdL (x:Nat) : Nat:=if x < 128 then 0 else if 192 <= x /\ x < 224 then 128 else if 224 <= x /\ x < 240 then 2048 else if 240 <= x /\ x < 248 then 65536 else 0
theorem kd_cases (x:Nat) : (x < 128 /\ kdK x=1 /\ kdF x=x /\ kdL x=0) \/ (192 <= x /\ x < 224 /\ kdK x=2 /\ kdF x=x - 192 /\ kdL x=128) \/ (224 <= x /\ x < 240 /\ kdK x=3 /\ kdF x=x - 224 /\ kdL x=2048) \/
 (240 <= x /\ x < 248 /\ kdK x=4 /\ kdF x=x - 240 /\ kdL x=65536) \/ (128 <= x /\ x < 192 /\ kdK x=0 /\ kdF x=0 /\ kdL x=0) \/ (248 <= x /\ kdK x=0 /\ kdF x=0 /\ kdL x=0):=by
 unfold kdK kdF kdL
 repeat' split
 all_goals omega
def fst (f:Nat -> Nat) : Nat -> Nat
 | 0 => kdF (f 0)
 | m + 1 => fst f m * 64 + (f (m + 1) - 128)
def tails (f:Nat -> Nat) : Nat -> Bool
 | 0 => true
 | m + 1 => tails f m && decide (128 <= f (m + 1) /\ f (m + 1) <= 191)
def up:Nat -> Nat -> Nat
 | a,0 => a
 | a,i + 1 => up a i * 64
def dn:Nat -> Nat -> Nat
 | a,0 => a
 | a,i + 1 => dn a i * 64 + 63
def span (f:Nat -> Nat) (n:Nat) : Int × Int :=
 if n=0 \/ 4 < n \/ kdK (f 0) < n then (1,0) else if tails f (n - 1) then (max (up (fst f (n - 1)) (kdK (f 0) - n) : Int) (kdL (f 0)),min (dn (fst f (n - 1)) (kdK (f 0) - n) : Int) 1114111) else (1,0)
end Ch
end Go.Proofs.YteiiepjegdlbeaaDoor
namespace Go.Proofs.YteiiepjegdlbeaaDoor.Ch
open Go.Lib
def ovR:List (Nat × Nat) -> Int -> Int -> Bool
 | [],_,_ => false
 | p :: t,a,h => if max (p.1:Int) a <= min (p.2:Int) h then true else ovR t a h
theorem ovR_cons (p:Nat × Nat) (t:List (Nat × Nat)) (a h:Int) : ovR (p :: t) a h=if max (p.1:Int) a <= min (p.2:Int) h then true else ovR t a h:=rfl
theorem ovR_empty (l:List (Nat × Nat)) {a h:Int} (hh:h < a) : ovR l a h=false:=by
 induction l with
 | nil => rfl
 | cons p t ih => rw [ovR_cons,if_neg (by omega),ih]
theorem ovR_low {b:Nat} {l:List (Nat × Nat)} (hr:rise b l=true) (a:Int) {h:Int} (hh:h < b) : ovR l a h=false:=by
 induction l generalizing b with
 | nil => rfl
 | cons p t ih =>
   obtain ⟨h1,h2,h3,h4⟩:=rise_cons hr
   rw [ovR_cons,if_neg (by omega),ih h4 (by omega)]
theorem next_ov {b:Nat} {l:List (Nat × Nat)} (hr:rise b l=true) (a h:Int) : ((nextR l (a - 1)).2 && decide ((nextR l (a - 1)).1 <= h))=ovR l a h:=by
 induction l generalizing b with
 | nil => rfl
 | cons p t ih =>
   obtain ⟨h1,h2,h3,h4⟩:=rise_cons hr
   rw [ovR_cons,nextR_cons]
   by_cases c:a - 1 < (p.2:Int)
   . rw [if_pos c]
     simp only [Bool.true_and]
     by_cases d:max (p.1:Int) (a - 1 + 1) <= h
     . rw [if_pos (by omega),decide_eq_true d]
     . rw [if_neg (by omega),decide_eq_false d,ovR_low h4 a (by omega)]
   . rw [if_neg c,if_neg (by omega),ih h4]
def gapB (l:List (Nat × Nat)) : Bool:=l.all fun p => decide (p.2 < 55296 \/ 57343 < p.1)
theorem rg_gap (c:Int) : gapB (rg c)=true:=by
 rcases rg_cases c with ⟨_,h⟩ | ⟨_,h⟩ | ⟨_,h⟩ | ⟨_,h⟩ | ⟨_,h⟩ | ⟨_,h⟩ | ⟨_,h⟩ <;> rw [h] <;> decide +kernel
theorem ovR_gap {l:List (Nat × Nat)} (hg:gapB l=true) {a h:Int} (ha:55296 <= a) (hh:h <= 57343) : ovR l a h=false:=by
 induction l with
 | nil => rfl
 | cons p t ih =>
   simp only [gapB,List.all_cons,Bool.and_eq_true,decide_eq_true_eq] at hg
   rw [ovR_cons,if_neg (by omega),ih (by simpa [gapB] using hg.2)]
theorem ovR_upto {l:List (Nat × Nat)} (hg:gapB l=true) (a:Int) : ovR l a 57343=ovR l a 55295:=by
 induction l with
 | nil => rfl
 | cons p t ih =>
   simp only [gapB,List.all_cons,Bool.and_eq_true,decide_eq_true_eq] at hg
   rw [ovR_cons,ovR_cons,ih (by simpa [gapB] using hg.2)]
   by_cases c:max (p.1:Int) a <= min (p.2:Int) 55295
   . rw [if_pos c,if_pos (by omega)]
   . rw [if_neg c,if_neg (by omega)]
theorem size_kd (x:Nat) : Rn.size x <= kdK x:=by
 unfold Rn.size kdK
 repeat' split
 all_goals omega
theorem fk1 (f:Nat -> Nat) : Rn.fk f 1=1 ↔ 0 < Rn.size (f 0):=by
 unfold Rn.fk Rn.len
 repeat' split
 all_goals omega
theorem fk2 (f:Nat -> Nat) : Rn.fk f 2=2 ↔ 1 < Rn.size (f 0) /\ Rn.lo (f 0) <= f 1 /\ f 1 <= Rn.hi (f 0):=by
 have:=Rn.size_le (f 0)
 unfold Rn.fk Rn.len
 repeat' split
 all_goals omega
theorem fk3 (f:Nat -> Nat) : Rn.fk f 3=3 ↔ 2 < Rn.size (f 0) /\ Rn.lo (f 0) <= f 1 /\ f 1 <= Rn.hi (f 0) /\ 128 <= f 2 /\ f 2 <= 191:=by
 have:=Rn.size_le (f 0)
 unfold Rn.fk Rn.len
 repeat' split
 all_goals omega
theorem fk4 (f:Nat -> Nat) : Rn.fk f 4=4 ↔ 3 < Rn.size (f 0) /\ Rn.lo (f 0) <= f 1 /\ f 1 <= Rn.hi (f 0) /\ 128 <= f 2 /\ f 2 <= 191 /\ 128 <= f 3 /\ f 3 <= 191:=by
 have:=Rn.size_le (f 0)
 unfold Rn.fk Rn.len
 repeat' split
 all_goals omega
theorem tails1 (f:Nat -> Nat) : tails f 1=decide (128 <= f 1 /\ f 1 <= 191):=by simp [tails]
theorem tails2 (f:Nat -> Nat) : tails f 2=(decide (128 <= f 1 /\ f 1 <= 191) && decide (128 <= f 2 /\ f 2 <= 191)):=by simp [tails]
theorem tails3 (f:Nat -> Nat) : tails f 3=(decide (128 <= f 1 /\ f 1 <= 191) && decide (128 <= f 2 /\ f 2 <= 191) && decide (128 <= f 3 /\ f 3 <= 191)):=by simp [tails]
def Same (f:Nat -> Nat) (n:Nat) : Prop :=
 if Rn.fk f n=n then (span f n).1=low f n /\ ((span f n).2=high f n \/ ((span f n).2=57343 /\ high f n=55295))
 else (span f n).2 < (span f n).1 \/ (55296 <= (span f n).1 /\ (span f n).2 <= 57343)
theorem low_1 (f:Nat -> Nat) : low f 1=Rn.val (f 0) (Rn.lo (f 0)) 128 128:=rfl
theorem low_2 (f:Nat -> Nat) : low f 2=Rn.val (f 0) (f 1) 128 128:=rfl
theorem low_3 (f:Nat -> Nat) : low f 3=Rn.val (f 0) (f 1) (f 2) 128:=rfl
theorem low_4 (f:Nat -> Nat) : low f 4=Rn.val (f 0) (f 1) (f 2) (f 3):=rfl
theorem high_1 (f:Nat -> Nat) : high f 1=Rn.val (f 0) (Rn.hi (f 0)) 191 191:=rfl
theorem high_2 (f:Nat -> Nat) : high f 2=Rn.val (f 0) (f 1) 191 191:=rfl
theorem high_3 (f:Nat -> Nat) : high f 3=Rn.val (f 0) (f 1) (f 2) 191:=rfl
theorem high_4 (f:Nat -> Nat) : high f 4=Rn.val (f 0) (f 1) (f 2) (f 3):=rfl
theorem val_1 {b0 b1 b2 b3:Nat} (e:Rn.size b0=1) : Rn.val b0 b1 b2 b3=b0:=by unfold Rn.val; rw [e]; rfl
theorem val_2 {b0 b1 b2 b3:Nat} (e:Rn.size b0=2) : Rn.val b0 b1 b2 b3=b0 % 32 * 64 + b1 % 64:=by unfold Rn.val; rw [e]; rfl
theorem val_3 {b0 b1 b2 b3:Nat} (e:Rn.size b0=3) : Rn.val b0 b1 b2 b3=b0 % 16 * 4096 + b1 % 64 * 64 + b2 % 64:=by unfold Rn.val; rw [e]; rfl
theorem val_4 {b0 b1 b2 b3:Nat} (e:Rn.size b0=4) : Rn.val b0 b1 b2 b3=b0 % 8 * 262144 + b1 % 64 * 4096 + b2 % 64 * 64 + b3 % 64:=by unfold Rn.val; rw [e]; rfl
theorem up0 (a:Nat) : up a 0=a:=rfl
theorem up1 (a:Nat) : up a 1=a * 64:=rfl
theorem up2 (a:Nat) : up a 2=a * 64 * 64:=rfl
theorem up3 (a:Nat) : up a 3=a * 64 * 64 * 64:=rfl
theorem dn0 (a:Nat) : dn a 0=a:=rfl
theorem dn1 (a:Nat) : dn a 1=a * 64 + 63:=rfl
theorem dn2 (a:Nat) : dn a 2=(a * 64 + 63) * 64 + 63:=rfl
theorem dn3 (a:Nat) : dn a 3=((a * 64 + 63) * 64 + 63) * 64 + 63:=rfl
theorem fst0 (f:Nat -> Nat) : fst f 0=kdF (f 0):=rfl
theorem fst1 (f:Nat -> Nat) : fst f 1=kdF (f 0) * 64 + (f 1 - 128):=rfl
theorem fst2 (f:Nat -> Nat) : fst f 2=(kdF (f 0) * 64 + (f 1 - 128)) * 64 + (f 2 - 128):=rfl
theorem fst3 (f:Nat -> Nat) : fst f 3=((kdF (f 0) * 64 + (f 1 - 128)) * 64 + (f 2 - 128)) * 64 + (f 3 - 128):=rfl
theorem span_short (f:Nat -> Nat) (n:Nat) (h:n=0 \/ 4 < n \/ kdK (f 0) < n) : span f n=(1,0):=by unfold span; rw [if_pos h]
theorem span_tails (f:Nat -> Nat) (n:Nat) (h:tails f (n - 1)=false) : span f n=(1,0):=by
 unfold span
 rw [h]
 simp
theorem span_in (f:Nat -> Nat) (n:Nat) (h : ¬ (n=0 \/ 4 < n \/ kdK (f 0) < n)) (ht:tails f (n - 1)=true) :
 (span f n).1=max (up (fst f (n - 1)) (kdK (f 0) - n) : Int) (kdL (f 0)) /\ (span f n).2=min (dn (fst f (n - 1)) (kdK (f 0) - n) : Int) 1114111:=by
 unfold span
 rw [if_neg h,ht]
 exact ⟨rfl,rfl⟩
theorem same_none {f:Nat -> Nat} {n:Nat} (hk : ¬ Rn.fk f n=n) (h:span f n=(1,0)) : Same f n:=by
 unfold Same
 rw [if_neg hk,h]
 left
 decide
theorem same_1 (f:Nat -> Nat) (hf : ∀ j,f j < 256) : Same f 1:=by
 have h0:=hf 0
 have hfk:=fk1 f
 have ht:tails f (1 - 1)=true:=rfl
 rcases kd_cases (f 0) with ⟨g1,hK,hF,hL⟩ | ⟨g1,g2,hK,hF,hL⟩ | ⟨g1,g2,hK,hF,hL⟩ | ⟨g1,g2,hK,hF,hL⟩ | ⟨g1,g2,hK,hF,hL⟩ | ⟨g1,hK,hF,hL⟩
 . obtain ⟨s1,s2⟩:=span_in f 1 (by omega) ht
   rw [hK,hL] at s1
   simp only [Nat.reduceSub] at s1
   rw [up0,fst0,hF] at s1
   rw [hK] at s2
   simp only [Nat.reduceSub] at s2
   rw [dn0,fst0,hF] at s2
   unfold Same
   rw [low_1,high_1]
   generalize span f 1=sp at *
   generalize f 0=x0 at *
   rcases Rn.size_cases x0 with ⟨e,q⟩ | ⟨e,q1,q2,l,h⟩ | ⟨e,q1,q2,h⟩ | ⟨e,q1,q2,h⟩ | ⟨e,q1,q2⟩
   . rw [val_1 e,val_1 e]
     split <;> omega
   . omega
   . omega
   . omega
   . rw [if_neg (by omega)]
     omega
 . obtain ⟨s1,s2⟩:=span_in f 1 (by omega) ht
   rw [hK,hL] at s1
   simp only [Nat.reduceSub] at s1
   rw [up1,fst0,hF] at s1
   rw [hK] at s2
   simp only [Nat.reduceSub] at s2
   rw [dn1,fst0,hF] at s2
   unfold Same
   rw [low_1,high_1]
   generalize span f 1=sp at *
   generalize f 0=x0 at *
   rcases Rn.size_cases x0 with ⟨e,q⟩ | ⟨e,q1,q2,l,h⟩ | ⟨e,q1,q2,h⟩ | ⟨e,q1,q2,h⟩ | ⟨e,q1,q2⟩
   . omega
   . rw [val_2 e,val_2 e]
     split <;> omega
   . omega
   . omega
   . rw [if_neg (by omega)]
     omega
 . obtain ⟨s1,s2⟩:=span_in f 1 (by omega) ht
   rw [hK,hL] at s1
   simp only [Nat.reduceSub] at s1
   rw [up2,fst0,hF] at s1
   rw [hK] at s2
   simp only [Nat.reduceSub] at s2
   rw [dn2,fst0,hF] at s2
   unfold Same
   rw [low_1,high_1]
   generalize span f 1=sp at *
   generalize f 0=x0 at *
   rcases Rn.size_cases x0 with ⟨e,q⟩ | ⟨e,q1,q2,l,h⟩ | ⟨e,q1,q2,h⟩ | ⟨e,q1,q2,h⟩ | ⟨e,q1,q2⟩
   . omega
   . omega
   . rcases h with ⟨p1,p2,p3⟩ | ⟨p1,p2,p3⟩ | ⟨p1,p2,p3,p4⟩
     . rw [val_3 e,val_3 e]
       split <;> omega
     . rw [val_3 e,val_3 e]
       split <;> omega
     . rw [val_3 e,val_3 e]
       split <;> omega
   . omega
   . rw [if_neg (by omega)]
     omega
 . obtain ⟨s1,s2⟩:=span_in f 1 (by omega) ht
   rw [hK,hL] at s1
   simp only [Nat.reduceSub] at s1
   rw [up3,fst0,hF] at s1
   rw [hK] at s2
   simp only [Nat.reduceSub] at s2
   rw [dn3,fst0,hF] at s2
   unfold Same
   rw [low_1,high_1]
   generalize span f 1=sp at *
   generalize f 0=x0 at *
   rcases Rn.size_cases x0 with ⟨e,q⟩ | ⟨e,q1,q2,l,h⟩ | ⟨e,q1,q2,h⟩ | ⟨e,q1,q2,h⟩ | ⟨e,q1,q2⟩
   . omega
   . omega
   . omega
   . rcases h with ⟨p1,p2,p3⟩ | ⟨p1,p2,p3⟩ | ⟨p1,p2,p3,p4⟩
     . rw [val_4 e,val_4 e]
       split <;> omega
     . rw [val_4 e,val_4 e]
       split <;> omega
     . rw [val_4 e,val_4 e]
       split <;> omega
   . rw [if_neg (by omega)]
     omega
 . refine same_none (fun h => ?_) (span_short f 1 (.inr (.inr (by omega))))
   have hh:=hfk.1 h
   have hs:=size_kd (f 0)
   omega
 . refine same_none (fun h => ?_) (span_short f 1 (.inr (.inr (by omega))))
   have hh:=hfk.1 h
   have hs:=size_kd (f 0)
   omega
theorem same_2 (f:Nat -> Nat) (hf : ∀ j,f j < 256) : Same f 2:=by
 have h0:=hf 0
 have h1:=hf 1
 have hfk:=fk2 f
 cases ht:tails f (2 - 1)
 . refine same_none (fun h => ?_) (span_tails f 2 ht)
   have hh:=hfk.1 h
   have hl:=lo_hi (f 0)
   rw [show 2 - 1=1 from rfl,tails1] at ht
   simp at ht
   omega
 . rcases kd_cases (f 0) with ⟨g1,hK,hF,hL⟩ | ⟨g1,g2,hK,hF,hL⟩ | ⟨g1,g2,hK,hF,hL⟩ | ⟨g1,g2,hK,hF,hL⟩ | ⟨g1,g2,hK,hF,hL⟩ | ⟨g1,hK,hF,hL⟩
   . refine same_none (fun h => ?_) (span_short f 2 (.inr (.inr (by omega))))
     have hh:=hfk.1 h
     have hs:=size_kd (f 0)
     omega
   . obtain ⟨s1,s2⟩:=span_in f 2 (by omega) ht
     rw [hK,hL] at s1
     simp only [Nat.reduceSub] at s1
     rw [up0,fst1,hF] at s1
     rw [hK] at s2
     simp only [Nat.reduceSub] at s2
     rw [dn0,fst1,hF] at s2
     rw [show 2 - 1=1 from rfl,tails1] at ht
     simp at ht
     unfold Same
     rw [low_2,high_2]
     generalize span f 2=sp at *
     generalize f 0=x0 at *
     generalize f 1=x1 at *
     rcases Rn.size_cases x0 with ⟨e,q⟩ | ⟨e,q1,q2,l,h⟩ | ⟨e,q1,q2,h⟩ | ⟨e,q1,q2,h⟩ | ⟨e,q1,q2⟩
     . omega
     . rw [val_2 e,val_2 e]
       split <;> omega
     . omega
     . omega
     . rw [if_neg (by omega)]
       omega
   . obtain ⟨s1,s2⟩:=span_in f 2 (by omega) ht
     rw [hK,hL] at s1
     simp only [Nat.reduceSub] at s1
     rw [up1,fst1,hF] at s1
     rw [hK] at s2
     simp only [Nat.reduceSub] at s2
     rw [dn1,fst1,hF] at s2
     rw [show 2 - 1=1 from rfl,tails1] at ht
     simp at ht
     unfold Same
     rw [low_2,high_2]
     generalize span f 2=sp at *
     generalize f 0=x0 at *
     generalize f 1=x1 at *
     rcases Rn.size_cases x0 with ⟨e,q⟩ | ⟨e,q1,q2,l,h⟩ | ⟨e,q1,q2,h⟩ | ⟨e,q1,q2,h⟩ | ⟨e,q1,q2⟩
     . omega
     . omega
     . rcases h with ⟨p1,p2,p3⟩ | ⟨p1,p2,p3⟩ | ⟨p1,p2,p3,p4⟩
       . rw [val_3 e,val_3 e]
         split <;> omega
       . rw [val_3 e,val_3 e]
         split <;> omega
       . rw [val_3 e,val_3 e]
         split <;> omega
     . omega
     . rw [if_neg (by omega)]
       omega
   . obtain ⟨s1,s2⟩:=span_in f 2 (by omega) ht
     rw [hK,hL] at s1
     simp only [Nat.reduceSub] at s1
     rw [up2,fst1,hF] at s1
     rw [hK] at s2
     simp only [Nat.reduceSub] at s2
     rw [dn2,fst1,hF] at s2
     rw [show 2 - 1=1 from rfl,tails1] at ht
     simp at ht
     unfold Same
     rw [low_2,high_2]
     generalize span f 2=sp at *
     generalize f 0=x0 at *
     generalize f 1=x1 at *
     rcases Rn.size_cases x0 with ⟨e,q⟩ | ⟨e,q1,q2,l,h⟩ | ⟨e,q1,q2,h⟩ | ⟨e,q1,q2,h⟩ | ⟨e,q1,q2⟩
     . omega
     . omega
     . omega
     . rcases h with ⟨p1,p2,p3⟩ | ⟨p1,p2,p3⟩ | ⟨p1,p2,p3,p4⟩
       . rw [val_4 e,val_4 e]
         split <;> omega
       . rw [val_4 e,val_4 e]
         split <;> omega
       . rw [val_4 e,val_4 e]
         split <;> omega
     . rw [if_neg (by omega)]
       omega
   . refine same_none (fun h => ?_) (span_short f 2 (.inr (.inr (by omega))))
     have hh:=hfk.1 h
     have hs:=size_kd (f 0)
     omega
   . refine same_none (fun h => ?_) (span_short f 2 (.inr (.inr (by omega))))
     have hh:=hfk.1 h
     have hs:=size_kd (f 0)
     omega
theorem same_3 (f:Nat -> Nat) (hf : ∀ j,f j < 256) : Same f 3:=by
 have h0:=hf 0
 have h1:=hf 1
 have h2:=hf 2
 have hfk:=fk3 f
 cases ht:tails f (3 - 1)
 . refine same_none (fun h => ?_) (span_tails f 3 ht)
   have hh:=hfk.1 h
   have hl:=lo_hi (f 0)
   rw [show 3 - 1=2 from rfl,tails2] at ht
   simp at ht
   omega
 . rcases kd_cases (f 0) with ⟨g1,hK,hF,hL⟩ | ⟨g1,g2,hK,hF,hL⟩ | ⟨g1,g2,hK,hF,hL⟩ | ⟨g1,g2,hK,hF,hL⟩ | ⟨g1,g2,hK,hF,hL⟩ | ⟨g1,hK,hF,hL⟩
   . refine same_none (fun h => ?_) (span_short f 3 (.inr (.inr (by omega))))
     have hh:=hfk.1 h
     have hs:=size_kd (f 0)
     omega
   . refine same_none (fun h => ?_) (span_short f 3 (.inr (.inr (by omega))))
     have hh:=hfk.1 h
     have hs:=size_kd (f 0)
     omega
   . obtain ⟨s1,s2⟩:=span_in f 3 (by omega) ht
     rw [hK,hL] at s1
     simp only [Nat.reduceSub] at s1
     rw [up0,fst2,hF] at s1
     rw [hK] at s2
     simp only [Nat.reduceSub] at s2
     rw [dn0,fst2,hF] at s2
     rw [show 3 - 1=2 from rfl,tails2] at ht
     simp at ht
     unfold Same
     rw [low_3,high_3]
     generalize span f 3=sp at *
     generalize f 0=x0 at *
     generalize f 1=x1 at *
     generalize f 2=x2 at *
     rcases Rn.size_cases x0 with ⟨e,q⟩ | ⟨e,q1,q2,l,h⟩ | ⟨e,q1,q2,h⟩ | ⟨e,q1,q2,h⟩ | ⟨e,q1,q2⟩
     . omega
     . omega
     . rcases h with ⟨p1,p2,p3⟩ | ⟨p1,p2,p3⟩ | ⟨p1,p2,p3,p4⟩
       . rw [val_3 e,val_3 e]
         split <;> omega
       . rw [val_3 e,val_3 e]
         split <;> omega
       . rw [val_3 e,val_3 e]
         split <;> omega
     . omega
     . rw [if_neg (by omega)]
       omega
   . obtain ⟨s1,s2⟩:=span_in f 3 (by omega) ht
     rw [hK,hL] at s1
     simp only [Nat.reduceSub] at s1
     rw [up1,fst2,hF] at s1
     rw [hK] at s2
     simp only [Nat.reduceSub] at s2
     rw [dn1,fst2,hF] at s2
     rw [show 3 - 1=2 from rfl,tails2] at ht
     simp at ht
     unfold Same
     rw [low_3,high_3]
     simp only [hfk]
     generalize span f 3=sp at *
     generalize f 0=x0 at *
     generalize f 1=x1 at *
     generalize f 2=x2 at *
     clear hfk hK hF hL
     obtain ⟨z,rfl⟩ : ∃ z,x0=240 + z:=⟨x0 - 240,by omega⟩
     obtain ⟨y1,rfl⟩ : ∃ y,x1=128 + y:=⟨x1 - 128,by omega⟩
     obtain ⟨y2,rfl⟩ : ∃ y,x2=128 + y:=⟨x2 - 128,by omega⟩
     have hy1:y1 < 64:=by omega
     have hy2:y2 < 64:=by omega
     rw [show 240 + z - 240=z from by omega,show 128 + y1 - 128=y1 from by omega,show 128 + y2 - 128=y2 from by omega] at s1 s2
     rcases Rn.size_cases (240 + z) with ⟨e,q⟩ | ⟨e,q1,q2,l,h⟩ | ⟨e,q1,q2,h⟩ | ⟨e,q1,q2,h⟩ | ⟨e,q1,q2⟩
     . omega
     . omega
     . omega
     . rw [val_4 e,val_4 e,show (240 + z) % 8=z from by omega,show (128 + y1) % 64=y1 from by omega,show (128 + y2) % 64=y2 from by omega,show 128 % 64=0 from rfl,show 191 % 64=63 from rfl]
       clear ht h0 h1 h2
       have hb:(z=0 /\ Rn.lo (240 + z)=144 /\ Rn.hi (240 + z)=191) \/ (z=4 /\ Rn.lo (240 + z)=128 /\ Rn.hi (240 + z)=143) \/ (1 <= z /\ z <= 3 /\ Rn.lo (240 + z)=128 /\ Rn.hi (240 + z)=191):=by omega
       generalize Rn.lo (240 + z)=L at *
       generalize Rn.hi (240 + z)=M at *
       generalize Rn.size (240 + z)=S at *
       clear h q1 q2 g1 g2
       split
       . next hc =>
         rcases hb with ⟨p1,p2,p3⟩ | ⟨p1,p2,p3⟩ | ⟨p1,p4,p2,p3⟩
         . omega
         . omega
         . omega
       . next hc =>
         rcases hb with ⟨p1,p2,p3⟩ | ⟨p1,p2,p3⟩ | ⟨p1,p4,p2,p3⟩
         . omega
         . omega
         . omega
     . rw [if_neg (by omega)]
       omega
   . refine same_none (fun h => ?_) (span_short f 3 (.inr (.inr (by omega))))
     have hh:=hfk.1 h
     have hs:=size_kd (f 0)
     omega
   . refine same_none (fun h => ?_) (span_short f 3 (.inr (.inr (by omega))))
     have hh:=hfk.1 h
     have hs:=size_kd (f 0)
     omega
theorem same_4 (f:Nat -> Nat) (hf : ∀ j,f j < 256) : Same f 4:=by
 have h0:=hf 0
 have h1:=hf 1
 have h2:=hf 2
 have h3:=hf 3
 have hfk:=fk4 f
 cases ht:tails f (4 - 1)
 . refine same_none (fun h => ?_) (span_tails f 4 ht)
   have hh:=hfk.1 h
   have hl:=lo_hi (f 0)
   rw [show 4 - 1=3 from rfl,tails3] at ht
   simp at ht
   omega
 . rcases kd_cases (f 0) with ⟨g1,hK,hF,hL⟩ | ⟨g1,g2,hK,hF,hL⟩ | ⟨g1,g2,hK,hF,hL⟩ | ⟨g1,g2,hK,hF,hL⟩ | ⟨g1,g2,hK,hF,hL⟩ | ⟨g1,hK,hF,hL⟩
   . refine same_none (fun h => ?_) (span_short f 4 (.inr (.inr (by omega))))
     have hh:=hfk.1 h
     have hs:=size_kd (f 0)
     omega
   . refine same_none (fun h => ?_) (span_short f 4 (.inr (.inr (by omega))))
     have hh:=hfk.1 h
     have hs:=size_kd (f 0)
     omega
   . refine same_none (fun h => ?_) (span_short f 4 (.inr (.inr (by omega))))
     have hh:=hfk.1 h
     have hs:=size_kd (f 0)
     omega
   . obtain ⟨s1,s2⟩:=span_in f 4 (by omega) ht
     rw [hK,hL] at s1
     simp only [Nat.reduceSub] at s1
     rw [up0,fst3,hF] at s1
     rw [hK] at s2
     simp only [Nat.reduceSub] at s2
     rw [dn0,fst3,hF] at s2
     rw [show 4 - 1=3 from rfl,tails3] at ht
     simp at ht
     unfold Same
     rw [low_4,high_4]
     simp only [hfk]
     generalize span f 4=sp at *
     generalize f 0=x0 at *
     generalize f 1=x1 at *
     generalize f 2=x2 at *
     generalize f 3=x3 at *
     clear hfk hK hF hL
     obtain ⟨z,rfl⟩ : ∃ z,x0=240 + z:=⟨x0 - 240,by omega⟩
     obtain ⟨y1,rfl⟩ : ∃ y,x1=128 + y:=⟨x1 - 128,by omega⟩
     obtain ⟨y2,rfl⟩ : ∃ y,x2=128 + y:=⟨x2 - 128,by omega⟩
     obtain ⟨y3,rfl⟩ : ∃ y,x3=128 + y:=⟨x3 - 128,by omega⟩
     have hy1:y1 < 64:=by omega
     have hy2:y2 < 64:=by omega
     have hy3:y3 < 64:=by omega
     rw [show 240 + z - 240=z from by omega,show 128 + y1 - 128=y1 from by omega,show 128 + y2 - 128=y2 from by omega,show 128 + y3 - 128=y3 from by omega] at s1 s2
     rcases Rn.size_cases (240 + z) with ⟨e,q⟩ | ⟨e,q1,q2,l,h⟩ | ⟨e,q1,q2,h⟩ | ⟨e,q1,q2,h⟩ | ⟨e,q1,q2⟩
     . omega
     . omega
     . omega
     . rw [val_4 e,show (240 + z) % 8=z from by omega,show (128 + y1) % 64=y1 from by omega,show (128 + y2) % 64=y2 from by omega,show (128 + y3) % 64=y3 from by omega]
       clear ht h0 h1 h2 h3
       have hb:(z=0 /\ Rn.lo (240 + z)=144 /\ Rn.hi (240 + z)=191) \/ (z=4 /\ Rn.lo (240 + z)=128 /\ Rn.hi (240 + z)=143) \/ (1 <= z /\ z <= 3 /\ Rn.lo (240 + z)=128 /\ Rn.hi (240 + z)=191):=by omega
       generalize Rn.lo (240 + z)=L at *
       generalize Rn.hi (240 + z)=M at *
       generalize Rn.size (240 + z)=S at *
       clear h q1 q2 g1 g2
       split
       . next hc =>
         rcases hb with ⟨p1,p2,p3⟩ | ⟨p1,p2,p3⟩ | ⟨p1,p4,p2,p3⟩
         . omega
         . omega
         . omega
       . next hc =>
         rcases hb with ⟨p1,p2,p3⟩ | ⟨p1,p2,p3⟩ | ⟨p1,p4,p2,p3⟩
         . omega
         . omega
         . omega
     . rw [if_neg (by omega)]
       omega
   . refine same_none (fun h => ?_) (span_short f 4 (.inr (.inr (by omega))))
     have hh:=hfk.1 h
     have hs:=size_kd (f 0)
     omega
   . refine same_none (fun h => ?_) (span_short f 4 (.inr (.inr (by omega))))
     have hh:=hfk.1 h
     have hs:=size_kd (f 0)
     omega
theorem same_all (f:Nat -> Nat) (n:Nat) (hf : ∀ j,f j < 256) (hn:0 < n) : Same f n:=by
 by_cases h:4 < n
 . refine same_none (fun hk => ?_) (span_short f n (.inr (.inl h)))
   have:=Rn.fk_le_fs f n
   have:=Rn.fs_le f n
   omega
 . have h4:n=1 \/ n=2 \/ n=3 \/ n=4:=by omega
   rcases h4 with rfl | rfl | rfl | rfl
   . exact same_1 f hf
   . exact same_2 f hf
   . exact same_3 f hf
   . exact same_4 f hf
theorem beg_eq (c:Int) (f:Nat -> Nat) (n:Nat) (hf : ∀ j,f j < 256) : begP c f n=ovR (rg c) (span f n).1 (span f n).2:=by
 by_cases h0:n=0
 . subst h0
   rw [span_short f 0 (.inl rfl)]
   unfold begP
   rw [if_neg (by omega),ovR_empty _ (by decide)]
 . have h:=same_all f n hf (by omega)
   unfold Same at h
   unfold begP
   by_cases hk:Rn.fk f n=n
   . rw [if_pos hk] at h
     rw [if_pos ⟨by omega,hk⟩,nextT_eq]
     have e:=next_ov (rg_rise c) (low f n) (high f n)
     rw [h.1]
     rcases h.2 with h2 | ⟨h2,h3⟩
     . rw [h2]; exact e
     . rw [h2,ovR_upto (rg_gap c)]
       rw [h3] at e ⊢
       exact e
   . rw [if_neg hk] at h
     rw [if_neg (fun q => hk q.2)]
     rcases h with h | ⟨h,h'⟩
     . rw [ovR_empty _ h]
     . rw [ovR_gap (rg_gap c) h h']
end Go.Proofs.YteiiepjegdlbeaaDoor.Ch
namespace Go.Proofs.YteiiepjegdlbeaaDoor.Ch
open Go.Lib
theorem ovR_of {l:List (Nat × Nat)} {a h r:Int} (hr:isR l r=true) (h1:a <= r) (h2:r <= h) : ovR l a h=true:=by
 induction l with
 | nil => simp [isR] at hr
 | cons p t ih =>
   rw [ovR_cons]
   rw [isR_cons] at hr
   by_cases c:(p.1:Int) <= r /\ r <= (p.2:Int)
   . rw [if_pos (by omega)]
   . rw [if_neg c] at hr
     split
     . rfl
     . exact ih hr
theorem is_scal (c r:Int) (h:isT tab c r=true) : 0 <= r /\ r <= 1114111 /\ (r < 55296 \/ 57343 < r):=by
 rw [isT_eq] at h
 have h':isR (rg c) r=true:=h
 have hs:=rg_small c
 have hg:=rg_gap c
 generalize rg c=l at *
 induction l with
 | nil => simp [isR] at h'
 | cons p t ih =>
   rw [isR_cons] at h'
   have hp:=hs p (by simp)
   simp only [gapB,List.all_cons,Bool.and_eq_true,decide_eq_true_eq] at hg
   by_cases cc:(p.1:Int) <= r /\ r <= (p.2:Int)
   . omega
   . rw [if_neg cc] at h'
     exact ih h' (fun q hq => hs q (by simp [hq])) (by simpa [gapB] using hg.2)
theorem span_holds {g:Nat -> Nat} {n v:Nat} (E:Rn.Enc g n v) (m:Nat) (h1:1 <= m) (hm:m <= n) (hg : ∀ j,g j < 256) : Rn.fk g m=m /\ (span g m).1 <= (v:Int) /\ (v:Int) <= (span g m).2:=by
 have hk:Rn.fk g m=m:=by
  have e:=Rn.fk_min g hm (by have:=E.fs; have:=E.pos; omega)
  rw [E.fk] at e
  omega
 refine ⟨hk, ?_⟩
 have hsm:=same_all g m hg (by omega)
 unfold Same at hsm
 rw [if_pos hk] at hsm
 have hlow:low g m <= v /\ v <= high g m:=by
  have hlh:=lo_hi (g 0)
  have hwh:=E.whole
  have hkn:=E.fk
  have hsz:=E.fs
  cases E with
  | one hn h0 hv =>
    obtain rfl:m=1:=by omega
    rw [low_1,high_1,val_1 (by omega),val_1 (by omega)]
    omega
  | two hn h0 h1' hv hv2 =>
    subst hn
    have hm':m=1 \/ m=2:=by omega
    obtain ⟨_,hb,_⟩:=len_all' hkn (by omega)
    have hb1:=hb (by omega)
    rcases hm' with rfl | rfl
    . rw [low_1,high_1,val_2 hsz,val_2 hsz]; omega
    . rw [low_2,high_2,val_2 hsz,val_2 hsz]; omega
  | three hn h0 h1' h2' hv hv2 hv3 =>
    subst hn
    have hm':m=1 \/ m=2 \/ m=3:=by omega
    obtain ⟨_,hb,_⟩:=len_all' hkn (by omega)
    have hb1:=hb (by omega)
    rcases hm' with rfl | rfl | rfl
    . rw [low_1,high_1,val_3 hsz,val_3 hsz]; omega
    . rw [low_2,high_2,val_3 hsz,val_3 hsz]; omega
    . rw [low_3,high_3,val_3 hsz,val_3 hsz]; omega
  | four hn h0 h1' h2' h3' hv hv2 =>
    subst hn
    have hm':m=1 \/ m=2 \/ m=3 \/ m=4:=by omega
    obtain ⟨_,hb,_⟩:=len_all' hkn (by omega)
    have hb1:=hb (by omega)
    rcases hm' with rfl | rfl | rfl | rfl
    . rw [low_1,high_1,val_4 hsz,val_4 hsz]; omega
    . rw [low_2,high_2,val_4 hsz,val_4 hsz]; omega
    . rw [low_3,high_3,val_4 hsz,val_4 hsz]; omega
    . rw [low_4,high_4,val_4 hsz]; omega
 rcases hsm.2 with h2 | ⟨h2,h3⟩ <;> rw [hsm.1,h2] <;> omega
theorem beg_cut (c:Int) (r:Int) (h:isT tab c r=true) (m:Nat) (h1:1 <= m) (hm:m <= Rn.el r) : begP c (Rn.eb r) m=true:=by
 obtain ⟨a1,a2,a3⟩:=is_scal c r h
 have E:=Rn.eb_enc r
 have hw:(Rn.want r).toNat=r.toNat:=by
  unfold Rn.want
  rw [if_neg (by omega)]
 rw [hw] at E
 obtain ⟨_,q1,q2⟩:=span_holds E m h1 hm (Rn.eb_lt r)
 rw [beg_eq c _ m (Rn.eb_lt r)]
 rw [isT_eq] at h
 exact ovR_of (r:=r) h (by omega) (by omega)
end Go.Proofs.YteiiepjegdlbeaaDoor.Ch
