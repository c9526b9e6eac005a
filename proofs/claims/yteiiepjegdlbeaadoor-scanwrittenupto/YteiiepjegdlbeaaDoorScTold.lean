import Derived.Test.YteiiepjegdlbeaaDoorScOk
import Derived.Test.YteiiepjegdlbeaaDoorRnAt
import Derived.Test.YteiiepjegdlbeaaDoorRnMm
import Derived.Test.YteiiepjegdlbeaaDoorScFail
namespace Go.Proofs.YteiiepjegdlbeaaDoor
open Go.RowKit Go.Lib
namespace Sc
structure Dr where
 inn:Nat:=0
 opn:List (List UInt8) := []
def Dr.nm (s:Dr) : List UInt8:=if s.inn=1 then s.opn.headD [] else []
def Dr.opens (s:Dr) (k:Wk) : List (List UInt8):=if k.kind=1 then k.tag :: s.opn else if k.kind=2 then s.opn.tail else s.opn
def Dr.next (s:Dr) (k:Wk) : Dr:=⟨if s.opens k = [] then 2 else if k.kind=1 then 1 else s.inn,s.opens k⟩
inductive Tags (f:Nat -> Nat) (n:Nat) : Nat -> Dr -> Nat -> Dr -> Prop
 | refl (a:Nat) (s:Dr) : Tags f n a s a s
 | cons {a b:Nat} {s u:Dr} {k:Wk} (h:Steps s.inn s.nm (Rn.off f a) (n - a) {} k) (h0:k.how=0) (r:Tags f n (a + k.ps) (s.next k) b u) : Tags f n a s b u
structure Fin (f:Nat -> Nat) (n b:Nat) (u:Dr) (k:Wk) : Prop where
 go:Steps u.inn u.nm (Rn.off f b) (n - b) {} k
 no:k.how ≠ 0
 ends:Ends u.inn u.nm (Rn.off f b) (n - b) k
theorem Tags.le {f:Nat -> Nat} {n a b:Nat} {s u:Dr} (h:Tags f n a s b u) : a <= b:=by
 induction h with
 | refl => exact Nat.le_refl _
 | cons h h0 r ih => omega
theorem Steps.psn {inn:Nat} {nm:List UInt8} {f:Nat -> Nat} {n:Nat} {s t:Wk} (h:Steps inn nm f n s t) (hs:s.how=1) (h0:t.how=0) : s.ps < t.ps:=by
 induction h with
 | refl => omega
 | @cons s t' u g0 h r ih =>
   have q:=step_fw g0 h
   rcases step_all g0 h with e | e | e
   . cases r with
     | refl => exact q.zero e
     | cons g _ _ => omega
   . have:=ih e h0
     have:=q.ps
     omega
   . cases r with
     | refl => omega
     | cons g _ _ => omega
theorem Steps.last {inn:Nat} {nm:List UInt8} {f:Nat -> Nat} {n:Nat} {s t:Wk} (h:Steps inn nm f n s t) (hs:s.how=1) (ht:t.how ≠ 1) : ∃ m,Steps inn nm f n s m /\ m.how=1 /\ step inn nm f n m=some t:=by
 induction h with
 | refl => exact absurd hs ht
 | @cons s t' u g0 h r ih =>
   by_cases e:t'.how=1
   . obtain ⟨m,q1,q2,q3⟩:=ih e ht
     exact ⟨m, .cons g0 h q1,q2,q3⟩
   . cases r with
     | refl => exact ⟨s, .refl _,g0,h⟩
     | cons g _ _ => exact absurd g e
theorem Tags.more {f g:Nat -> Nat} {n n' a b:Nat} {s u:Dr} (hfg : ∀ j,j < n -> f j=g j) (hn:n <= n') (h:Tags f n a s b u) : Tags g n' a s b u:=by
 induction h with
 | refl => exact .refl _ _
 | @cons a b s u k h h0 r ih => exact .cons (h.more (fun j hj => hfg _ (by omega)) (by omega)) h0 ih
theorem Tags.there {f:Nat -> Nat} {n1 n a b:Nat} {s u:Dr} (hn:n1 <= n) (h:Tags f n a s b u) (hb:b <= n1) : Tags f n1 a s b u:=by
 induction h with
 | refl => exact .refl _ _
 | @cons a b s u k h h0 r ih =>
   have q:=r.le
   exact .cons (h.there (by omega) ⟨fun g => (by omega),fun _ => (by omega),fun g => (by omega)⟩) h0 (ih hb)
theorem Fin.only {f:Nat -> Nat} {n b:Nat} {u:Dr} {k k':Wk} (h:Fin f n b u k) (g:Fin f n b u k') : k=k':=h.go.one_end g.go h.ends g.ends
theorem Fin.none {f:Nat -> Nat} {n b:Nat} {u:Dr} {k k':Wk} (h:Fin f n b u k) (g:Steps u.inn u.nm (Rn.off f b) (n - b) {} k') (h0:k'.how=0) : False:=by
 have e:=h.go.one_end g h.ends (.inl (by omega))
 exact h.no (by rw [e]; exact h0)
theorem Tags.only {f:Nat -> Nat} {n a b b':Nat} {s u u':Dr} {k k':Wk} (h:Tags f n a s b u) (hk:Fin f n b u k) (g:Tags f n a s b' u') (gk:Fin f n b' u' k') : b=b' /\ u=u' /\ k=k':=by
 induction h with
 | refl a s =>
   cases g with
   | refl => exact ⟨rfl,rfl,hk.only gk⟩
   | cons h h0 r => exact (hk.none h h0).elim
 | @cons a b s u m h h0 r ih =>
   cases g with
   | refl => exact (gk.none h h0).elim
   | @cons _ _ _ _ m' h' h0' r' =>
     have e:=h.one_end h' (.inl (by omega)) (.inl (by omega))
     subst e
     exact ih hk r'
theorem Tags.bad {f:Nat -> Nat} {n a b:Nat} {s u:Dr} {k:Wk} (h:Tags f n a s b u) (hk:Fin f n b u k) (h2:k.how=2) :
 b + k.bad < n /\ (∃ v,Tags f (b + k.bad) a s b u /\ Fin f (b + k.bad) b u v /\ v.how=1) /\
  ∀ (g:Nat -> Nat) (m:Nat),b + k.bad < m -> (∀ j,j <= b + k.bad -> f j=g j) -> Tags g m a s b u /\ Fin g m b u k:=by
 obtain ⟨q1,q2⟩:=hk.go.bad rfl h2
 obtain ⟨m,r1,r2,r3⟩:=hk.go.last rfl (by omega)
 obtain ⟨v,t1,t2,t3⟩:=r1.wait r2 r3 h2
 have hlt:b + k.bad < n:=by omega
 refine ⟨hlt,⟨v,h.there (by omega) (by omega),⟨?_,by omega, .inr ?_⟩,t2⟩,fun g m' hm hfg => ⟨?_,⟨?_,hk.no, .inl (by omega)⟩⟩⟩
 . rw [Nat.add_sub_cancel_left]
   exact t1
 . rw [Nat.add_sub_cancel_left]
   exact t3
 . exact (h.there (n1:=b + k.bad + 1) (by omega) (by omega)).more (fun j hj => hfg j (by omega)) (by omega)
 . exact q2.more (fun j hj => hfg _ (by omega)) (by omega)
theorem onNx_within {f:Nat -> Nat} {n:Nat} {c:Int} {sg:List Nat} {s t:Wk} {k:Nat -> Wk -> Wk} (hk : ∀ r s,(k r s).ps=s.ps) (hs:s.ps <= n) (h:onNx (nx f n s.ps c sg) s k=some t) : t.ps <= n:=by
 unfold onNx at h
 split at h
 . next hz =>
   cases h
   rw [hk]
   exact (nx_in0 hz).2
 . split at h
   . cases h
     exact hs
   . cases h
theorem onRef_within {f:Nat -> Nat} {n:Nat} {s t:Wk} {k:Nat -> Wk -> Wk} (hk : ∀ r s,(k r s).ps=s.ps) (hs:s.ps <= n) (h:onRef f n s k=some t) : t.ps <= n:=by
 unfold onRef at h
 split at h
 . cases h
 . split at h
   . cases h
     exact hs
   . split at h
     . cases h
       rw [hk]
       show s.ps + 1 <= n
       omega
     . cases h
       show s.ps + 1 <= n
       omega
theorem step_within {inn:Nat} {nm:List UInt8} {f:Nat -> Nat} {n:Nat} {s t:Wk} (hs:s.ps <= n) (h:step inn nm f n s=some t) : t.ps <= n:=by
 unfold step at h
 split at h
 case h_2 => (refine onRef_within (fun r s => ?_) hs h; rfl)
 case h_18 => (refine onRef_within (fun r s => ?_) hs h; rfl)
 case h_14 =>
  split at h
  . cases h
    exact hs
  . refine onNx_within (fun r s => ?_) hs h
    repeat' split
    all_goals rfl
 case h_19 =>
  split at h
  . cases h
    exact hs
  . split at h
    . cases h
    . split at h
      . cases h
        exact hs
      . cases h
        show s.ps + 1 <= n
        omega
 all_goals
  refine onNx_within (fun r s => ?_) hs h
  try repeat' split
  all_goals rfl
theorem Steps.within {inn:Nat} {nm:List UInt8} {f:Nat -> Nat} {n:Nat} {s t:Wk} (h:Steps inn nm f n s t) (hs:s.ps <= n) : t.ps <= n:=by
 induction h with
 | refl => exact hs
 | cons h0 h r ih => exact ih (step_within hs h)
theorem Fin.byte {f:Nat -> Nat} {n b:Nat} {u:Dr} {k k':Wk} (hb:b <= n) (h:Fin f n b u k) (g:Steps u.inn u.nm (Rn.off f b) (n + 1 - b) {} k') (h0:k'.how=0) : b + k'.ps=n + 1:=by
 have q:=g.within (Nat.zero_le _)
 by_cases e:b + k'.ps <= n
 . exact (h.none (g.there (by omega) ⟨fun x => (by omega),fun _ => (by omega),fun x => (by omega)⟩) h0).elim
 . omega
structure Kd (inn:Nat) (s:Wk) : Prop where
 cl:s.st=18 \/ s.st=19 -> inn=1
 low:s.st <= 19
 kd:s.how=0 -> s.kind=1 \/ s.kind=3 \/ (s.kind=2 /\ inn=1)
theorem onNx_kd {inn:Nat} {x:Nat × Nat × Nat} {s t:Wk} {k:Nat -> Wk -> Wk} (h:onNx x s k=some t) (hs:Kd inn s) (h1:s.how=1) (hk : ∀ r s',x.1=0 -> r=x.2.1 -> s'.how=1 -> s'.st=s.st -> Kd inn (k r s')) : Kd inn t:=by
 unfold onNx at h
 split at h
 . next hz =>
   cases h
   exact hk _ _ hz rfl h1 rfl
 . split at h
   . cases h
     exact ⟨hs.cl,hs.low,fun e => by cases e⟩
   . cases h
theorem onRef_kd {inn:Nat} {f:Nat -> Nat} {n:Nat} {s t:Wk} {k:Nat -> Wk -> Wk} (h:onRef f n s k=some t) (hs:Kd inn s) (h1:s.how=1) (hk : ∀ r s',Kd inn s' -> s'.how=1 -> s'.st=s.st -> Kd inn (k r s')) : Kd inn t:=by
 unfold onRef at h
 split at h
 . cases h
 . split at h
   . cases h
     exact ⟨hs.cl,hs.low,fun e => by cases e⟩
   . split at h
     . cases h
       exact hk _ _ ⟨hs.cl,hs.low,fun e => by have:s.how=0:=e; omega⟩ h1 rfl
     . cases h
       exact ⟨hs.cl,hs.low,fun e => by have:s.how=0:=e; omega⟩
theorem Kd.of {inn:Nat} {t:Wk} (h:t.st < 18) (h1:t.how=1) : Kd inn t:=⟨fun e => by omega,by omega,fun e => by omega⟩
theorem step_kd {inn:Nat} {nm:List UInt8} {f:Nat -> Nat} {n:Nat} {s t:Wk} (h1:s.how=1) (h:step inn nm f n s=some t) (hs:Kd inn s) : Kd inn t:=by
 unfold step at h
 split at h
 case h_2 =>
  refine onRef_kd h hs h1 fun r s' q q1 e => ?_
  exact .of (by show 0 < 18; omega) q1
 case h_18 =>
  refine onRef_kd h hs h1 fun r s' q q1 e => ?_
  exact .of (by show 16 < 18; omega) q1
 case h_3 e0 =>
  refine onNx_kd h hs h1 fun r s' hz hr q1 e => ?_
  split
  . exact .of (by show 3 < 18; omega) q1
  . split
    . next e47 =>
      have hi:inn=1:=by
       by_cases c:inn=1
       . exact c
       . exfalso
         have q:=nx_ok hz
         rw [<- hr,e47,if_neg c] at q
         rcases q with q | q
         . split at q
           . rw [none_is] at q
             cases q
           . revert q
             decide
         . simp at q
      exact ⟨fun _ => hi,by show 18 <= 19; omega,fun g => by have:s'.how=0:=g; omega⟩
    . exact .of (by show 9 < 18; omega) q1
 case h_14 e0 =>
  split at h
  . cases h
    exact ⟨hs.cl,hs.low,fun g => by cases g⟩
  . refine onNx_kd h hs h1 fun r s' hz hr q1 e => ?_
    repeat' split
    all_goals first | exact .of (by show 15 < 18; omega) q1 | exact .of (by show 14 < 18; omega) q1 | exact .of (by show s'.st < 18; omega) q1
 case h_19 e0 =>
  have hi:=hs.cl (.inl e0)
  split at h
  . cases h
    exact ⟨fun _ => hi,by show 19 <= 19; omega,fun g => by have:s.how=0:=g; omega⟩
  . split at h
    . cases h
    . split at h
      . cases h
        exact ⟨fun _ => hi,hs.low,fun g => by cases g⟩
      . cases h
        exact ⟨fun _ => hi,hs.low,fun g => by have:s.how=0:=g; omega⟩
 case h_20 =>
  have a:=hs.low
  have hi:inn=1:=by
   refine hs.cl (.inr ?_)
   have b0:s.st ≠ 0:=by assumption
   have b1:s.st ≠ 1:=by assumption
   have b2:s.st ≠ 2:=by assumption
   have b3:s.st ≠ 3:=by assumption
   have b4:s.st ≠ 4:=by assumption
   have b5:s.st ≠ 5:=by assumption
   have b6:s.st ≠ 6:=by assumption
   have b7:s.st ≠ 7:=by assumption
   have b8:s.st ≠ 8:=by assumption
   have b9:s.st ≠ 9:=by assumption
   have b10:s.st ≠ 10:=by assumption
   have b11:s.st ≠ 11:=by assumption
   have b12:s.st ≠ 12:=by assumption
   have b13:s.st ≠ 13:=by assumption
   have b14:s.st ≠ 14:=by assumption
   have b15:s.st ≠ 15:=by assumption
   have b16:s.st ≠ 16:=by assumption
   have b17:s.st ≠ 17:=by assumption
   have b18:s.st ≠ 18:=by assumption
   omega
  refine onNx_kd h hs h1 fun r s' hz hr q1 e => ?_
  split
  . exact ⟨fun _ => hi,by show s'.st <= 19; omega,fun _ => .inr (.inr ⟨rfl,hi⟩)⟩
  . exact ⟨fun _ => hi,by omega,fun g => by omega⟩
 all_goals
  refine onNx_kd h hs h1 fun r s' hz hr q1 e => ?_
  try repeat' split
  all_goals first
   | exact .of (by show s'.st < 18; omega) q1
   | exact .of (by simp [Wk.turn]) q1
   | exact ⟨fun g => (by have:s'.st=18 \/ s'.st=19:=g; omega),by show s'.st <= 19; omega,fun _ => .inl rfl⟩
   | exact ⟨fun g => (by have:s'.st=18 \/ s'.st=19:=g; omega),by show s'.st <= 19; omega,fun _ => .inr (.inl rfl)⟩
   | exact ⟨fun g => (by have:s'.st=18 \/ s'.st=19:=g; omega),by show s'.st <= 19; omega,fun g => (by have:s'.how=0:=g; omega)⟩
   | exact ⟨fun g => (by have:s'.st=18 \/ s'.st=19:=g; omega),by show s'.st <= 19; omega,fun g => (by cases g)⟩
theorem Steps.kd {inn:Nat} {nm:List UInt8} {f:Nat -> Nat} {n:Nat} {s t:Wk} (h:Steps inn nm f n s t) (hs:Kd inn s) : Kd inn t:=by
 induction h with
 | refl => exact hs
 | cons h0 h r ih => exact ih (step_kd h0 h hs)
theorem kd_new (inn:Nat) : Kd inn {} := .of (by decide) rfl
def Dr.Ok (s:Dr) : Prop:=(s.inn=1 ↔ s.opn ≠ []) /\ s.inn <= 2
theorem Dr.Ok.next {s:Dr} {f:Nat -> Nat} {n:Nat} {k:Wk} (h:s.Ok) (g:Steps s.inn s.nm f n {} k) (h0:k.how=0) : (s.next k).Ok /\ (k.kind=2 -> s.opn ≠ []):=by
 have q:=(g.kd (kd_new _)).kd h0
 refine ⟨⟨⟨fun e c => ?_,fun e => ?_⟩, ?_⟩,fun e => ?_⟩
 . have e1:(if s.opens k = [] then 2 else if k.kind=1 then 1 else s.inn)=1:=e
   rw [if_pos (show s.opens k = [] from c)] at e1
   cases e1
 . show (if s.opens k = [] then 2 else if k.kind=1 then 1 else s.inn)=1
   rw [if_neg (show ¬ s.opens k = [] from e)]
   split
   . rfl
   . next c1 =>
     rcases q with q | q | q
     . exact absurd q c1
     . refine h.1.2 fun c => e ?_
       show s.opens k = []
       unfold Dr.opens
       rw [if_neg c1,if_neg (by omega)]
       exact c
     . exact q.2
 . show (if s.opens k = [] then 2 else if k.kind=1 then 1 else s.inn) <= 2
   have:=h.2
   repeat' split
   all_goals omega
 . rcases q with q | q | q
   . omega
   . omega
   . exact h.1.1 q.2
end Sc
end Go.Proofs.YteiiepjegdlbeaaDoor
namespace Go.Proofs.YteiiepjegdlbeaaDoor
open Go.RowKit Go.Lib
namespace Sc
open Rn
open _root_.Go.Proofs.YteiiepjegdlbeaaDoor.Fd
def stq (f:Nat -> Nat) (N p r:Nat) (s:Nat × Nat × Nat) : Nat × Nat × Nat:=if lineEnd f N p r=true then (s.1 + 1,s.2.1 + 1,1) else (s.1 + 1,s.2.1,s.2.2 + 1)
theorem whole_fits {f:Nat -> Nat} {m n:Nat} (h:whole f n=true) (hm:fs f n <= m) : whole f m=true /\ fs f m=fs f n:=by
 rcases Nat.le_total m n with q | q
 . have a:=whole_down h hm q
   exact ⟨a,(whole_up a q).2.symm⟩
 . exact whole_up h q
theorem plcq_one {f:Nat -> Nat} {N p a fuel:Nat} (hf : ∀ j,f j < 256) (h:whole (off f p) (N - p)=true) (ha:p + fs (off f p) (N - p) <= a) (s:Nat × Nat × Nat) :
 plcFrom f N a (fuel + 1) p s.1 s.2.1 s.2.2=plcFrom f N a fuel (p + fs (off f p) (N - p)) (stq f N p (fv (off f p)) s).1 (stq f N p (fv (off f p)) s).2.1 (stq f N p (fv (off f p)) s).2.2:=by
 obtain ⟨a1,a2,a3,a4⟩:=whole_lt h
 obtain ⟨b1,b2⟩:=whole_fits (m:=a - p) h (by omega)
 have hd:=dec_whole (off f p) (a - p) (fun _ => hf _) (by omega)
 rw [b1,if_pos rfl,b2] at hd
 show (if a <= p then _ else _)=_
 unfold stq
 rw [if_neg (by omega),hd]
 dsimp only
 split <;> rfl
theorem plcq_run {f:Nat -> Nat} {N:Nat} (hf : ∀ j,f j < 256) {p q:Nat} (h:Run f N p q) : ∃ (k:Nat) (W:Nat × Nat × Nat -> Nat × Nat × Nat), ∀ (a fuel:Nat) (s:Nat × Nat × Nat),q <= a -> a <= p + fuel ->
 a <= q + (fuel - k) /\ plcFrom f N a fuel p s.1 s.2.1 s.2.2=plcFrom f N a (fuel - k) q (W s).1 (W s).2.1 (W s).2.2:=by
 induction h with
 | refl p => exact ⟨0,id,fun a fuel s h1 h2 => ⟨h2,rfl⟩⟩
 | @step p q h r ih =>
   obtain ⟨k,W,hW⟩:=ih
   have hle:=r.le
   obtain ⟨a1,a2,a3,a4⟩:=whole_lt h
   refine ⟨k + 1,fun s => W (stq f N p (fv (off f p)) s),fun a fuel s h1 h2 => ?_⟩
   obtain ⟨m,rfl⟩ : ∃ m,fuel=m + 1:=⟨fuel - 1,by omega⟩
   rw [plcq_one hf h (by omega)]
   have:=hW a m (stq f N p (fv (off f p)) s) h1 (by omega)
   rw [show m + 1 - (k + 1)=m - k by omega]
   exact this
theorem plcq_fuel {f:Nat -> Nat} {N a:Nat} (hf : ∀ j,f j < 256) : ∀ (x y p rn ln co:Nat),a <= p + x -> a <= p + y -> plcFrom f N a x p rn ln co=plcFrom f N a y p rn ln co
 | 0,y,p,rn,ln,co,hx,_ => by rw [plcFrom_end _ _ _ _ _ _ _ _ (by omega),plcFrom_end _ _ _ _ _ _ _ _ (by omega)]
 | x + 1,0,p,rn,ln,co,_,hy => by rw [plcFrom_end _ _ _ _ _ _ _ _ (by omega),plcFrom_end _ _ _ _ _ _ _ _ (by omega)]
 | x + 1,y + 1,p,rn,ln,co,hx,hy => by
   unfold plcFrom
   by_cases c:a <= p
   . rw [if_pos c,if_pos c]
   . rw [if_neg c,if_neg c]
     have q:=dec_pos (off f p) (a - p) (fun _ => hf _) (by omega)
     split
     . exact plcq_fuel hf x y _ _ _ _ (by omega) (by omega)
     . exact plcq_fuel hf x y _ _ _ _ (by omega) (by omega)
theorem plcq_off {f:Nat -> Nat} {n d a:Nat} (hd:d <= n) : ∀ (x p rn ln co:Nat),p < n - d \/ a <= p -> a <= n - d -> plcFrom (off f d) (n - d) a x p rn ln co=plcFrom f n (d + a) x (d + p) rn ln co
 | 0,p,rn,ln,co,_,_ => rfl
 | x + 1,p,rn,ln,co,hp,ha => by
   by_cases c:a <= p
   . rw [plcFrom_end _ _ _ _ _ _ _ _ c,plcFrom_end _ _ _ _ _ _ _ _ (by omega)]
   . have e : ∀ r,lineEnd (off f d) (n - d) p r=lineEnd f n (d + p) r:=by
      intro r
      have q:(p + 1=n - d \/ f (d + p + 1) ≠ 10) ↔ (d + p + 1=n \/ f (d + p + 1) ≠ 10):=by
       constructor
       . rintro (q | q)
         . exact .inl (by omega)
         . exact .inr q
       . rintro (q | q)
         . exact .inl (by omega)
         . exact .inr q
      show (if r=13 then decide (p + 1=n - d \/ f (d + p + 1) ≠ 10) else decide (r=10))=(if r=13 then decide (d + p + 1=n \/ f (d + p + 1) ≠ 10) else decide (r=10))
      simp only [q]
     have e2:d + (p + (dec (off f (d + p)) (a - p)).2)=d + p + (dec (off f (d + p)) (a - p)).2:=by omega
     have e3:=fun ln' co' => plcq_off (f:=f) (n:=n) (d:=d) (a:=a) hd x (p + (dec (off f (d + p)) (a - p)).2) (rn + 1) ln' co' (by omega) ha
     have e4:d + a - (d + p)=a - p:=by omega
     unfold plcFrom
     rw [if_neg c,if_neg (fun q => c (Nat.le_of_add_le_add_left q)),off_off,e4,e,e3,e3,e2]
theorem plcq_add {f:Nat -> Nat} {n d a:Nat} (hf : ∀ j,f j < 256) (h:Run f n 0 d) (hd:d + a <= n) (s:Nat × Nat × Nat) :
 plcFrom (off f d) (n - d) a a 0 (plcFrom f n d d 0 s.1 s.2.1 s.2.2).1 (plcFrom f n d d 0 s.1 s.2.1 s.2.2).2.1 (plcFrom f n d d 0 s.1 s.2.1 s.2.2).2.2=plcFrom f n (d + a) (d + a) 0 s.1 s.2.1 s.2.2:=by
 obtain ⟨k,W,hW⟩:=plcq_run hf h
 have e0:plcFrom f n d d 0 s.1 s.2.1 s.2.2=W s:=by
  rw [(hW d d s (Nat.le_refl _) (by omega)).2,plcFrom_end _ _ _ _ _ _ _ _ (Nat.le_refl _)]
 obtain ⟨d1,d2⟩:=hW (d + a) (d + a) s (by omega) (by omega)
 rw [e0,d2,plcq_off (by omega) a 0 _ _ _ (by omega) (by omega),Nat.add_zero]
 exact plcq_fuel hf _ _ _ _ _ _ (by omega) d1
end Sc
end Go.Proofs.YteiiepjegdlbeaaDoor
namespace Go.Proofs.YteiiepjegdlbeaaDoor
open Go.RowKit Go.Lib
namespace Rf
theorem cp_low {f:Nat -> Nat} {n:Nat} : ∀ (l:List UInt8) (a:Nat),(∀ x ∈ l,x.toNat < 128) -> ∀ j,a <= j -> j < cp f n l a -> f j < 128
 | [],a,_,j,h1,h2 => by
   have:j < a:=h2
   omega
 | x :: r,a,hl,j,h1,h2 => by
   unfold cp at h2
   split at h2
   . next q =>
     by_cases e:j=a
     . subst e
       rw [q.2]
       exact hl x (by simp)
     . exact cp_low r (a + 1) (fun y hy => hl y (by simp [hy])) j (by omega) h2
   . omega
theorem nmT_low : ∀ e ∈ nmT, ∀ x ∈ whl e.1,x.toNat < 128:=by decide
theorem mxN_mem (f:Nat -> Nat) (n:Nat) : ∀ t:List (List UInt8 × Nat),mxN f n (fun _ => false) t=0 \/ ∃ e ∈ t,cmn f n e.1=mxN f n (fun _ => false) t
 | [] => .inl rfl
 | e :: t => by
   have ih:=mxN_mem f n t
   have e1:mxN f n (fun _ => false) (e :: t)=max (cmn f n e.1) (mxN f n (fun _ => false) t):=by simp [mxN]
   rw [e1]
   rcases Nat.le_total (cmn f n e.1) (mxN f n (fun _ => false) t) with q | q
   . rw [Nat.max_eq_right q]
     rcases ih with ih | ⟨x,hx,ih⟩
     . exact .inl ih
     . exact .inr ⟨x,by simp [hx],ih⟩
   . rw [Nat.max_eq_left q]
     exact .inr ⟨e,by simp,rfl⟩
def Low (f:Nat -> Nat) (n:Nat) (x:Nat × Nat × Nat) : Prop:=(x.2.2=1 -> ∀ j,j < n -> f j < 128) /\ (x.2.2=0 -> ∀ j,j < x.2.1 -> f j < 128)
theorem nm_low (f:Nat -> Nat) (n:Nat) : Low f n (nm f n):=by
 rcases nm_ways f n with ⟨e,he,hc,h,hl⟩ | ⟨_,hm,h⟩ | ⟨_,hl,h⟩
 . rw [h]
   refine ⟨fun q => (by cases q),fun _ j hj => ?_⟩
   exact cp_low _ 0 (nmT_low e he) j (Nat.zero_le _) (by show j < cmn f n e.1; rw [hc]; exact hj)
 . rw [h]
   refine ⟨fun _ j hj => ?_,fun q => (by cases q)⟩
   rcases mxN_mem f n nmT with q | ⟨e,he,q⟩
   . omega
   . exact cp_low _ 0 (nmT_low e he) j (Nat.zero_le _) (by show j < cmn f n e.1; omega)
 . rw [h]
   exact ⟨fun q => (by cases q),fun q => (by cases q)⟩
theorem isD_low : ∀ x:Fin 256,(isD 4 x=true -> x.val < 128) /\ (isD 5 x=true -> x.val < 128):=by decide +kernel
theorem Bas.low {base c x:Nat} (h:Bas base c) (hx:x < 256) (hd:isD c x=true) : x < 128:=by
 have:=isD_low ⟨x,hx⟩
 rcases h with ⟨rfl,rfl⟩ | ⟨rfl,rfl⟩
 . exact this.1 hd
 . exact this.2 hd
theorem rn_low {f:Nat -> Nat} {base c:Nat} (hb:Bas base c) (hf : ∀ j,f j < 256) : ∀ (k a v:Nat),((rn f base c k a v).2.2=1 -> ∀ j,a <= j -> j < a + k -> f j < 128) /\ ((rn f base c k a v).2.2=0 -> ∀ j,a <= j -> j < (rn f base c k a v).2.1 -> f j < 128)
 | 0,a,v => ⟨fun _ j h1 h2 => (by omega),fun q => (by cases q)⟩
 | k + 1,a,v => by
   rw [rn_succ]
   split
   . next hd =>
     have h9:=hb.low (hf a) hd
     split
     . exact ⟨fun q => (by cases q),fun q => (by cases q)⟩
     . obtain ⟨i1,i2⟩:=rn_low hb hf k (a + 1) (v * base + dv (f a))
       refine ⟨fun q j h1 h2 => ?_,fun q j h1 h2 => ?_⟩
       . by_cases e:j=a
         . rw [e]; exact h9
         . exact i1 q j (by omega) (by omega)
       . by_cases e:j=a
         . rw [e]; exact h9
         . exact i2 q j (by omega) h2
   . split
     . next hd =>
       refine ⟨fun q => (by cases q),fun q j h1 h2 => ?_⟩
       have e:j=a:=by
        have:j < a + 1:=h2
        omega
       rw [e]
       omega
     . exact ⟨fun q => (by cases q),fun q => (by cases q)⟩
theorem rd_low {f:Nat -> Nat} (hf : ∀ j,f j < 256) (n:Nat) : Low f n (rd f n):=by
 unfold rd
 split
 . exact ⟨fun q => (by cases q),fun q => (by cases q)⟩
 . next h0 =>
   split
   . next h1 =>
     refine ⟨fun _ j hj => ?_,fun q => (by cases q)⟩
     have:j=0:=by omega
     subst this
     have:f 0=38:=by
      by_cases c:f 0=38
      . exact c
      . exact absurd ⟨hj,c⟩ h0
     omega
   . next h1 =>
     split
     . exact nm_low f n
     . next h2 =>
       have z0:f 0=38:=by
        by_cases c:f 0=38
        . exact c
        . exact absurd ⟨by omega,c⟩ h0
       have z1:f 1=35:=by omega
       unfold rdN
       split
       . next h3 =>
         obtain ⟨i1,i2⟩:=rn_low (f:=f) (base:=16) (c:=5) (.inr ⟨rfl,rfl⟩) hf (n - 3) 3 0
         refine ⟨fun q j hj => ?_,fun q j hj => ?_⟩
         all_goals
          rcases (by omega:j=0 \/ j=1 \/ j=2 \/ 3 <= j) with e | e | e | e
          . rw [e]; omega
          . rw [e]; omega
          . rw [e]; omega
         . exact i1 q j e (by omega)
         . exact i2 q j e hj
       . obtain ⟨i1,i2⟩:=rn_low (f:=f) (base:=10) (c:=4) (.inl ⟨rfl,rfl⟩) hf (n - 2) 2 0
         refine ⟨fun q j hj => ?_,fun q j hj => ?_⟩
         all_goals
          rcases (by omega:j=0 \/ j=1 \/ 2 <= j) with e | e | e
          . rw [e]; omega
          . rw [e]; omega
         . exact i1 q j e (by omega)
         . exact i2 q j e hj
end Rf
end Go.Proofs.YteiiepjegdlbeaaDoor
namespace Go.Proofs.YteiiepjegdlbeaaDoor
open Go.RowKit Go.Lib
namespace Rf
theorem cp_fits {f:Nat -> Nat} {n m:Nat} : ∀ (l:List UInt8) (a:Nat),cp f n l a=a + l.length -> a + l.length <= m -> cp f m l a=a + l.length
 | [],a,_,_ => rfl
 | x :: r,a,h,hm => by
   rw [List.length_cons] at h hm ⊢
   unfold cp at h ⊢
   split at h
   . next q =>
     rw [if_pos ⟨by omega,q.2⟩,cp_fits r (a + 1) (by rw [h]; omega) (by omega)]
     omega
   . omega
theorem nm_there {f:Nat -> Nat} {n m:Nat} (h:(nm f n).2.2=0) (hm:(nm f n).2.1 <= m) : 2 <= (nm f n).2.1 /\ (nm f m).2.2=0:=by
 rcases nm_ways f n with ⟨e,he,hc,g,hl⟩ | ⟨_,_,g⟩ | ⟨_,hl,g⟩
 . rw [g] at hm ⊢
   have hm':e.1.length + 2 <= m:=hm
   refine ⟨by show 2 <= e.1.length + 2; omega, ?_⟩
   have hc2:cmn f m e.1=e.1.length + 2:=by
    have:=cp_fits (f:=f) (n:=n) (m:=m) (whl e.1) 0 (by rw [whl_len,Nat.zero_add]; exact hc) (by rw [whl_len]; omega)
    rw [whl_len,Nat.zero_add] at this
    exact this
   rcases nm_ways f m with ⟨e',_,_,g',_⟩ | ⟨no,_,_⟩ | ⟨no,_,_⟩
   . rw [g']
   . exact absurd hc2 (no e he)
   . exact absurd hc2 (no e he)
 . rw [g] at h
   cases h
 . rw [g] at h
   cases h
theorem rn_there {f:Nat -> Nat} {base c:Nat} : ∀ (k a v:Nat),(rn f base c k a v).2.2=0 -> a < (rn f base c k a v).2.1 /\ ∀ k',(rn f base c k a v).2.1 <= a + k' -> (rn f base c k' a v).2.2=0
 | 0,a,v,h => by cases h
 | k + 1,a,v,h => by
   rw [rn_succ] at h ⊢
   split at h
   . next hd =>
     rw [if_pos hd]
     split at h
     . cases h
     . next hv =>
       rw [if_neg hv]
       obtain ⟨q1,q2⟩:=rn_there k (a + 1) _ h
       refine ⟨by omega,fun k' hk => ?_⟩
       obtain ⟨m,rfl⟩ : ∃ m,k'=m + 1:=⟨k' - 1,by omega⟩
       rw [rn_succ,if_pos hd,if_neg hv]
       exact q2 m (by omega)
   . next hd =>
     rw [if_neg hd]
     split at h
     . next hq =>
       rw [if_pos hq]
       refine ⟨Nat.lt_succ_self _,fun k' hk => ?_⟩
       have hk2:a + 1 <= a + k':=hk
       obtain ⟨m,rfl⟩ : ∃ m,k'=m + 1:=⟨k' - 1,by omega⟩
       rw [rn_succ,if_neg hd,if_pos hq]
     . cases h
theorem rd_there {f:Nat -> Nat} {n m:Nat} (h:(rd f n).2.2=0) (hm:(rd f n).2.1 <= m) : (rd f m).2.2=0:=by
 unfold rd at h hm
 split at h
 . cases h
 . next h0 =>
   rw [if_neg h0] at hm
   split at h
   . cases h
   . next h1 =>
     rw [if_neg h1] at hm
     have z0:f 0=38:=by
      by_cases c:f 0=38
      . exact c
      . exact absurd ⟨by omega,c⟩ h0
     have z : ¬ (0 < m /\ f 0 ≠ 38):=fun q => q.2 z0
     split at h
     . next h2 =>
       rw [if_pos h2] at hm
       obtain ⟨q1,q2⟩:=nm_there h hm
       unfold rd
       rw [if_neg z,if_neg (by omega),if_pos h2]
       exact q2
     . next h2 =>
       rw [if_neg h2] at hm
       unfold rdN at h hm
       split at h
       . next h3 =>
         rw [if_pos h3] at hm
         obtain ⟨q1,q2⟩:=rn_there _ _ _ h
         unfold rd rdN
         rw [if_neg z,if_neg (by omega),if_neg h2,if_pos ⟨by omega,h3.2⟩]
         exact q2 _ (by omega)
       . next h3 =>
         rw [if_neg h3] at hm
         obtain ⟨q1,q2⟩:=rn_there _ _ _ h
         have h4:2 < n:=by
          by_cases c:2 < n
          . exact c
          . rw [show n - 2=0 by omega] at h
            cases h
         unfold rd rdN
         rw [if_neg z,if_neg (by omega),if_neg h2,if_neg (fun q => h3 ⟨h4,q.2⟩)]
         exact q2 _ (by omega)
end Rf
namespace Sc
open Rn
open _root_.Go.Proofs.YteiiepjegdlbeaaDoor.Fd
theorem nx_run {f:Nat -> Nat} {n a:Nat} {c:Int} {sg:List Nat} (h:(nx f n a c sg).1=0) : Run f n a (a + (nx f n a c sg).2.2):=by
 unfold nx at h ⊢
 split at h
 . next hc =>
   rw [if_pos hc]
   exact (Fd.pk_have (r:=(Fd.pk f n a false).1) (a:=(Fd.pk f n a false).2.1) (w:=(Fd.pk f n a false).2.2.1) (by rw [<- hc.1])).2.2.1
 . split at h
   . cases h
   . split at h <;> cases h
theorem low_whole {f:Nat -> Nat} {n:Nat} (h:f 0 < 128) (hn:0 < n) : whole f n=true /\ fs f n=1:=by
 have h1:size (f 0)=1:=by unfold size; rw [if_pos h]
 have hs:fs f n=1:=by unfold fs; rw [if_neg (by omega),h1]
 refine ⟨?_,hs⟩
 unfold whole fk len
 rw [hs,h1,if_neg (by omega),if_pos (.inl rfl)]
 rfl
theorem low_run {f:Nat -> Nat} {n a:Nat} (h:f a < 128) (ha:a < n) : Run f n a (a + 1):=by
 obtain ⟨q1,q2⟩:=low_whole (f:=off f a) (n:=n - a) (by show f (a + 0) < 128; exact h) (by omega)
 have:=Run.one q1
 rw [q2] at this
 exact this
structure Rw (nm:List UInt8) (f:Nat -> Nat) (n:Nat) (s:Wk) : Prop where
 ps:s.st ≠ 18 -> Run f n 0 s.ps
 fr:Run f n 0 s.fr
 tg:Run f n 0 s.tg
 tf:Run f n 0 s.tf
 nam:s.st=18 -> Run f n 0 (s.tg + 2) /\ s.tg + 2 <= s.ps /\ s.ps <= n /\ ∀ j,j < s.ps - (s.tg + 2) -> f (s.tg + 2 + j)=lf nm j
 sig:s.st=2 -> s.ps=s.tg + 1
 ref:s.how=1 -> s.st=1 \/ s.st=17 -> (Rf.rd (lf s.ref) s.ref.length).2.2=1
structure Md (f:Nat -> Nat) (n:Nat) (s:Wk) (r:Nat) (t:Wk) : Prop where
 ps:Run f n 0 t.ps
 fr:Run f n 0 t.fr
 tg:Run f n 0 t.tg
 tf:Run f n 0 t.tf
 at_:t.fr=s.ps
 tgs:t.tg=s.tg
 one:r < 128 -> r ≠ 10 -> t.ps=t.fr + 1
 psn:t.ps <= n
 st:t.st=s.st
theorem Rw.of {nm:List UInt8} {f:Nat -> Nat} {n:Nat} {t:Wk} (p:Run f n 0 t.ps) (a:Run f n 0 t.fr) (b:Run f n 0 t.tg) (c:Run f n 0 t.tf) (h:t.st ≠ 18 /\ t.st ≠ 2 /\ t.st ≠ 1 /\ t.st ≠ 17) : Rw nm f n t :=
 ⟨fun _ => p,a,b,c,fun e => absurd e h.1,fun e => absurd e h.2.1,fun _ e => absurd e (by omega)⟩
theorem onNx_rw {nm:List UInt8} {f:Nat -> Nat} {n:Nat} {c:Int} {sg:List Nat} {s t:Wk} {k:Nat -> Wk -> Wk} (h:onNx (nx f n s.ps c sg) s k=some t) (hs:Rw nm f n s) (h18:s.st ≠ 18) (hk : ∀ r s',Md f n s r s' -> Rw nm f n (k r s')) : Rw nm f n t:=by
 have hp:=hs.ps h18
 unfold onNx at h
 split at h
 . next hz =>
   cases h
   have hr:=nx_run hz
   have hb:=nx_in0 hz
   exact hk _ _ ⟨hp.trans hr,hp,hs.tg,hs.tf,rfl,rfl,fun q1 q2 => by show s.ps + _=s.ps + 1; rw [nx_byte hz q1 q2],hb.2,rfl⟩
 . split at h
   . cases h
     exact ⟨hs.ps,hs.fr,hs.tg,hs.tf,hs.nam,hs.sig,fun e => (by cases e)⟩
   . cases h
theorem lf_last (l:List UInt8) (b:UInt8) : lf (l ++ [b]) l.length=b.toNat:=by
 unfold lf
 simp
theorem lf_head (l:List UInt8) (b:UInt8) (j:Nat) (h:j < l.length) : lf (l ++ [b]) j=lf l j:=by
 unfold lf
 rw [List.getElem?_append_left h]
theorem ref_low {l:List UInt8} {b:UInt8} (hw:(Rf.rd (lf l) l.length).2.2=1) (h:(Rf.rd (lf (l ++ [b])) (l.length + 1)).2.2 ≠ 2) : b.toNat < 128:=by
 have hf : ∀ j,lf (l ++ [b]) j < 256:=fun j => lf_lt _ _
 have q:=Rf.rd_low hf (l.length + 1)
 have hc:(Rf.rd (lf (l ++ [b])) l.length).2.2=1:=by
  rw [Rf.rd_congr (g:=lf l) (fun j hj => lf_head l b j hj)]
  exact hw
 rcases Rf.rd_fine (lf (l ++ [b])) (l.length + 1) with e | e | e
 . have:=q.1 (by rw [e]) l.length (by omega)
   rw [lf_last] at this
   exact this
 . exact absurd e.1 h
 . by_cases c : l.length < (Rf.rd (lf (l ++ [b])) (l.length + 1)).2.1
   . have:=q.2 e.1 l.length c
     rw [lf_last] at this
     exact this
   . exfalso
     have:=Rf.rd_there e.1 (m:=l.length) (by omega)
     omega
theorem nought_wait {l:List UInt8} (h:(Rf.rd (lf l) l.length).2.2=1) : (Rf.rd (lf (nought l)) (nought l).length).2.2=1:=by
 unfold nought
 split
 . have e:(Rf.rd (lf l.dropLast) l.dropLast.length)=Rf.rd (lf l) l.dropLast.length:=by
    refine Rf.rd_congr fun j hj => ?_
    unfold lf
    rw [List.getElem?_dropLast]
    rw [List.length_dropLast] at hj
    rw [if_pos hj]
   rw [e]
   exact Rf.rd_waits h (by rw [List.length_dropLast]; omega)
 . exact h
theorem onRef_rw {nm:List UInt8} {f:Nat -> Nat} {n:Nat} {s t:Wk} {k:Nat -> Wk -> Wk} (hf : ∀ j,f j < 256) (h:onRef f n s k=some t) (hs:Rw nm f n s) (hw:s.how=1) (h1:s.st=1 \/ s.st=17) (hk : ∀ r s',Run f n 0 s'.ps -> Run f n 0 s'.fr -> Run f n 0 s'.tg -> Run f n 0 s'.tf -> Rw nm f n (k r s')) : Rw nm f n t:=by
 have hp:=hs.ps (by omega)
 have hr:=hs.ref hw h1
 unfold onRef at h
 split at h
 . cases h
 . next hn =>
   have lw:(Rf.rd (lf (s.ref ++ [(f s.ps).toUInt8])) (s.ref.length + 1)).2.2 ≠ 2 -> Run f n 0 (s.ps + 1):=by
    intro q
    have:=ref_low hr q
    rw [show (f s.ps).toUInt8.toNat=f s.ps from by
     have:=hf s.ps
     simp [Nat.toUInt8]; omega] at this
    exact hp.trans (low_run this (by omega))
   split at h
   . cases h
     exact ⟨fun _ => hp,hs.fr,hs.tg,hs.tf,fun e => (by have:s.st=18:=e; omega),fun e => (by have:s.st=2:=e; omega),fun e => (by cases e)⟩
   . next c2 =>
     split at h
     . cases h
       exact hk _ _ (lw c2) hs.fr hs.tg hs.tf
     . next c0 =>
       cases h
       refine ⟨fun _ => lw c2,hs.fr,hs.tg,hs.tf,fun e => (by have:s.st=18:=e; omega),fun e => (by have:s.st=2:=e; omega),fun _ _ => nought_wait ?_⟩
       rw [List.length_append,List.length_singleton]
       rcases Rf.rd_fine (lf (s.ref ++ [(f s.ps).toUInt8])) (s.ref.length + 1) with e | e | e
       . rw [e]
       . exact absurd e.1 c2
       . exact absurd e.1 c0
theorem add_tf {f:Nat -> Nat} {n:Nat} {s:Wk} {r a:Nat} (h:Run f n 0 s.tf) (ha:Run f n 0 a) : Run f n 0 (s.add r a).tf:=by
 show Run f n 0 (if s.text = [] then a else s.tf)
 split
 . exact ha
 . exact h
theorem amp_waits:(Rf.rd (lf [38]) 1).2.2=1:=by decide
theorem step_rw {inn:Nat} {nm:List UInt8} {f:Nat -> Nat} {n:Nat} {s t:Wk} (hf : ∀ j,f j < 256) (hnm:Run (lf nm) nm.length 0 nm.length) (h1:s.how=1) (h:step inn nm f n s=some t) (hs:Rw nm f n s) : Rw nm f n t:=by
 unfold step at h
 split at h
 case h_1 e0 =>
  refine onNx_rw h hs (by omega) fun r s' m => ?_
  have e:=m.st
  split
  . next c =>
    exact ⟨fun _ => m.ps,m.fr,m.fr,m.tf,fun q => (by cases q),fun _ => m.one (by omega) (by omega),fun _ q => (by rcases q with q | q <;> cases q)⟩
  . split
    . exact .of m.ps m.fr m.tg m.tf (by omega)
    . split
      . exact ⟨fun _ => m.ps,m.fr,m.tg,m.tf,fun q => (by cases q),fun q => (by cases q),fun _ _ => amp_waits⟩
      . split
        . exact .of m.ps m.fr m.tg m.tf (by show s'.st ≠ 18 /\ s'.st ≠ 2 /\ s'.st ≠ 1 /\ s'.st ≠ 17; omega)
        . exact .of m.ps m.fr m.tg (add_tf (r:=r) m.tf m.fr) (by show s'.st ≠ 18 /\ s'.st ≠ 2 /\ s'.st ≠ 1 /\ s'.st ≠ 17; omega)
 case h_2 e0 =>
  refine onRef_rw hf h hs h1 (.inl e0) fun r s' a b c d => ?_
  exact .of a b c (add_tf (r:=r) d b) (by show 0 ≠ 18 /\ 0 ≠ 2 /\ 0 ≠ 1 /\ 0 ≠ 17; omega)
 case h_18 e0 =>
  refine onRef_rw hf h hs h1 (.inr e0) fun r s' a b c d => ?_
  exact .of a b c d (by show 16 ≠ 18 /\ 16 ≠ 2 /\ 16 ≠ 1 /\ 16 ≠ 17; omega)
 case h_3 e0 =>
  refine onNx_rw h hs (by omega) fun r s' m => ?_
  have e:=m.st
  split
  . exact .of m.ps m.fr m.tg m.tf (by simp [Wk.turn])
  . split
    . next c =>
      have q1:=m.one (by omega) (by omega)
      have q2:=hs.sig e0
      have q3:=m.at_
      have q4:=m.tgs
      have q5:s'.ps=s'.tg + 2:=by omega
      refine ⟨fun q => absurd rfl q,m.fr,m.tg,m.tf,fun _ => ⟨?_, ?_,m.psn,fun j hj => ?_⟩,fun q => (by cases q),fun _ q => (by rcases q with q | q <;> cases q)⟩
      . show Run f n 0 (s'.tg + 2)
        rw [<- q5]
        exact m.ps
      . show s'.tg + 2 <= s'.ps
        omega
      . have:j < s'.ps - (s'.tg + 2):=hj
        omega
    . exact .of m.ps m.fr m.tg m.tf (by simp)
 case h_9 e0 =>
  refine onNx_rw h hs (by omega) fun r s' m => ?_
  have e:=m.st
  split
  . exact .of m.ps m.fr m.tg m.tf (by simp)
  . exact .of m.ps m.fr m.tg (add_tf (r:=r) m.tf m.tg) (by show s'.st ≠ 18 /\ s'.st ≠ 2 /\ s'.st ≠ 1 /\ s'.st ≠ 17; omega)
 case h_14 e0 =>
  split at h
  . cases h
    exact .of (hs.ps (by omega)) hs.fr hs.tg hs.tf (by show s.st ≠ 18 /\ s.st ≠ 2 /\ s.st ≠ 1 /\ s.st ≠ 17; omega)
  . refine onNx_rw h hs (by omega) fun r s' m => ?_
    have e:=m.st
    repeat' split
    all_goals first
     | exact .of m.ps m.fr m.tg m.tf (by show s'.st ≠ 18 /\ s'.st ≠ 2 /\ s'.st ≠ 1 /\ s'.st ≠ 17; omega)
     | exact .of m.ps m.fr m.tg m.tf (by simp [Wk.turn])
 case h_17 e0 =>
  refine onNx_rw h hs (by omega) fun r s' m => ?_
  have e:=m.st
  split
  . exact .of m.ps m.fr m.tg m.tf (by show s'.st ≠ 18 /\ s'.st ≠ 2 /\ s'.st ≠ 1 /\ s'.st ≠ 17; omega)
  . split
    . exact .of m.ps m.fr m.tg m.tf (by simp)
    . split
      . exact ⟨fun _ => m.ps,m.fr,m.tg,m.tf,fun q => (by cases q),fun q => (by cases q),fun _ _ => amp_waits⟩
      . exact .of m.ps m.fr m.tg m.tf (by show s'.st ≠ 18 /\ s'.st ≠ 2 /\ s'.st ≠ 1 /\ s'.st ≠ 17; omega)
 case h_19 e0 =>
  obtain ⟨n1,n2,n3,n4⟩:=hs.nam e0
  split at h
  . next hl =>
    cases h
    refine .of ?_ hs.fr hs.tg hs.tf (by simp [Wk.turn])
    show Run f n 0 s.ps
    have a1:Run (off f (s.tg + 2)) nm.length 0 nm.length:=hnm.congr fun j hj => (n4 j (by omega)).symm
    have a2:=a1.shift
    rw [Nat.add_zero,show s.tg + 2 + nm.length=s.ps by omega] at a2
    exact n1.trans (a2.up n3)
  . next hl =>
    split at h
    . cases h
    . next hn =>
      split at h
      . cases h
        exact ⟨fun q => absurd e0 q,hs.fr,hs.tg,hs.tf,hs.nam,fun q => (by have:s.st=2:=q; omega),fun q => (by cases q)⟩
      . next hb =>
        cases h
        refine ⟨fun q => absurd e0 q,hs.fr,hs.tg,hs.tf,fun _ => ⟨n1, ?_, ?_,fun j hj => ?_⟩,fun q => (by have:s.st=2:=q; omega),fun _ q => (by have:s.st=1 \/ s.st=17:=q; omega)⟩
        . show s.tg + 2 <= s.ps + 1
          omega
        . show s.ps + 1 <= n
          omega
        . have hj2:j < s.ps + 1 - (s.tg + 2):=hj
          by_cases c:j < s.ps - (s.tg + 2)
          . exact n4 j c
          . have e1:j=s.ps - s.tg - 2:=by omega
            have e2:f s.ps=lf nm (s.ps - s.tg - 2):=by
             by_cases q:f s.ps=lf nm (s.ps - s.tg - 2)
             . exact q
             . exact absurd q hb
            show f (s.tg + 2 + j)=lf nm j
            rw [e1, <- e2]
            congr 1
            omega
 case h_20 =>
  have b1:s.st ≠ 1:=by assumption
  have b2:s.st ≠ 2:=by assumption
  have b17:s.st ≠ 17:=by assumption
  have b18:s.st ≠ 18:=by assumption
  refine onNx_rw h hs b18 fun r s' m => ?_
  have e:=m.st
  split
  . exact .of m.ps m.fr m.tg m.tf (by show s'.st ≠ 18 /\ s'.st ≠ 2 /\ s'.st ≠ 1 /\ s'.st ≠ 17; omega)
  . exact .of m.ps m.fr m.tg m.tf (by omega)
 all_goals
  refine onNx_rw h hs (by omega) fun r s' m => ?_
  have e:=m.st
  try repeat' split
  all_goals first
   | exact .of m.ps m.fr m.tg m.tf (by show s'.st ≠ 18 /\ s'.st ≠ 2 /\ s'.st ≠ 1 /\ s'.st ≠ 17; omega)
   | exact .of m.ps m.fr m.tg m.tf (by simp [Wk.turn])
theorem Steps.rw' {inn:Nat} {nm:List UInt8} {f:Nat -> Nat} {n:Nat} {s t:Wk} (hf : ∀ j,f j < 256) (hnm:Run (lf nm) nm.length 0 nm.length) (h:Steps inn nm f n s t) (hs:Rw nm f n s) : Rw nm f n t:=by
 induction h with
 | refl => exact hs
 | cons h0 h r ih => exact ih (step_rw hf hnm h0 h hs)
theorem rw_new (nm:List UInt8) (f:Nat -> Nat) (n:Nat) : Rw nm f n {} := .of (.refl _) (.refl _) (.refl _) (.refl _) (by decide)
end Sc
end Go.Proofs.YteiiepjegdlbeaaDoor
namespace Go.Proofs.YteiiepjegdlbeaaDoor
open Go.RowKit Go.Lib
namespace Sc
open Rn
open _root_.Go.Proofs.YteiiepjegdlbeaaDoor.Fd
theorem nx_scalM {f:Nat -> Nat} {n a:Nat} {c:Int} {sg:List Nat} (h:(nx f n a c sg).1=0) : scal (nx f n a c sg).2.1:=by
 have q : ∀ T,scal (Fd.pk f n T false).1:=by
  intro T
  unfold Fd.pk
  split
  . next hw =>
    by_cases c:Rn.fv (Rn.off f T)=13
    . rw [if_pos c]
      repeat' split
      all_goals first | (unfold Rn.scal; simp; done) | (simp_all; done)
    . rw [if_neg c]
      exact Rn.fv_scal _ _ hw
  . repeat' split
    all_goals (unfold Rn.scal; simp)
 unfold nx at h ⊢
 split at h
 . next hc =>
   rw [if_pos hc]
   exact q a
 . split at h
   . cases h
   . split at h <;> cases h
def Cs (l:List UInt8) : Prop := ∃ N:List Nat,(∀ r ∈ N,scal r) /\ l=cat N
theorem Cs.nil:Cs []:=⟨[],by simp,rfl⟩
theorem Cs.snoc {l:List UInt8} (h:Cs l) {r:Nat} (hr:scal r) : Cs (l ++ encodeRune r):=by
 obtain ⟨N,q,rfl⟩:=h
 refine ⟨N ++ [r],fun x hx => ?_, ?_⟩
 . rcases List.mem_append.1 hx with e | e
   . exact q x e
   . rw [List.mem_singleton.1 e]
     exact hr
 . rw [cat_append,cat_cons]
   simp [cat]
theorem run_all (l:List UInt8) : ∀ (L:List Nat),(∀ r ∈ L,scal r) -> ∀ (A:List UInt8),l=A ++ cat L -> Run (lf l) l.length A.length l.length
 | [],_,A,hl => by
   have:l.length=A.length:=by rw [hl]; simp [cat]
   rw [this]
   exact .refl _
 | r :: L,hL,A,hl => by
   rw [cat_cons] at hl
   obtain ⟨h1,h2,h3,h4⟩:=at_enc l A r L (hL r (by simp)) hl
   refine .step h2 ?_
   rw [h3]
   have:=run_all l L (fun x hx => hL x (by simp [hx])) (A ++ encodeRune r) (by rw [hl,List.append_assoc])
   rw [List.length_append,enc_length] at this
   exact this
theorem Cs.run {l:List UInt8} (h:Cs l) : Run (lf l) l.length 0 l.length:=by
 obtain ⟨N,q,e⟩:=h
 exact run_all l N q [] (by rw [List.nil_append]; exact e)
theorem onNx_tag {f:Nat -> Nat} {n a:Nat} {c:Int} {sg:List Nat} {s t:Wk} {k:Nat -> Wk -> Wk} (h:onNx (nx f n a c sg) s k=some t) (hs:Cs s.tag) (hk : ∀ r s',scal r -> s'.tag=s.tag -> Cs (k r s').tag) : Cs t.tag:=by
 unfold onNx at h
 split at h
 . next hz =>
   cases h
   exact hk _ _ (nx_scalM hz) rfl
 . split at h
   . cases h
     exact hs
   . cases h
theorem onRef_tag {f:Nat -> Nat} {n:Nat} {s t:Wk} {k:Nat -> Wk -> Wk} (h:onRef f n s k=some t) (hs:Cs s.tag) (hk : ∀ r s',s'.tag=s.tag -> Cs (k r s').tag) : Cs t.tag:=by
 unfold onRef at h
 split at h
 . cases h
 . split at h
   . cases h
     exact hs
   . split at h
     . cases h
       exact hk _ _ rfl
     . cases h
       exact hs
theorem step_tag {inn:Nat} {nm:List UInt8} {f:Nat -> Nat} {n:Nat} {s t:Wk} (hnm:Cs nm) (h:step inn nm f n s=some t) (hs:Cs s.tag) : Cs t.tag:=by
 unfold step at h
 split at h
 case h_2 => exact onRef_tag h hs fun r s' e => (by show Cs s'.tag; rw [e]; exact hs)
 case h_18 => exact onRef_tag h hs fun r s' e => (by show Cs s'.tag; rw [e]; exact hs)
 case h_14 =>
  split at h
  . cases h
    exact hs
  . refine onNx_tag h hs fun r s' q e => ?_
    repeat' split
    all_goals (show Cs s'.tag; rw [e]; exact hs)
 case h_19 =>
  split at h
  . cases h
    exact hs
  . split at h
    . cases h
    . split at h <;> (cases h; exact hs)
 all_goals
  refine onNx_tag h hs fun r s' q e => ?_
  try repeat' split
  all_goals first
   | (show Cs s'.tag; rw [e]; exact hs)
   | (show Cs (s'.tag ++ encodeRune r); rw [e]; exact hs.snoc q)
   | exact hnm
theorem Steps.tag' {inn:Nat} {nm:List UInt8} {f:Nat -> Nat} {n:Nat} {s t:Wk} (hnm:Cs nm) (h:Steps inn nm f n s t) (hs:Cs s.tag) : Cs t.tag:=by
 induction h with
 | refl => exact hs
 | cons h0 h r ih => exact ih (step_tag hnm h hs)
def Dr.Nm (s:Dr) : Prop := ∀ l ∈ s.opn,Cs l
theorem Dr.Nm.nm {s:Dr} (h:s.Nm) : Cs s.nm:=by
 unfold Dr.nm
 split
 . cases e:s.opn with
   | nil => exact Cs.nil
   | cons x t => exact h x (by rw [e]; simp)
 . exact Cs.nil
theorem Dr.Nm.next {s:Dr} {f:Nat -> Nat} {n:Nat} {k:Wk} (h:s.Nm) (g:Steps s.inn s.nm f n {} k) : (s.next k).Nm:=by
 have q:=g.tag' h.nm Cs.nil
 intro l hl
 have hl2:l ∈ s.opens k:=hl
 unfold Dr.opens at hl2
 split at hl2
 . rcases List.mem_cons.1 hl2 with e | e
   . rw [e]; exact q
   . exact h l e
 . split at hl2
   . exact h l (List.mem_of_mem_tail hl2)
   . exact h l hl2
theorem onNx_w {x:Nat × Nat × Nat} {s t:Wk} {k:Nat -> Wk -> Wk} (h:onNx x s k=some t) (h1:s.how=1) (h0:t.how=0) (hk : ∀ r s',s'.how=1 -> s'.st=s.st -> (k r s').how=0 -> (k r s').st ≠ 18) : t.st ≠ 18:=by
 unfold onNx at h
 split at h
 . cases h
   exact hk _ _ h1 rfl h0
 . split at h
   . cases h
     cases h0
   . cases h
theorem step_w {inn:Nat} {nm:List UInt8} {f:Nat -> Nat} {n:Nat} {s t:Wk} (h1:s.how=1) (h:step inn nm f n s=some t) (h0:t.how=0) : t.st ≠ 18:=by
 have ar : ∀ (k:Nat -> Wk -> Wk),(∀ r s',(k r s').how=s'.how) -> onRef f n s k=some t -> False:=by
  intro k hk g
  unfold onRef at g
  split at g
  . cases g
  . split at g
    . cases g
      cases h0
    . split at g
      . cases g
        rw [hk] at h0
        have:s.how=0:=h0
        omega
      . cases g
        have:s.how=0:=h0
        omega
 unfold step at h
 split at h
 case h_2 => (refine (ar _ (fun r s' => ?_) h).elim; rfl)
 case h_18 => (refine (ar _ (fun r s' => ?_) h).elim; rfl)
 case h_14 =>
  split at h
  . cases h
    cases h0
  . refine onNx_w h h1 h0 fun r s' q e => ?_
    repeat' split
    all_goals (intro z; have:s'.how=0:=z; omega)
 case h_19 =>
  split at h
  . cases h
    have:s.how=0:=h0
    omega
  . split at h
    . cases h
    . split at h
      . cases h
        cases h0
      . cases h
        have:s.how=0:=h0
        omega
 case h_20 =>
  have b18:s.st ≠ 18:=by assumption
  refine onNx_w h h1 h0 fun r s' q e => ?_
  split
  . intro _
    show s'.st ≠ 18
    omega
  . intro z
    omega
 all_goals
  refine onNx_w h h1 h0 fun r s' q e => ?_
  try repeat' split
  all_goals first
   | (intro z; have:s'.how=0:=z; omega)
   | (intro _; show s'.st ≠ 18; omega)
   | (intro z; cases z; done)
theorem Tags.runs {f:Nat -> Nat} {n a b:Nat} {s u:Dr} (hf : ∀ j,f j < 256) (h:Tags f n a s b u) (ha:a <= n) (hn:s.Nm) (ho:s.Ok) (hr:Run f n 0 a) : Run f n 0 b /\ u.Nm /\ u.Ok /\ b <= n:=by
 induction h with
 | refl => exact ⟨hr,hn,ho,ha⟩
 | @cons a b s u k h h0 r ih =>
   have q1:=h.within (Nat.zero_le _)
   have q2:=h.rw' (fun _ => hf _) hn.nm.run (rw_new _ _ _)
   refine ih (by omega) (hn.next h) (ho.next h h0).1 ?_
   have q4:k.st ≠ 18:=by
    obtain ⟨m,r1,r2,r3⟩:=h.last rfl (by omega)
    exact step_w r2 r3 h0
   have q5:=(q2.ps q4).shift
   rw [Nat.add_zero,show a + (n - a)=n by omega] at q5
   exact hr.trans q5
end Sc
end Go.Proofs.YteiiepjegdlbeaaDoor
namespace Go.Proofs.YteiiepjegdlbeaaDoor
open Go.RowKit Go.Lib
namespace Sc
open Rn
theorem nx_sign {f:Nat -> Nat} {n a:Nat} {c:Int} {sg:List Nat} (h:(nx f n a c sg).1=0) (h1:(nx f n a c sg).2.1 < 128) (h2:(nx f n a c sg).2.1 ≠ 10) : f a=(nx f n a c sg).2.1:=by
 unfold nx at h h1 h2 ⊢
 split at h
 . next hc =>
   rw [if_pos hc] at h1 h2 ⊢
   have hh:=hc.1
   unfold Fd.pk at hh h1 h2 ⊢
   by_cases hw:Rn.whole (Rn.off f a) (n - a)=true
   . rw [if_pos hw] at hh h1 h2 ⊢
     by_cases c13:Rn.fv (Rn.off f a)=13
     . exfalso
       rw [if_pos c13] at hh h2
       by_cases c1:a + 1 < n
       . rw [if_pos c1] at h2
         split at h2 <;> exact h2 rfl
       . rw [if_neg c1] at hh
         simp at hh
     . rw [if_neg c13] at h1 ⊢
       have h1':Rn.fv (Rn.off f a) < 128:=h1
       by_cases q:Rn.off f a 0 < 128
       . exact (fv_one hw q).1.symm
       . have:=fv_first hw (by omega)
         omega
   . exfalso
     rw [if_neg hw] at hh
     by_cases c1:n <= a
     . rw [if_pos c1] at hh; simp at hh
     . rw [if_neg c1] at hh
       split at hh <;> simp at hh
 . split at h
   . cases h
   . split at h <;> cases h
structure Lg (f:Nat -> Nat) (s:Wk) : Prop where
 lt:2 <= s.st -> f s.tg=60
 gt:s.how=0 -> s.ps=s.fr + 1 /\ f s.fr=62 /\ 2 <= s.st
structure Le (f:Nat -> Nat) (s:Wk) (r:Nat) (t:Wk) : Prop where
 how:t.how=1
 st:t.st=s.st
 tg:t.tg=s.tg
 one:r < 128 -> r ≠ 10 -> t.ps=t.fr + 1 /\ f t.fr=r
theorem onNx_lg {f:Nat -> Nat} {n:Nat} {c:Int} {sg:List Nat} {s t:Wk} {k:Nat -> Wk -> Wk} (h:onNx (nx f n s.ps c sg) s k=some t) (h1:s.how=1) (hs:Lg f s) (hk : ∀ r s',Le f s r s' -> (Ch.isT Ch.tab c (r:Nat)=true \/ r ∈ sg) -> Lg f (k r s')) : Lg f t:=by
 unfold onNx at h
 split at h
 . next hz =>
   cases h
   exact hk _ _ ⟨h1,rfl,rfl,fun q1 q2 => ⟨by show s.ps + _=s.ps + 1; rw [nx_byte hz q1 q2],nx_sign hz q1 q2⟩⟩ (nx_ok hz)
 . split at h
   . cases h
     exact ⟨hs.lt,fun e => (by cases e)⟩
   . cases h
theorem onRef_lg {f:Nat -> Nat} {n:Nat} {s t:Wk} {k:Nat -> Wk -> Wk} (h:onRef f n s k=some t) (h1:s.how=1) (hs:Lg f s) (hk : ∀ r s',s'.how=1 -> s'.st=s.st -> s'.tg=s.tg -> Lg f (k r s')) : Lg f t:=by
 unfold onRef at h
 split at h
 . cases h
 . split at h
   . cases h
     exact ⟨hs.lt,fun e => (by cases e)⟩
   . split at h
     . cases h
       exact hk _ _ h1 rfl rfl
     . cases h
       exact ⟨hs.lt,fun e => (by have:s.how=0:=e; omega)⟩
theorem Lg.on {f:Nat -> Nat} {s t:Wk} (hs:Lg f s) (h2:2 <= s.st) (e:t.tg=s.tg) (h:t.how ≠ 0) : Lg f t:=⟨fun _ => by rw [e]; exact hs.lt h2,fun q => absurd q h⟩
theorem step_lg {inn:Nat} {nm:List UInt8} {f:Nat -> Nat} {n:Nat} {s t:Wk} (h1:s.how=1) (h:step inn nm f n s=some t) (hs:Lg f s) : Lg f t:=by
 unfold step at h
 split at h
 case h_1 e0 =>
  refine onNx_lg h h1 hs fun r s' m _ => ?_
  have e:=m.st
  have g:=m.how
  split
  . next c =>
    exact ⟨fun _ => (by show f s'.fr=60; rw [(m.one (by omega) (by omega)).2,c]),fun q => (by have:s'.how=0:=q; omega)⟩
  . split
    . exact ⟨fun q => (by omega),fun q => (by omega)⟩
    . split
      . exact ⟨fun q => (by have:2 <= 1:=q; omega),fun q => (by have:s'.how=0:=q; omega)⟩
      . split
        . exact ⟨fun q => (by have:2 <= s'.st:=q; omega),fun q => (by cases q)⟩
        . exact ⟨fun q => (by have:2 <= s'.st:=q; omega),fun q => (by have:s'.how=0:=q; omega)⟩
 case h_2 e0 =>
  refine onRef_lg h h1 hs fun r s' a b c => ?_
  exact ⟨fun q => (by have:2 <= 0:=q; omega),fun q => (by have:s'.how=0:=q; omega)⟩
 case h_18 e0 =>
  refine onRef_lg h h1 hs fun r s' a b c => ?_
  exact hs.on (by omega) c (by show s'.how ≠ 0; omega)
 case h_14 e0 =>
  split at h
  . cases h
    exact hs.on (by omega) rfl (by show 2 ≠ 0; omega)
  . refine onNx_lg h h1 hs fun r s' m _ => ?_
    have g:=m.how
    repeat' split
    all_goals exact hs.on (by omega) m.tg (by show s'.how ≠ 0; omega)
 case h_19 e0 =>
  split at h
  . cases h
    exact hs.on (by omega) rfl (by show s.how ≠ 0; omega)
  . split at h
    . cases h
    . split at h
      . cases h
        exact hs.on (by omega) rfl (by show 2 ≠ 0; omega)
      . cases h
        exact hs.on (by omega) rfl (by show s.how ≠ 0; omega)
 case h_13 e0 =>
  refine onNx_lg h h1 hs fun r s' m hr => ?_
  have e:r=62:=by
   rcases hr with hr | hr
   . rw [none_is] at hr
     cases hr
   . simpa using hr
  have q:=m.one (by omega) (by omega)
  have st:=m.st
  exact ⟨fun _ => (by show f s'.tg=60; rw [m.tg]; exact hs.lt (by omega)),fun _ => ⟨q.1,q.2.trans e,by show 2 <= s'.st; omega⟩⟩
 case h_20 =>
  have b0:s.st ≠ 0:=by assumption
  have b1:s.st ≠ 1:=by assumption
  refine onNx_lg h h1 hs fun r s' m hr => ?_
  have st:=m.st
  have g:=m.how
  split
  . next e =>
    have q:=m.one (by omega) (by omega)
    exact ⟨fun _ => (by show f s'.tg=60; rw [m.tg]; exact hs.lt (by omega)),fun _ => ⟨q.1,q.2.trans e,by show 2 <= s'.st; omega⟩⟩
  . exact hs.on (by omega) m.tg (by omega)
 all_goals
  refine onNx_lg h h1 hs fun r s' m hr => ?_
  have st:=m.st
  have g:=m.how
  try repeat' split
  all_goals first
   | exact hs.on (by omega) m.tg (by show s'.how ≠ 0; omega)
   | exact hs.on (by omega) m.tg (by show 2 ≠ 0; omega)
   | exact ⟨fun _ => (by show f s'.tg=60; rw [m.tg]; exact hs.lt (by omega)),fun _ => ⟨(m.one (by omega) (by omega)).1,(m.one (by omega) (by omega)).2.trans (by omega),by show 2 <= s'.st; omega⟩⟩
theorem Steps.lg {inn:Nat} {nm:List UInt8} {f:Nat -> Nat} {n:Nat} {s t:Wk} (h:Steps inn nm f n s t) (hs:Lg f s) : Lg f t:=by
 induction h with
 | refl => exact hs
 | cons h0 h r ih => exact ih (step_lg h0 h hs)
theorem lg_new (f:Nat -> Nat) : Lg f {}:=⟨fun e => (by have:2 <= 0:=e; omega),fun e => (by cases e)⟩
end Sc
end Go.Proofs.YteiiepjegdlbeaaDoor
namespace Go.Proofs.YteiiepjegdlbeaaDoor
open Go.RowKit Go.Lib
namespace Sc
open Rn
end Sc
end Go.Proofs.YteiiepjegdlbeaaDoor
namespace Go.Proofs.YteiiepjegdlbeaaDoor
open Go.RowKit Go.Lib
namespace Sc
structure Ts (s:Wk) : Prop where
 ps:s.text ≠ [] -> s.tf < s.ps
 tg:s.text ≠ [] -> 2 <= s.st -> s.st ≠ 8 -> s.tf < s.tg
 lt:2 <= s.st -> s.tg < s.ps
 fr:s.st=1 -> s.fr < s.ps
theorem ts_new:Ts {}:=⟨fun h => absurd rfl h,fun h => absurd rfl h,fun h => (by have:2 <= 0:=h; omega),fun h => (by cases h)⟩
theorem onNx_w8 {x:Nat × Nat × Nat} {s t:Wk} {k:Nat -> Wk -> Wk} (h:onNx x s k=some t) (h1:s.how=1) (h0:t.how=0) (hk : ∀ r s',s'.how=1 -> s'.st=s.st -> (k r s').how=0 -> (k r s').st ≠ 8) : t.st ≠ 8:=by
 unfold onNx at h
 split at h
 . cases h
   exact hk _ _ h1 rfl h0
 . split at h
   . cases h
     cases h0
   . cases h
theorem onRef_w8 {f:Nat -> Nat} {n:Nat} {s t:Wk} {k:Nat -> Wk -> Wk} (h1:s.how=1) (h0:t.how=0) (hk : ∀ r s',(k r s').how=s'.how) (g:onRef f n s k=some t) : False:=by
 unfold onRef at g
 split at g
 . cases g
 . split at g
   . cases g
     cases h0
   . split at g
     . cases g
       rw [hk] at h0
       have:s.how=0:=h0
       omega
     . cases g
       have:s.how=0:=h0
       omega
theorem step_w8 {inn:Nat} {nm:List UInt8} {f:Nat -> Nat} {n:Nat} {s t:Wk} (h1:s.how=1) (h:step inn nm f n s=some t) (h0:t.how=0) : t.st ≠ 8:=by
 have e1:s.st=8 -> t.st ≠ 8:=by
  intro e
  unfold step at h
  rw [e] at h
  refine onNx_w8 h h1 h0 fun r s' q e => ?_
  split
  . intro z
    have:s'.how=0:=z
    omega
  . intro z
    have:s'.how=0:=z
    omega
 have e2:s.st=7 -> t.st ≠ 8:=by
  intro e
  unfold step at h
  rw [e] at h
  refine onNx_w8 h h1 h0 fun r s' q e => ?_
  split
  . intro z
    have:s'.how=0:=z
    omega
  . intro z
    have:s'.how=0:=z
    omega
 by_cases c8:s.st=8
 . exact e1 c8
 . by_cases c7 : s.st = 7
   . exact e2 c7
   . unfold step at h
     split at h
     case h_2 => (refine (onRef_w8 h1 h0 (fun r s' => ?_) h).elim; rfl)
     case h_18 => (refine (onRef_w8 h1 h0 (fun r s' => ?_) h).elim; rfl)
     case h_14 e0 =>
      split at h
      . cases h; exact c8
      . refine onNx_w8 h h1 h0 fun r s' q e => ?_
        repeat' split
        all_goals (intro _; first | (show s'.st ≠ 8; rw [e]; exact c8) | (simp [Wk.turn]; done))
     case h_19 e0 =>
      repeat' split at h
      all_goals (cases h; try (first | (intro z; cases z; done) | exact c8))
     case h_8 e0 => exact absurd e0 c7
     case h_9 e0 => exact absurd e0 c8
     all_goals
      refine onNx_w8 h h1 h0 fun r s' q e => ?_
      try repeat' split
      all_goals (intro _; first | (show s'.st ≠ 8; rw [e]; exact c8) | (simp [Wk.turn]; done))
theorem onNx_ts {f:Nat -> Nat} {n:Nat} {c:Int} {sg:List Nat} {s t:Wk} {k:Nat -> Wk -> Wk} (h:onNx (nx f n s.ps c sg) s k=some t) (hs:Ts s) (hk : ∀ r w,0 < w -> Ts (k r (s.took w))) : Ts t:=by
 unfold onNx at h
 split at h
 . next hz =>
   cases h
   exact hk _ _ (nx_in0 hz).1
 . split at h
   . cases h
     exact ⟨hs.ps,hs.tg,hs.lt,hs.fr⟩
   . cases h
theorem onRef_ts {f:Nat -> Nat} {n:Nat} {s t:Wk} {k:Nat -> Wk -> Wk} (h:onRef f n s k=some t) (hs:Ts s) (hk : ∀ r l,Ts (k r { s with ref:=l,ps:=s.ps + 1 })) : Ts t:=by
 unfold onRef at h
 split at h
 . cases h
 . split at h
   . cases h
     exact ⟨hs.ps,hs.tg,hs.lt,hs.fr⟩
   . split at h
     . cases h
       exact hk _ _
     . cases h
       exact ⟨fun e => Nat.lt_succ_of_lt (hs.ps e),hs.tg,fun e => Nat.lt_succ_of_lt (hs.lt e),fun e => Nat.lt_succ_of_lt (hs.fr e)⟩
theorem step_ts {inn:Nat} {nm:List UInt8} {f:Nat -> Nat} {n:Nat} {s t:Wk} (h:step inn nm f n s=some t) (hs:Ts s) : Ts t:=by
 obtain ⟨a1,a2,a3,a4⟩:=hs
 unfold step at h
 split at h
 case h_2 e0 =>
  refine onRef_ts h ⟨a1,a2,a3,a4⟩ fun r l => ⟨fun _ => ?_,fun _ q => ?_,fun q => ?_,fun q => ?_⟩
  . have:=a4 e0
    simp only [Wk.add]
    split
    . omega
    . next e => have:=a1 e; omega
  . have:2 <= 0:=q; omega
  . have:2 <= 0:=q; omega
  . cases q
 case h_18 e0 =>
  refine onRef_ts h ⟨a1,a2,a3,a4⟩ fun r l => ⟨fun e => ?_,fun e _ _ => ?_,fun _ => ?_,fun q => ?_⟩
  . have:=a1 e; show s.tf < s.ps + 1; omega
  . exact a2 e (by omega) (by omega)
  . have:=a3 (by omega); show s.tg < s.ps + 1; omega
  . cases q
 case h_14 e0 =>
  split at h
  . cases h
    exact ⟨a1,a2,a3,a4⟩
  . refine onNx_ts h ⟨a1,a2,a3,a4⟩ fun r w hw => ?_
    have b3:=a3 (by omega)
    repeat' split
    all_goals exact ⟨fun e => (by have:=a1 e; show s.tf < s.ps + w; omega),fun e _ _ => a2 e (by omega) (by omega),fun _ => (by show s.tg < s.ps + w; omega),fun e => (by simp [Wk.turn,Wk.took,e0] at e)⟩
 case h_19 e0 =>
  have b3:=a3 (by omega)
  split at h
  . cases h
    exact ⟨a1,fun e _ _ => a2 e (by omega) (by omega),fun _ => b3,fun e => by cases e⟩
  . split at h
    . cases h
    . split at h
      . cases h
        exact ⟨a1,a2,a3,a4⟩
      . cases h
        exact ⟨fun e => Nat.lt_succ_of_lt (a1 e),a2,fun e => Nat.lt_succ_of_lt (a3 e),fun e => Nat.lt_succ_of_lt (a4 e)⟩
 case h_1 e0 =>
  refine onNx_ts h ⟨a1,a2,a3,a4⟩ fun r w hw => ?_
  split
  . exact ⟨fun e => (by have:=a1 e; show s.tf < s.ps + w; omega),fun e _ _ => a1 e,fun _ => (by show s.ps < s.ps + w; omega),fun e => (by cases e)⟩
  . split
    . exact ⟨fun e => (by have:=a1 e; show s.tf < s.ps + w; omega),fun e g => (by have:2 <= s.st:=g; omega),fun g => (by have:2 <= s.st:=g; omega),fun g => (by have:s.st=1:=g; omega)⟩
    . split
      . exact ⟨fun e => (by have:=a1 e; show s.tf < s.ps + w; omega),fun e g => (by have:2 <= 1:=g; omega),fun g => (by have:2 <= 1:=g; omega),fun g => (by show s.ps < s.ps + w; omega)⟩
      . split
        . exact ⟨fun e => (by have:=a1 e; show s.tf < s.ps + w; omega),fun e g => (by have:2 <= s.st:=g; omega),fun g => (by have:2 <= s.st:=g; omega),fun g => (by have:s.st=1:=g; omega)⟩
        . refine ⟨fun e => ?_,fun e g => (by have:2 <= s.st:=g; omega),fun g => (by have:2 <= s.st:=g; omega),fun g => (by have:s.st=1:=g; omega)⟩
          show (if s.text = [] then s.ps else s.tf) < s.ps + w
          split
          . omega
          . next e => have:=a1 e; omega
 case h_9 e0 =>
  have b3:=a3 (by omega)
  refine onNx_ts h ⟨a1,a2,a3,a4⟩ fun r w hw => ?_
  split
  . refine ⟨fun e => ?_,fun e g => (by have:2 <= 0:=g; omega),fun g => (by have:2 <= 0:=g; omega),fun g => (by cases g)⟩
    have e2:s.text ≠ []:=fun z => e (by simp [Wk.took,z])
    have:=a1 e2
    show s.tf < s.ps + w
    omega
  . refine ⟨fun e => ?_,fun e g g2 => absurd e0 g2,fun _ => (by show s.tg < s.ps + w; omega),fun g => (by have:s.st=1:=g; omega)⟩
    show (if s.text = [] then s.tg else s.tf) < s.ps + w
    split
    . omega
    . next e => have:=a1 e; omega
 case h_20 =>
  have q0:s.st ≠ 0:=by assumption
  have q1:s.st ≠ 1:=by assumption
  have q3:s.st ≠ 8:=by assumption
  have b3:=a3 (by omega)
  refine onNx_ts h ⟨a1,a2,a3,a4⟩ fun r w hw => ?_
  split
  all_goals exact ⟨fun e => (by have:=a1 e; show s.tf < s.ps + w; omega),fun e _ _ => a2 e (by omega) q3,fun _ => (by show s.tg < s.ps + w; omega),fun e => (by have:s.st=1:=e; omega)⟩
 case h_7 e0 =>
  have b3:=a3 (by omega)
  refine onNx_ts h ⟨a1,a2,a3,a4⟩ fun r w hw => ?_
  exact ⟨fun e => (by have:=a1 e; show s.tf < s.ps + w; omega),fun e g => (by have:2 <= 0:=g; omega),fun g => (by have:2 <= 0:=g; omega),fun g => (by cases g)⟩
 all_goals
  next e0 =>
  have b3:=a3 (by omega)
  refine onNx_ts h ⟨a1,a2,a3,a4⟩ fun r w hw => ?_
  try repeat' split
  all_goals exact ⟨fun e => (by have:=a1 e; show s.tf < s.ps + w; omega),fun e _ _ => a2 e (by omega) (by omega),fun _ => (by show s.tg < s.ps + w; omega),fun e => (by simp [Wk.turn,Wk.took,Wk.tally,Wk.whole,Wk.fails,e0] at e)⟩
theorem Steps.ts {inn:Nat} {nm:List UInt8} {f:Nat -> Nat} {n:Nat} {s t:Wk} (h:Steps inn nm f n s t) (hs:Ts s) : Ts t:=by
 induction h with
 | refl => exact hs
 | cons h0 h r ih => exact ih (step_ts h hs)
structure Tk where
 kind:Nat
 name:List UInt8
 attrs:List (List UInt8 × List UInt8)
 text:List UInt8
 fm:Nat × Nat × Nat × Nat
 til:Nat × Nat × Nat × Nat
def plw (f:Nat -> Nat) (n x:Nat) : Nat × Nat × Nat × Nat:=pla (0,0,1,1) f n x
def tkT (f:Nat -> Nat) (n a:Nat) (k:Wk) : Tk:=⟨0, [], [],k.text,plw f n (a + k.tf),plw f n (a + k.tg)⟩
def tkG (f:Nat -> Nat) (n a:Nat) (k:Wk) : Tk:=⟨k.kind,k.tag,k.attrs, [],plw f n (a + k.tg),plw f n (a + k.ps)⟩
def tks (f:Nat -> Nat) (n a:Nat) (k:Wk) : List Tk:=if k.text = [] then [tkG f n a k] else [tkT f n a k,tkG f n a k]
inductive Told (f:Nat -> Nat) (n:Nat) : Nat -> Dr -> List Tk -> Nat -> Dr -> Prop
 | refl (a:Nat) (s:Dr) : Told f n a s [] a s
 | cons {a b:Nat} {s u:Dr} {T:List Tk} {k:Wk} (h:Steps s.inn s.nm (Rn.off f a) (n - a) {} k) (h0:k.how=0) (r:Told f n (a + k.ps) (s.next k) T b u) : Told f n a s (tks f n a k ++ T) b u
section
variable {f:Nat -> Nat} {n a b c:Nat} {s u v:Dr} {T V:List Tk} {k:Wk}
theorem Told.tags (h:Told f n a s T b u) : Tags f n a s b u:=by
 induction h with
 | refl => exact .refl _ _
 | cons h h0 r ih => exact .cons h h0 ih
theorem Told.trans (h:Told f n a s T b u) (g:Told f n b u V c v) : Told f n a s (T ++ V) c v:=by
 induction h with
 | refl => exact g
 | cons h h0 r ih => rw [List.append_assoc]; exact .cons h h0 (ih g)
theorem Told.snoc (h:Told f n a s T b u) (g:Steps u.inn u.nm (Rn.off f b) (n - b) {} k) (h0:k.how=0) : Told f n a s (T ++ tks f n b k) (b + k.ps) (u.next k):=by
 have q:=Told.cons g h0 (.refl _ _)
 rw [List.append_nil] at q
 exact h.trans q
theorem whole_st {inn:Nat} {nm:List UInt8} {f:Nat -> Nat} {n:Nat} {k:Wk} (h:Steps inn nm f n {} k) (h0:k.how=0) : 2 <= k.st /\ k.st ≠ 8:=by
 refine ⟨((h.lg (lg_new f)).gt h0).2.2, ?_⟩
 obtain ⟨m,r1,r2,r3⟩:=h.last rfl (by omega)
 exact step_w8 r2 r3 h0
theorem tks_len {inn:Nat} {nm:List UInt8} {g:Nat -> Nat} {m:Nat} (h:Steps inn nm g m {} k) (h0:k.how=0) : (tks f n a k).length <= k.ps /\ (k.text ≠ [] -> 1 <= k.tg /\ 2 <= k.ps /\ k.tf < k.tg) /\ k.tg < k.ps:=by
 have q:=h.ts ts_new
 obtain ⟨q1,q2⟩:=whole_st h h0
 have q3:=q.lt q1
 unfold tks
 by_cases e:k.text = []
 . rw [if_pos e]
   exact ⟨by show 1 <= k.ps; omega,fun z => absurd e z,q3⟩
 . rw [if_neg e]
   have q4:=q.tg e q1 q2
   exact ⟨by show 2 <= k.ps; omega,fun _ => ⟨by omega,by omega,q4⟩,q3⟩
theorem Told.len (h:Told f n a s T b u) : a + T.length <= b:=by
 induction h with
 | refl => exact Nat.le_refl _
 | @cons a b s u T k h h0 r ih =>
   have:=(tks_len (f:=f) (n:=n) (a:=a) h h0).1
   rw [List.length_append]
   omega
end
theorem pla_add {f:Nat -> Nat} {n d x:Nat} (hf : ∀ j,f j < 256) (h:Fd.Run f n 0 d) (hd:d + x <= n) : pla (plw f n d) (Rn.off f d) (n - d) x=plw f n (d + x):=by
 have:=plcq_add (a:=x) hf h hd (0,1,1)
 unfold plw pla
 rw [this]
 simp only [Nat.zero_add]
end Sc
end Go.Proofs.YteiiepjegdlbeaaDoor
