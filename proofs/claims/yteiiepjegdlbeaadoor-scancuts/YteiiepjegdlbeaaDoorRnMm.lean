import Derived.Test.YteiiepjegdlbeaaDoorRnCat
namespace Go.Proofs.YteiiepjegdlbeaaDoor.Rn
open Go.Lib
end Go.Proofs.YteiiepjegdlbeaaDoor.Rn
namespace Go.Proofs.YteiiepjegdlbeaaDoor
open Go.RowKit Go.Shelf
namespace Rn
end Rn
end Go.Proofs.YteiiepjegdlbeaaDoor
namespace Go.Proofs.YteiiepjegdlbeaaDoor.Rn
open Go.Lib
theorem whole_enc (r:Nat) (hr:scal r) (f:Nat -> Nat) (n:Nat) (hn:el r <= n) (h : ∀ j,j < el r -> f j=eb r j) : whole f n=true /\ fs f n=el r:=by
 have hw:(want r).toNat=r:=by
  unfold want
  unfold scal at hr
  rw [if_neg (by omega)]
  omega
 have E:=eb_enc r
 rw [hw] at E
 have hp:=el_pos r
 have es:size (f 0)=el r:=by rw [h 0 (by omega)]; exact E.fs
 have e1:fk f (el r)=el r:=(fk_congr h).trans E.fk
 have e2:=fk_min f hn (by omega)
 have e3:fs f n=el r:=by unfold fs; rw [if_neg (by omega)]; exact es
 have e4:=fk_le_fs f n
 exact ⟨by simp only [whole,decide_eq_true_eq]; omega,e3⟩
theorem at_enc (l A:List UInt8) (r:Nat) (L:List Nat) (hr:scal r) (hl:l=A ++ (encodeRune r ++ cat L)) :
 l.length=A.length + (el r + (cat L).length) /\ whole (off (lf l) A.length) (l.length - A.length)=true /\ fs (off (lf l) A.length) (l.length - A.length)=el r /\ dec (off (lf l) A.length) (l.length - A.length)=(r,el r):=by
 have hlen:l.length=A.length + (el r + (cat L).length):=by rw [hl]; simp [enc_length]
 have hj : ∀ j,j < el r -> off (lf l) A.length j=eb r j:=fun j hj => by
  rw [hl,off_lf, <- enc_get]
  unfold lf
  rw [List.getElem?_append_left (by rw [enc_length]; exact hj)]
 obtain ⟨h1,h2⟩:=whole_enc r hr _ (l.length - A.length) (by omega) hj
 exact ⟨hlen,h1,h2,dec_enc r hr _ _ (fun _ => lf_lt l _) (by omega) hj⟩
theorem dig2 {a b v:Nat} (hb:b < 64) (h:v=a * 64 + b) : v / 64=a /\ v % 64=b:=by omega
theorem dig3 {a b c v:Nat} (hb:b < 64) (hc:c < 64) (h:v=a * 4096 + b * 64 + c) : v / 4096=a /\ v / 64 % 64=b /\ v % 64=c:=by omega
theorem dig4 {a b c d v:Nat} (hb:b < 64) (hc:c < 64) (hd:d < 64) (h:v=a * 262144 + b * 4096 + c * 64 + d) : v / 262144=a /\ v / 4096 % 64=b /\ v / 64 % 64=c /\ v % 64=d:=by omega
theorem tail_byte {b:Nat} (h:128 <= b /\ b <= 191) : 128 + b % 64=b:=by omega
theorem enc_fv (f:Nat -> Nat) (n:Nat) (h:whole f n=true) : el (fv f)=fs f n /\ ∀ j,j < fs f n -> eb (fv f) j=f j:=by
 have hsc:=fv_scal f n h
 have hw:(want (fv f:Nat)).toNat=fv f:=by
  unfold want
  unfold scal at hsc
  rw [if_neg (by omega)]
  omega
 have E:=eb_enc (fv f:Nat)
 rw [hw] at E
 simp only [whole,decide_eq_true_eq] at h
 have hn : ¬ n=0:=by
  intro e
  subst e
  simp [fs] at h
 have e0:fs f n=size (f 0):=by unfold fs; rw [if_neg hn]
 rw [e0] at h ⊢
 have hk:=h.2
 have hpos:=h.1
 unfold fk at hk
 have hv:fv f=val (f 0) (f 1) (f 2) (f 3):=rfl
 unfold val at hv
 generalize fv f=v at *
 clear hw hsc h e0
 rcases size_cases (f 0) with ⟨e,c⟩ | ⟨e,c,d,l,hh⟩ | ⟨e,c,d,hh⟩ | ⟨e,c,d,hh⟩ | ⟨e,c,d⟩
 . rw [e] at hk hv ⊢
   simp only [if_true] at hv
   cases E with
   | one a b c => exact ⟨a, fun j hj => by obtain rfl : j = 0 := by omega
                                           omega⟩
   | two => omega
   | three => omega
   | four => omega
 . rw [e] at hk hv ⊢
   rw [len2 e] at hk
   simp only [Nat.reduceEqDiff,if_false,if_true] at hv
   have t1:=tail_byte (b:=f 1) (by omega)
   obtain ⟨g0,g1⟩:=dig2 (by omega) hv
   have hlow:128 <= v /\ v < 2048:=by omega
   cases E with
   | one => omega
   | two a b c => exact ⟨a, fun j hj => by have : j = 0 ∨ j = 1 := by omega
                                           rcases this with rfl | rfl
                                           . rw [b,g0]; omega
                                           . rw [c,g1]; omega⟩
   | three => omega
   | four => omega
 . rw [e] at hk hv ⊢
   rw [len3 e] at hk
   simp only [Nat.reduceEqDiff,if_false,if_true] at hv
   have hb:128 <= f 1 /\ f 1 <= 191:=by rcases hh with h | h | h <;> omega
   have t1:=tail_byte hb
   have t2:=tail_byte (b:=f 2) (by omega)
   obtain ⟨g0,g1,g2⟩:=dig3 (by omega) (by omega) hv
   have hlow:2048 <= v /\ v < 65536:=by rcases hh with h | h | h <;> omega
   cases E with
   | one => omega
   | two => omega
   | three a b c g => exact ⟨a, fun j hj => by have : j = 0 ∨ j = 1 ∨ j = 2 := by omega
                                               rcases this with rfl | rfl | rfl
                                               . rw [b,g0]; omega
                                               . rw [c,g1]; omega
                                               . rw [g,g2]; omega⟩
   | four => omega
 . rw [e] at hk hv ⊢
   rw [len4 e] at hk
   simp only [Nat.reduceEqDiff,if_false] at hv
   have hb:128 <= f 1 /\ f 1 <= 191:=by rcases hh with h | h | h <;> omega
   have t1:=tail_byte hb
   have t2:=tail_byte (b:=f 2) (by omega)
   have t3:=tail_byte (b:=f 3) (by omega)
   obtain ⟨g0,g1,g2,g3⟩:=dig4 (by omega) (by omega) (by omega) hv
   have hlow:65536 <= v:=by rcases hh with h | h | h <;> omega
   cases E with
   | one => omega
   | two => omega
   | three => omega
   | four a b c g k => exact ⟨a, fun j hj => by have : j = 0 ∨ j = 1 ∨ j = 2 ∨ j = 3 := by omega
                                                rcases this with rfl | rfl | rfl | rfl
                                                . rw [b,g0]; omega
                                                . rw [c,g1]; omega
                                                . rw [g,g2]; omega
                                                . rw [k,g3]; omega⟩
 . omega
end Go.Proofs.YteiiepjegdlbeaaDoor.Rn
