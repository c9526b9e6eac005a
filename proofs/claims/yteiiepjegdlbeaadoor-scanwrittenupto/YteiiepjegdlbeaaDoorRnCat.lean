import Derived.Test.YteiiepjegdlbeaaDoorRfRead
import Derived.RangeFuncNested
import Derived.RangeFuncBound
import Derived.RangeFuncCalls
import Derived.RangeFuncLeaves
import Derived.Shelf.Abstract
import Derived.Shelf.RegionOpen
import Derived.OwnWalkIn
import Derived.TacticsInMore
import Derived.LoopNIn
import Derived.LoopIn
import Derived.Lib.SmallJoins
import Derived.Laws.IdiomStrings
import Derived.Laws.Cover4
import Derived.Test.YteiiepjegdlbeaaDoorRnEnc
namespace Go.Proofs.YteiiepjegdlbeaaDoor
open Go.RowKit Go.Shelf
attribute [local go_sem] Oper.semAt_some
namespace Rn
end Rn
end Go.Proofs.YteiiepjegdlbeaaDoor
namespace Go.Proofs.YteiiepjegdlbeaaDoor
open Go.RowKit Go.Shelf
attribute [local go_sem] Oper.semAt_some
namespace Rn
end Rn
end Go.Proofs.YteiiepjegdlbeaaDoor
namespace Go.Proofs.YteiiepjegdlbeaaDoor
open Go.RowKit Go.Shelf
attribute [local go_sem] Oper.semAt_some
namespace Rn
end Rn
end Go.Proofs.YteiiepjegdlbeaaDoor
namespace Go.Proofs.YteiiepjegdlbeaaDoor
open Go.RowKit Go.Shelf
attribute [local go_sem] Oper.semAt_some
namespace Rn
end Rn
end Go.Proofs.YteiiepjegdlbeaaDoor
namespace Go.Proofs.YteiiepjegdlbeaaDoor
open Go.RowKit Go.Shelf
namespace Rn
end Rn
end Go.Proofs.YteiiepjegdlbeaaDoor
namespace Go.Proofs.YteiiepjegdlbeaaDoor.Rn
open Go.Lib
def lf (l:List UInt8) : Nat -> Nat:=fun j => (l[j]?.getD 0).toNat
theorem lf_lt (l:List UInt8) : ∀ j,lf l j < 256:=fun j => (l[j]?.getD 0).toNat_lt
theorem arr_lf (l:List UInt8) : arr (lf l) l.length=⟨l.toArray⟩:=by
 have e:(arr (lf l) l.length).data=l.toArray:=by
  apply Array.ext
  . simp [arr]
  . intro i h1 h2
    simp [arr,lf]
 exact congrArg ByteArray.mk e
theorem off_lf (A B:List UInt8) : off (lf (A ++ B)) A.length=lf B:=by
 funext j
 simp only [off,lf]
 rw [List.getElem?_append_right (by omega),Nat.add_sub_cancel_left]
def scal (r:Nat) : Prop:=r < 1114112 /\ ¬ (55296 <= r /\ r <= 57343)
theorem fv_scal (f:Nat -> Nat) (n:Nat) (h:whole f n=true) : scal (fv f):=by
 simp only [whole,decide_eq_true_eq] at h
 have hn : ¬ n=0:=by
  intro e
  subst e
  simp [fs] at h
 have e0:fs f n=size (f 0):=by unfold fs; rw [if_neg hn]
 rw [e0] at h
 unfold scal fv val
 have hk:=h.2
 unfold fk at hk
 rcases size_cases (f 0) with ⟨e,c⟩ | ⟨e,c,d,l,hh⟩ | ⟨e,c,d,hh⟩ | ⟨e,c,d,hh⟩ | ⟨e,c,d⟩
 . rw [e]; simp only [if_true]; omega
 . rw [e] at hk ⊢
   rw [len2 e] at hk
   simp only [Nat.reduceEqDiff,if_false,if_true]
   omega
 . rw [e] at hk ⊢
   rw [len3 e] at hk
   simp only [Nat.reduceEqDiff,if_false,if_true]
   omega
 . rw [e] at hk ⊢
   rw [len4 e] at hk
   simp only [Nat.reduceEqDiff,if_false]
   omega
 . omega
def cat (L:List Nat) : List UInt8:=L.flatMap fun (r:Nat) => encodeRune r
theorem cat_append (L M:List Nat) : cat (L ++ M)=cat L ++ cat M:=by simp [cat]
theorem cat_cons (r:Nat) (L:List Nat) : cat (r :: L)=encodeRune r ++ cat L:=by simp [cat]
theorem enc_length (r:Int) : (encodeRune r).length=el r:=by simp [encodeRune,el]
theorem enc_get (r:Int) (j:Nat) : lf (encodeRune r) j=eb r j:=by
 unfold lf eb encodeRune
 rcases h:(encodeRuneZ r)[j]? with _ | x
 . simp [h]
 . have:=encodeRuneZ_byte r x (List.mem_of_getElem? h)
   simp [h]
   omega
theorem dec_enc (r:Nat) (hr:scal r) (f:Nat -> Nat) (n:Nat) (hf : ∀ j,f j < 256) (hn:el r <= n) (h : ∀ j,j < el r -> f j=eb r j) : dec f n=(r,el r):=by
 have hw:(want r).toNat=r:=by
  unfold want
  unfold scal at hr
  rw [if_neg (by omega)]
  omega
 have E:=eb_enc r
 rw [hw] at E
 have hp:=el_pos r
 have es:size (f 0)=el r:=by rw [h 0 (by omega)]; exact E.fs
 have e1:fk f (el r)=el r:=(fk_congr h).trans E.fk
 have e2:=fk_min f hn (by omega)
 have e3:fs f n=el r:=by unfold fs; rw [if_neg (by omega)]; exact es
 have e4:=fk_le_fs f n
 have ew:whole f n=true:=by simp only [whole,decide_eq_true_eq]; omega
 have ew2:whole f (el r)=true:=(whole_congr h).trans E.whole
 rw [dec_whole f n hf (by omega),ew,if_pos rfl,e3,fv_congr ew2 h,E.fv]
end Go.Proofs.YteiiepjegdlbeaaDoor.Rn
