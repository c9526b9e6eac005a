import Derived.Test.YteiiepjegdlbeaaDoorScApp
import Derived.Test.YteiiepjegdlbeaaDoorFdSt
import Derived.Test.YteiiepjegdlbeaaDoorFdDrop
import Derived.Maps.OwnSet
import Derived.Maps.AppendAt
import Derived.Test.YteiiepjegdlbeaaDoorRnAt
set_option maxHeartbeats 4000000
namespace Go.Proofs.YteiiepjegdlbeaaDoor
open Go.RowKit Go.Lib
namespace Sc
structure Raw where
 rest:Value
 text:Value
 ref:Value
 tag:Value
 attrs:Value
 seen:Option Nat
 attr:Value
 val:Value
 bp:Nat × Nat × Nat × Nat
 fp:Option Nat
 fv:Value
structure St where
 pl:Nat × Nat × Nat × Nat
 ended:Bool
 inn:Nat
 nm:List UInt8
 fed:Nat
 q:Nat
 e:Nat
 k:Wk
def cells (S:St) (R:Raw) : Array Value :=
 #[R.rest, .int .i64 (S.pl.1:Nat), .int .i64 (S.pl.2.1:Nat), .int .i64 (S.pl.2.2.1:Nat), .int .i64 (S.pl.2.2.2:Nat), .bool S.ended,
   .int .i64 (S.inn:Nat), .string ⟨S.nm.toArray⟩, .int .i64 (S.k.st:Nat), .int .i64 (S.k.how:Nat),
   .int .i64 (R.bp.1:Nat), .int .i64 (R.bp.2.1:Nat), .int .i64 (R.bp.2.2.1:Nat), .int .i64 (R.bp.2.2.2:Nat),
   .pointer (R.fp.map fun d => ⟨d,0,none⟩), .int .i64 (S.fed:Nat), .int .i64 (S.k.ps:Nat), .int .i64 (S.k.fr:Nat),
   R.text, .int .i64 (S.k.tf:Nat), .int .i64 (S.k.ct:Nat),R.ref, .int .i64 (S.k.tg:Nat), .int .i64 (S.k.kind:Nat),
   R.tag,R.attrs, .map R.seen,R.attr,R.val, .int .i32 (S.k.qt:Nat)]
def foot (D:Nat) (R:Raw) : List (Option Nat) :=
 [some D,R.fp,R.fv.ownBlock,R.rest.ownBlock,R.text.ownBlock,R.ref.ownBlock,R.tag.ownBlock,R.attrs.ownBlock,R.seen,R.attr.ownBlock,R.val.ownBlock]
def Apart (l:List (Option Nat)) : Prop := ∀ (i j q:Nat),l[i]? = some (some q) -> l[j]? = some (some q) -> i=j
theorem Apart.set {l:List (Option Nat)} (h:Apart l) (i:Nat) (x:Option Nat) (hx : ∀ q,x=some q -> ∀ j,l[j]? = some (some q) -> j=i) : Apart (l.set i x):=by
 intro a b q ha hb
 rw [List.getElem?_set] at ha hb
 by_cases e1:i=a
 . by_cases e2 : i = b
   . omega
   . rw [if_neg e2] at hb
     rw [if_pos e1] at ha
     split at ha
     . have:=hx q (by simpa using ha) b hb
       omega
     . cases ha
 . rw [if_neg e1] at ha
   by_cases e2:i=b
   . rw [if_pos e2] at hb
     split at hb
     . have:=hx q (by simpa using hb) a ha
       omega
     . cases hb
   . rw [if_neg e2] at hb
     exact h a b q ha hb
structure Mv (X:List (Option Nat)) (w w':World) : Prop where
 os:w'.os=w.os
 tape:w'.tape=w.tape
 output:w'.output=w.output
 size:w.heap.size <= w'.heap.size
 block : ∀ k,k < w.heap.size -> some k ∉ X -> w'.heap[k]? = w.heap[k]?
structure To (D:Nat) (R:Raw) (w:World) (R':Raw) (w':World) : Prop where
 mv:Mv (foot D R) w w'
 own : ∀ q,some q ∈ foot D R' -> some q ∈ foot D R \/ w.heap.size <= q
theorem Mv.of_below {X:List (Option Nat)} {w w':World} (h:Below w.heap.size w w') : Mv X w w':=⟨h.os,h.tape,h.output,h.size,fun k hk _ => h.block k hk⟩
theorem To.of_below {D:Nat} {R:Raw} {w w':World} (h:Below w.heap.size w w') : To D R w R w':=⟨.of_below h,fun _ h => .inl h⟩
theorem To.refl (D:Nat) (R:Raw) (w:World) : To D R w R w := .of_below (Below.refl _ _)
theorem To.trans {D:Nat} {R R1 R2:Raw} {w w1 w2:World} (h:To D R w R1 w1) (k:To D R1 w1 R2 w2) : To D R w R2 w2:=by
 refine ⟨⟨k.mv.os.trans h.mv.os,k.mv.tape.trans h.mv.tape,k.mv.output.trans h.mv.output,Nat.le_trans h.mv.size k.mv.size,fun i hi hn => ?_⟩,fun q hq => ?_⟩
 . refine (k.mv.block i (Nat.lt_of_lt_of_le hi h.mv.size) fun hm => ?_).trans (h.mv.block i hi hn)
   rcases h.own i hm with e | e
   . exact hn e
   . omega
 . rcases k.own q hq with e | e
   . exact h.own q e
   . exact .inr (Nat.le_trans h.mv.size e)
theorem To.of_but {D:Nat} {R R':Raw} {w w':World} (h:But D w w') (hf:foot D R'=foot D R) : To D R w R' w' :=
 ⟨⟨h.os,h.tape,h.output,h.size,fun k hk hn => h.block k hk (fun e => hn (by simp [foot,e]))⟩,fun q hq => .inl (by rw [<- hf]; exact hq)⟩
def RowF (w:World) (B:Nat) (v:Value) (n:Nat) (f:Nat -> Nat) : Prop :=
 (v = .slice none 0 0 /\ n=0) \/ ∃ q o cap cur,v = .slice (some ⟨q,o,none⟩) n cap /\ B <= q /\ w.heap[q]? = some (.cells cur 5 (0,0)) /\ n <= cap /\ cap <= maxLen /\ o + cap <= cur.size /\ (cur.toList.drop o).take n=xs f n
theorem RowF.keep {w w':World} {B n:Nat} {v:Value} {f:Nat -> Nat} (h:RowF w B v n f) (hk : ∀ q,v.ownBlock=some q -> w'.heap[q]? = w.heap[q]?) : RowF w' B v n f:=by
 rcases h with h | ⟨q,o,cap,cur,rfl,hb,hg,r⟩
 . exact .inl h
 . exact .inr ⟨q,o,cap,cur,rfl,hb,(hk q rfl).trans hg,r⟩
theorem RowF.lt {w : World} {B n : Nat} {v : Value} {f : Nat → Nat} (h : RowF w B v n f) : ∀ q, v.ownBlock = some q → B ≤ q ∧ q < w.heap.size := by
 rcases h with ⟨rfl,_⟩ | ⟨q,o,cap,cur,rfl,hb,hg,r⟩
 . intro q hq
   cases hq
 . intro q' hq
   cases hq
   exact ⟨hb, by rcases Nat.lt_or_ge q w.heap.size with h | h
                 . exact h
                 . rw [Array.getElem?_eq_none (by omega)] at hg; cases hg⟩
abbrev RowB (w:World) (B:Nat) (v:Value) (l:List UInt8) : Prop:=w.ownsRow B 5 1 v l.length (byteCells l)
theorem own_shape {w:World} {B:Nat} {e:TypeId} {size:Nat} {v:Value} {n:Nat} {xs:List Value} (h:w.ownsRow B e size v n xs) : ∃ pa cap,v = .slice pa n cap:=by
 rcases h.2 with ⟨e,e2⟩ | ⟨g,cap,cur,e,_⟩
 . exact ⟨none,0,by rw [e,e2]⟩
 . exact ⟨some ⟨g,0,none⟩,cap,e⟩
theorem own_shape3 {w:World} {B:Nat} {e:TypeId} {size:Nat} {v:Value} {n:Nat} {xs:List Value} (h:w.ownsRow B e size v n xs) : ∃ pa m cap,v = .slice pa m cap:=by
 obtain ⟨pa,cap,e⟩:=own_shape h
 exact ⟨pa,n,cap,e⟩
theorem own_keep {w w':World} {B:Nat} {e:TypeId} {size:Nat} {v:Value} {n:Nat} {xs:List Value} (h:w.ownsRow B e size v n xs) (hk : ∀ q,v.ownBlock=some q -> w'.heap[q]? = w.heap[q]?) : w'.ownsRow B e size v n xs:=by
 refine ⟨h.1, ?_⟩
 rcases h.2 with h | ⟨q,cap,cur,rfl,hb,hg,r⟩
 . exact .inl h
 . exact .inr ⟨q,cap,cur,rfl,hb,(hk q rfl).trans hg,r⟩
def acells (l:List (List UInt8 × List UInt8)) : List Value:=l.flatMap fun a => [.string ⟨a.1.toArray⟩, .string ⟨a.2.toArray⟩]
def Seen (w:World) (B:Nat) (sn:Option Nat) (l:List (List UInt8 × List UInt8)) : Prop :=
 (sn=none /\ l = []) \/ ∃ b M,sn=some b /\ B <= b /\ w.ownsMap Tryd.prog 9 (unitElem (H:=Unit)) b l.length M /\ ∀ x:List UInt8,Maps.has M (.string x)=decide (x ∈ l.map (·.1))
theorem Seen.keep {w w':World} {B:Nat} {sn:Option Nat} {l:List (List UInt8 × List UInt8)} (h:Seen w B sn l) (hk : ∀ q,sn=some q -> w'.heap[q]? = w.heap[q]?) : Seen w' B sn l:=by
 rcases h with h | ⟨b,M,rfl,hB,⟨es,clock,hb,r⟩,hM⟩
 . exact .inl h
 . exact .inr ⟨b,M,rfl,hB,⟨es,clock,(hk b rfl).trans hb,r⟩,hM⟩
theorem Seen.lt {w : World} {B : Nat} {sn : Option Nat} {l : List (List UInt8 × List UInt8)} (h : Seen w B sn l) : ∀ q, sn = some q → B ≤ q ∧ q < w.heap.size := by
 rcases h with ⟨rfl,_⟩ | ⟨b,M,rfl,hB,⟨es,clock,hb,r⟩,hM⟩
 . intro q hq
   cases hq
 . intro q hq
   cases hq
   exact ⟨hB, by rcases Nat.lt_or_ge b w.heap.size with h | h
                 . exact h
                 . rw [Array.getElem?_eq_none (by omega)] at hb; cases hb⟩
def FeedOf (w:World) (B:Nat) (fp:Option Nat) (fv:Value) (f:Nat -> Nat) (n ps fed:Nat) : Prop :=
 (fp=none /\ fv = .slice none 0 0) \/ ∃ d G N T p,fp=some d /\ B <= d /\ Feed w d B G N T false fv p /\ fed <= n /\ N=T + (fed - ps) /\ N <= fed /\ (∀ j,G j < 256) /\ ∀ j,j < fed - ps -> G (T + j)=f (ps + j)
theorem FeedOf.keep {w w':World} {B:Nat} {fp:Option Nat} {fv:Value} {f:Nat -> Nat} {n ps fed:Nat} (h:FeedOf w B fp fv f n ps fed) (hp : ∀ q,fp=some q -> w'.heap[q]? = w.heap[q]?) (hv : ∀ q,fv.ownBlock=some q -> w'.heap[q]? = w.heap[q]?) : FeedOf w' B fp fv f n ps fed:=by
 rcases h with h | ⟨d,G,N,T,p,rfl,hd,hF,r⟩
 . exact .inl h
 . exact .inr ⟨d,G,N,T,p,rfl,hd,hF.keep (hp d rfl) hv,r⟩
theorem FeedOf.lt {w:World} {B:Nat} {fp:Option Nat} {fv:Value} {f:Nat -> Nat} {n ps fed:Nat} (h:FeedOf w B fp fv f n ps fed) : (∀ q,fp=some q -> B <= q /\ q < w.heap.size) /\ ∀ q,fv.ownBlock=some q -> B <= q /\ q < w.heap.size:=by
 rcases h with ⟨rfl,rfl⟩ | ⟨d,G,N,T,p,rfl,hd,hF,r⟩
 . exact ⟨fun q hq => (by cases hq),fun q hq => (by cases hq)⟩
 . exact ⟨fun q hq => (by cases hq; exact ⟨hd,hF.lt⟩),hF.row⟩
structure SC (w:World) (D B:Nat) (f:Nat -> Nat) (n:Nat) (S:St) (R:Raw) : Prop where
 cell:w.heap[D]? = some (.cells (cells S R) 59 (0,0))
 low:B <= D
 rest:RowF w B R.rest n f
 text:RowB w B R.text S.k.text
 ref:RowB w B R.ref S.k.ref
 tag:RowB w B R.tag S.k.tag
 attrs:w.ownsRow B 61 2 R.attrs S.k.attrs.length (acells S.k.attrs)
 seen:Seen w B R.seen S.k.attrs
 attr:RowB w B R.attr S.k.attr
 val:RowB w B R.val S.k.val
 feed:FeedOf w B R.fp R.fv f n S.q S.e
 apart:Apart (foot D R)
section
variable {w w':World} {D B n:Nat} {f:Nat -> Nat} {S S':St} {R:Raw}
theorem SC.lt0 (h:SC w D B f n S R) : D < w.heap.size:=by
 rcases Nat.lt_or_ge D w.heap.size with k | k
 . exact k
 . have:=h.cell
   rw [Array.getElem?_eq_none (by omega)] at this
   cases this
theorem SC.lt (h:SC w D B f n S R) : ∀ q,some q ∈ foot D R -> B <= q /\ q < w.heap.size:=by
 intro q hq
 simp only [foot,List.mem_cons,List.not_mem_nil,or_false] at hq
 rcases hq with e | e | e | e | e | e | e | e | e | e | e
 . cases e
   exact ⟨h.low,h.lt0⟩
 . exact h.feed.lt.1 q e.symm
 . exact h.feed.lt.2 q e.symm
 . exact h.rest.lt q e.symm
 . exact World.ownsRow.lt h.text q e.symm
 . exact World.ownsRow.lt h.ref q e.symm
 . exact World.ownsRow.lt h.tag q e.symm
 . exact World.ownsRow.lt h.attrs q e.symm
 . exact h.seen.lt q e.symm
 . exact World.ownsRow.lt h.attr q e.symm
 . exact World.ownsRow.lt h.val q e.symm
theorem SC.keep (h:SC w D B f n S R) (hk : ∀ q,some q ∈ foot D R -> w'.heap[q]? = w.heap[q]?) : SC w' D B f n S R :=
 ⟨(hk D (by simp [foot])).trans h.cell,h.low,h.rest.keep fun q e => hk q (by simp [foot,e]),own_keep h.text fun q e => hk q (by simp [foot,e]),own_keep h.ref fun q e => hk q (by simp [foot,e]),own_keep h.tag fun q e => hk q (by simp [foot,e]),
   own_keep h.attrs fun q e => hk q (by simp [foot,e]),h.seen.keep fun q e => hk q (by simp [foot,e]),own_keep h.attr fun q e => hk q (by simp [foot,e]),own_keep h.val fun q e => hk q (by simp [foot,e]),h.feed.keep (fun q e => hk q (by simp [foot,e])) (fun q e => hk q (by simp [foot,e])),h.apart⟩
theorem SC.below (h:SC w D B f n S R) (hb:Below w.heap.size w w') : SC w' D B f n S R:=h.keep fun q hq => hb.block q (h.lt q hq).2
theorem SC.to_below (h:SC w D B f n S R) {R':Raw} (ht:To D R w R' w') : Below B w w' :=
 ⟨ht.mv.os,ht.mv.tape,ht.mv.output,ht.mv.size,fun k hk => by
  rcases Nat.lt_or_ge k w.heap.size with h1 | h1
  . exact ht.mv.block k h1 fun hm => by have:=(h.lt k hm).1; omega
  . have:=h.low
    have:=h.lt0
    omega⟩
theorem SC.c (h:SC w D B f n S R) (i:Nat) (v:Value) (hv:(cells S R)[i]? = some v) : w.cell? ⟨D,i,none⟩ = some v:=by
 rw [Lib.cell_of_heap h.cell]
 exact hv
theorem SC.c0 (h:SC w D B f n S R) : w.cell? ⟨D,0,none⟩ = some (R.rest):=h.c 0 _ rfl
theorem SC.c1 (h:SC w D B f n S R) : w.cell? ⟨D,1,none⟩ = some (.int .i64 (S.pl.1:Nat)):=h.c 1 _ rfl
theorem SC.c2 (h:SC w D B f n S R) : w.cell? ⟨D,2,none⟩ = some (.int .i64 (S.pl.2.1:Nat)):=h.c 2 _ rfl
theorem SC.c3 (h:SC w D B f n S R) : w.cell? ⟨D,3,none⟩ = some (.int .i64 (S.pl.2.2.1:Nat)):=h.c 3 _ rfl
theorem SC.c4 (h:SC w D B f n S R) : w.cell? ⟨D,4,none⟩ = some (.int .i64 (S.pl.2.2.2:Nat)):=h.c 4 _ rfl
theorem SC.c5 (h:SC w D B f n S R) : w.cell? ⟨D,5,none⟩ = some (.bool S.ended):=h.c 5 _ rfl
theorem SC.c6 (h:SC w D B f n S R) : w.cell? ⟨D,6,none⟩ = some (.int .i64 (S.inn:Nat)):=h.c 6 _ rfl
theorem SC.c7 (h:SC w D B f n S R) : w.cell? ⟨D,7,none⟩ = some (.string ⟨S.nm.toArray⟩):=h.c 7 _ rfl
theorem SC.c8 (h:SC w D B f n S R) : w.cell? ⟨D,8,none⟩ = some (.int .i64 (S.k.st:Nat)):=h.c 8 _ rfl
theorem SC.c9 (h:SC w D B f n S R) : w.cell? ⟨D,9,none⟩ = some (.int .i64 (S.k.how:Nat)):=h.c 9 _ rfl
theorem SC.c10 (h:SC w D B f n S R) : w.cell? ⟨D,10,none⟩ = some (.int .i64 (R.bp.1:Nat)):=h.c 10 _ rfl
theorem SC.c11 (h:SC w D B f n S R) : w.cell? ⟨D,11,none⟩ = some (.int .i64 (R.bp.2.1:Nat)):=h.c 11 _ rfl
theorem SC.c12 (h:SC w D B f n S R) : w.cell? ⟨D,12,none⟩ = some (.int .i64 (R.bp.2.2.1:Nat)):=h.c 12 _ rfl
theorem SC.c13 (h:SC w D B f n S R) : w.cell? ⟨D,13,none⟩ = some (.int .i64 (R.bp.2.2.2:Nat)):=h.c 13 _ rfl
theorem SC.c14 (h:SC w D B f n S R) : w.cell? ⟨D,14,none⟩ = some (.pointer (R.fp.map fun d => ⟨d,0,none⟩)):=h.c 14 _ rfl
theorem SC.c15 (h:SC w D B f n S R) : w.cell? ⟨D,15,none⟩ = some (.int .i64 (S.fed:Nat)):=h.c 15 _ rfl
theorem SC.c16 (h:SC w D B f n S R) : w.cell? ⟨D,16,none⟩ = some (.int .i64 (S.k.ps:Nat)):=h.c 16 _ rfl
theorem SC.c17 (h:SC w D B f n S R) : w.cell? ⟨D,17,none⟩ = some (.int .i64 (S.k.fr:Nat)):=h.c 17 _ rfl
theorem SC.c18 (h:SC w D B f n S R) : w.cell? ⟨D,18,none⟩ = some (R.text):=h.c 18 _ rfl
theorem SC.c19 (h:SC w D B f n S R) : w.cell? ⟨D,19,none⟩ = some (.int .i64 (S.k.tf:Nat)):=h.c 19 _ rfl
theorem SC.c20 (h:SC w D B f n S R) : w.cell? ⟨D,20,none⟩ = some (.int .i64 (S.k.ct:Nat)):=h.c 20 _ rfl
theorem SC.c21 (h:SC w D B f n S R) : w.cell? ⟨D,21,none⟩ = some (R.ref):=h.c 21 _ rfl
theorem SC.c22 (h:SC w D B f n S R) : w.cell? ⟨D,22,none⟩ = some (.int .i64 (S.k.tg:Nat)):=h.c 22 _ rfl
theorem SC.c23 (h:SC w D B f n S R) : w.cell? ⟨D,23,none⟩ = some (.int .i64 (S.k.kind:Nat)):=h.c 23 _ rfl
theorem SC.c24 (h:SC w D B f n S R) : w.cell? ⟨D,24,none⟩ = some (R.tag):=h.c 24 _ rfl
theorem SC.c25 (h:SC w D B f n S R) : w.cell? ⟨D,25,none⟩ = some (R.attrs):=h.c 25 _ rfl
theorem SC.c26 (h:SC w D B f n S R) : w.cell? ⟨D,26,none⟩ = some (.map R.seen):=h.c 26 _ rfl
theorem SC.c27 (h:SC w D B f n S R) : w.cell? ⟨D,27,none⟩ = some (R.attr):=h.c 27 _ rfl
theorem SC.c28 (h:SC w D B f n S R) : w.cell? ⟨D,28,none⟩ = some (R.val):=h.c 28 _ rfl
theorem SC.c29 (h:SC w D B f n S R) : w.cell? ⟨D,29,none⟩ = some (.int .i32 (S.k.qt:Nat)):=h.c 29 _ rfl
theorem SC.fz (h:SC w D B f n S R) (i:Nat) : w.frozen? ⟨D,i,none⟩ = false:=Lib.frozen_of_heap h.cell i
theorem SC.set (h:SC w D B f n S R) (i:Nat) (u:Value) (S':St) {R':Raw} (hc:cells S' R'=(cells S R).setIfInBounds i u) (hR:foot D R'=foot D R) (hr:R'.rest=R.rest /\ R'.text=R.text /\ R'.ref=R.ref /\ R'.tag=R.tag /\ R'.attrs=R.attrs /\ R'.seen=R.seen /\ R'.attr=R.attr /\ R'.val=R.val /\ R'.fp=R.fp /\ R'.fv=R.fv)
 (hk:S'.k.text=S.k.text /\ S'.k.ref=S.k.ref /\ S'.k.tag=S.k.tag /\ S'.k.attrs=S.k.attrs /\ S'.k.attr=S.k.attr /\ S'.k.val=S.k.val) (hF:FeedOf w B R.fp R.fv f n S'.q S'.e) : SC (w.setCell ⟨D,i,none⟩ u) D B f n S' R':=by
 obtain ⟨r1,r2,r3,r4,r5,r6,r7,r8,r9,r10⟩:=hr
 obtain ⟨k1,k2,k3,k4,k5,k6⟩:=hk
 have hne : ∀ j q,0 < j -> (foot D R)[j]? = some (some q) -> (w.setCell ⟨D,i,none⟩ u).heap[q]? = w.heap[q]? := by
  intro j q hj hq
  refine RowKit.Below.heap_setCell _ _ _ _ fun e => ?_
  have:=h.apart 0 j q (by rw [e]; rfl) hq
  omega
 refine ⟨by rw [hc]; exact Go.Joins.block_setCell (i:=i) h.cell _,h.low, ?_, ?_, ?_, ?_, ?_, ?_, ?_, ?_, ?_,by rw [hR]; exact h.apart⟩
 . rw [r1]; exact h.rest.keep fun q e => hne 3 q (by omega) (by rw [<- e]; rfl)
 . rw [r2,k1]; exact own_keep h.text fun q e => hne 4 q (by omega) (by rw [<- e]; rfl)
 . rw [r3,k2]; exact own_keep h.ref fun q e => hne 5 q (by omega) (by rw [<- e]; rfl)
 . rw [r4,k3]; exact own_keep h.tag fun q e => hne 6 q (by omega) (by rw [<- e]; rfl)
 . rw [r5,k4]; exact own_keep h.attrs fun q e => hne 7 q (by omega) (by rw [<- e]; rfl)
 . rw [r6,k4]; exact h.seen.keep fun q e => hne 8 q (by omega) (by rw [<- e]; rfl)
 . rw [r7,k5]; exact own_keep h.attr fun q e => hne 9 q (by omega) (by rw [<- e]; rfl)
 . rw [r8,k6]; exact own_keep h.val fun q e => hne 10 q (by omega) (by rw [<- e]; rfl)
 . rw [r9,r10]; exact hF.keep (fun q e => hne 1 q (by omega) (by rw [<- e]; rfl)) (fun q e => hne 2 q (by omega) (by rw [<- e]; rfl))
theorem SC.put (h:SC w D B f n S R) (i:Nat) (u:Value) (S':St) (hc:cells S' R=(cells S R).setIfInBounds i u)
 (hk:S'.k.text=S.k.text /\ S'.k.ref=S.k.ref /\ S'.k.tag=S.k.tag /\ S'.k.attrs=S.k.attrs /\ S'.k.attr=S.k.attr /\ S'.k.val=S.k.val /\ S'.q=S.q /\ S'.e=S.e) : SC (w.setCell ⟨D,i,none⟩ u) D B f n S' R :=
 h.set i u S' hc rfl ⟨rfl,rfl,rfl,rfl,rfl,rfl,rfl,rfl,rfl,rfl⟩ ⟨hk.1,hk.2.1,hk.2.2.1,hk.2.2.2.1,hk.2.2.2.2.1,hk.2.2.2.2.2.1⟩ (by rw [hk.2.2.2.2.2.2.1,hk.2.2.2.2.2.2.2]; exact h.feed)
theorem To.setCell {R1:Raw} {w1:World} (h:To D R w R1 w1) (i:Nat) (u:Value) {R':Raw} (hf:foot D R'=foot D R1) : To D R w R' (w1.setCell ⟨D,i,none⟩ u) :=
 h.trans (.of_but ((But.of_below (Below.refl _ _)).setCell (p:=⟨D,i,none⟩) rfl u) hf)
theorem To.drew {R1:Raw} {w1:World} (h:To D R w R1 w1) : To D R w R1 w1.drew:=h.trans (.of_below (Below.refl _ _).drew)
theorem To.drewN {R1:Raw} {w1:World} (h:To D R w R1 w1) (m:Nat) : To D R w R1 (w1.drewN m):=h.trans (.of_below (below_drewN (Below.refl _ _) _))
theorem SC.drew (h:SC w D B f n S R) : SC w.drew D B f n S R:=h.below (Below.refl _ _).drew
theorem SC.drewN (h:SC w D B f n S R) (m:Nat) : SC (w.drewN m) D B f n S R:=h.below (below_drewN (Below.refl _ _) _)
theorem SC.text' (h:SC w D B f n S R) {w1:World} {v':Value} {l':List UInt8} (hg:Grew w R.text w1 v') (hrow:RowB w1 B v' l') : SC (w1.setCell ⟨D,18,none⟩ v') D B f n { S with k := { S.k with text:=l' } } { R with text:=v' }:=by
 have hne : ∀ j q,0 < j -> j ≠ 4 -> (foot D R)[j]? = some (some q) -> (w1.setCell ⟨D,18,none⟩ v').heap[q]? = w.heap[q]? := by
  intro j q hj hj2 hq
  refine (RowKit.Below.heap_setCell _ _ _ _ fun e => ?_).trans (hg.block q (h.lt q (List.mem_of_getElem? hq)).2 fun e => ?_)
  . have:=h.apart 0 j q (by rw [e]; rfl) hq
    omega
  . exact hj2 (h.apart j 4 q hq (by rw [<- e]; rfl))
 have hD:w1.heap[D]? = w.heap[D]? := hg.block D h.lt0 fun e => by have:=h.apart 0 4 D rfl (by rw [<- e]; rfl); omega
 refine ⟨Go.Joins.block_setCell (i:=18) (hD.trans h.cell) _,h.low,h.rest.keep fun q e => hne 3 q (by omega) (by omega) (by rw [<- e]; rfl),own_keep hrow fun q e => RowKit.Below.heap_setCell _ _ _ _ fun e1 => by
  have e2:v'.ownBlock=some D:=(show v'.ownBlock=some q from e).trans (congrArg some e1)
  rcases hg.own with k1 | k1
  . have:=h.apart 0 4 D rfl (by rw [<- e2,k1]; rfl); omega
  . have:=k1 D e2; have:=h.lt0; omega,
  own_keep h.ref fun q e => hne 5 q (by omega) (by omega) (by rw [<- e]; rfl),own_keep h.tag fun q e => hne 6 q (by omega) (by omega) (by rw [<- e]; rfl),
  own_keep h.attrs fun q e => hne 7 q (by omega) (by omega) (by rw [<- e]; rfl),h.seen.keep fun q e => hne 8 q (by omega) (by omega) (by rw [<- e]; rfl),own_keep h.attr fun q e => hne 9 q (by omega) (by omega) (by rw [<- e]; rfl),own_keep h.val fun q e => hne 10 q (by omega) (by omega) (by rw [<- e]; rfl),
  h.feed.keep (fun q e => hne 1 q (by omega) (by omega) (by rw [<- e]; rfl)) (fun q e => hne 2 q (by omega) (by omega) (by rw [<- e]; rfl)), ?_⟩
 refine h.apart.set 4 v'.ownBlock fun q e j hq => ?_
 rcases hg.own with k1 | k1
 . exact h.apart j 4 q hq (by rw [<- e,k1]; rfl)
 . have:=(h.lt q (List.mem_of_getElem? hq)).2
   have:=k1 q e
   omega
theorem To.text' {w1:World} {v':Value} (hg:Grew w R.text w1 v') : To D R w { R with text:=v' } (w1.setCell ⟨D,18,none⟩ v'):=by
 refine ⟨⟨hg.os,hg.tape,hg.output,by simpa [World.setCell] using hg.size,fun k hk hn => ?_⟩,fun q hq => ?_⟩
 . exact (RowKit.Below.heap_setCell _ _ _ _ fun e => hn (by rw [e]; simp [foot])).trans (hg.block k hk fun e => hn (by simp [foot,e]))
 . simp only [foot,List.mem_cons,List.not_mem_nil,or_false] at hq ⊢
   rcases hq with e | e | e | e | e | e | e | e | e | e | e
   all_goals first
    | (left; simp [e]; done)
    | (rcases hg.own with k1 | k1
       . left; rw [<- k1]; simp [e]
       . right; exact k1 q e.symm)
theorem SC.ref' (h:SC w D B f n S R) {w1:World} {v':Value} {l':List UInt8} (hg:Grew w R.ref w1 v') (hrow:RowB w1 B v' l') : SC (w1.setCell ⟨D,21,none⟩ v') D B f n { S with k := { S.k with ref:=l' } } { R with ref:=v' }:=by
 have hne : ∀ j q,0 < j -> j ≠ 5 -> (foot D R)[j]? = some (some q) -> (w1.setCell ⟨D,21,none⟩ v').heap[q]? = w.heap[q]? := by
  intro j q hj hj2 hq
  refine (RowKit.Below.heap_setCell _ _ _ _ fun e => ?_).trans (hg.block q (h.lt q (List.mem_of_getElem? hq)).2 fun e => ?_)
  . have:=h.apart 0 j q (by rw [e]; rfl) hq
    omega
  . exact hj2 (h.apart j 5 q hq (by rw [<- e]; rfl))
 have hD:w1.heap[D]? = w.heap[D]? := hg.block D h.lt0 fun e => by have:=h.apart 0 5 D rfl (by rw [<- e]; rfl); omega
 refine ⟨Go.Joins.block_setCell (i:=21) (hD.trans h.cell) _,h.low,h.rest.keep fun q e => hne 3 q (by omega) (by omega) (by rw [<- e]; rfl),own_keep h.text fun q e => hne 4 q (by omega) (by omega) (by rw [<- e]; rfl),
  own_keep hrow fun q e => RowKit.Below.heap_setCell _ _ _ _ fun e1 => by
   have e2:v'.ownBlock=some D:=(show v'.ownBlock=some q from e).trans (congrArg some e1)
   rcases hg.own with k1 | k1
   . have:=h.apart 0 5 D rfl (by rw [<- e2,k1]; rfl); omega
   . have:=k1 D e2; have:=h.lt0; omega,own_keep h.tag fun q e => hne 6 q (by omega) (by omega) (by rw [<- e]; rfl),
  own_keep h.attrs fun q e => hne 7 q (by omega) (by omega) (by rw [<- e]; rfl),h.seen.keep fun q e => hne 8 q (by omega) (by omega) (by rw [<- e]; rfl),own_keep h.attr fun q e => hne 9 q (by omega) (by omega) (by rw [<- e]; rfl),own_keep h.val fun q e => hne 10 q (by omega) (by omega) (by rw [<- e]; rfl),
  h.feed.keep (fun q e => hne 1 q (by omega) (by omega) (by rw [<- e]; rfl)) (fun q e => hne 2 q (by omega) (by omega) (by rw [<- e]; rfl)), ?_⟩
 refine h.apart.set 5 v'.ownBlock fun q e j hq => ?_
 rcases hg.own with k1 | k1
 . exact h.apart j 5 q hq (by rw [<- e,k1]; rfl)
 . have:=(h.lt q (List.mem_of_getElem? hq)).2
   have:=k1 q e
   omega
theorem To.ref' {w1:World} {v':Value} (hg:Grew w R.ref w1 v') : To D R w { R with ref:=v' } (w1.setCell ⟨D,21,none⟩ v'):=by
 refine ⟨⟨hg.os,hg.tape,hg.output,by simpa [World.setCell] using hg.size,fun k hk hn => ?_⟩,fun q hq => ?_⟩
 . exact (RowKit.Below.heap_setCell _ _ _ _ fun e => hn (by rw [e]; simp [foot])).trans (hg.block k hk fun e => hn (by simp [foot,e]))
 . simp only [foot,List.mem_cons,List.not_mem_nil,or_false] at hq ⊢
   rcases hq with e | e | e | e | e | e | e | e | e | e | e
   all_goals first
    | (left; simp [e]; done)
    | (rcases hg.own with k1 | k1
       . left; rw [<- k1]; simp [e]
       . right; exact k1 q e.symm)
theorem SC.tag' (h:SC w D B f n S R) {w1:World} {v':Value} {l':List UInt8} (hg:Grew w R.tag w1 v') (hrow:RowB w1 B v' l') : SC (w1.setCell ⟨D,24,none⟩ v') D B f n { S with k := { S.k with tag:=l' } } { R with tag:=v' }:=by
 have hne : ∀ j q,0 < j -> j ≠ 6 -> (foot D R)[j]? = some (some q) -> (w1.setCell ⟨D,24,none⟩ v').heap[q]? = w.heap[q]? := by
  intro j q hj hj2 hq
  refine (RowKit.Below.heap_setCell _ _ _ _ fun e => ?_).trans (hg.block q (h.lt q (List.mem_of_getElem? hq)).2 fun e => ?_)
  . have:=h.apart 0 j q (by rw [e]; rfl) hq
    omega
  . exact hj2 (h.apart j 6 q hq (by rw [<- e]; rfl))
 have hD:w1.heap[D]? = w.heap[D]? := hg.block D h.lt0 fun e => by have:=h.apart 0 6 D rfl (by rw [<- e]; rfl); omega
 refine ⟨Go.Joins.block_setCell (i:=24) (hD.trans h.cell) _,h.low,h.rest.keep fun q e => hne 3 q (by omega) (by omega) (by rw [<- e]; rfl),own_keep h.text fun q e => hne 4 q (by omega) (by omega) (by rw [<- e]; rfl),
  own_keep h.ref fun q e => hne 5 q (by omega) (by omega) (by rw [<- e]; rfl),own_keep hrow fun q e => RowKit.Below.heap_setCell _ _ _ _ fun e1 => by
   have e2:v'.ownBlock=some D:=(show v'.ownBlock=some q from e).trans (congrArg some e1)
   rcases hg.own with k1 | k1
   . have:=h.apart 0 6 D rfl (by rw [<- e2,k1]; rfl); omega
   . have:=k1 D e2; have:=h.lt0; omega,
  own_keep h.attrs fun q e => hne 7 q (by omega) (by omega) (by rw [<- e]; rfl),h.seen.keep fun q e => hne 8 q (by omega) (by omega) (by rw [<- e]; rfl),own_keep h.attr fun q e => hne 9 q (by omega) (by omega) (by rw [<- e]; rfl),own_keep h.val fun q e => hne 10 q (by omega) (by omega) (by rw [<- e]; rfl),
  h.feed.keep (fun q e => hne 1 q (by omega) (by omega) (by rw [<- e]; rfl)) (fun q e => hne 2 q (by omega) (by omega) (by rw [<- e]; rfl)), ?_⟩
 refine h.apart.set 6 v'.ownBlock fun q e j hq => ?_
 rcases hg.own with k1 | k1
 . exact h.apart j 6 q hq (by rw [<- e,k1]; rfl)
 . have:=(h.lt q (List.mem_of_getElem? hq)).2
   have:=k1 q e
   omega
theorem To.tag' {w1:World} {v':Value} (hg:Grew w R.tag w1 v') : To D R w { R with tag:=v' } (w1.setCell ⟨D,24,none⟩ v'):=by
 refine ⟨⟨hg.os,hg.tape,hg.output,by simpa [World.setCell] using hg.size,fun k hk hn => ?_⟩,fun q hq => ?_⟩
 . exact (RowKit.Below.heap_setCell _ _ _ _ fun e => hn (by rw [e]; simp [foot])).trans (hg.block k hk fun e => hn (by simp [foot,e]))
 . simp only [foot,List.mem_cons,List.not_mem_nil,or_false] at hq ⊢
   rcases hq with e | e | e | e | e | e | e | e | e | e | e
   all_goals first
    | (left; simp [e]; done)
    | (rcases hg.own with k1 | k1
       . left; rw [<- k1]; simp [e]
       . right; exact k1 q e.symm)
theorem SC.attr' (h:SC w D B f n S R) {w1:World} {v':Value} {l':List UInt8} (hg:Grew w R.attr w1 v') (hrow:RowB w1 B v' l') : SC (w1.setCell ⟨D,27,none⟩ v') D B f n { S with k := { S.k with attr:=l' } } { R with attr:=v' }:=by
 have hne : ∀ j q,0 < j -> j ≠ 9 -> (foot D R)[j]? = some (some q) -> (w1.setCell ⟨D,27,none⟩ v').heap[q]? = w.heap[q]? := by
  intro j q hj hj2 hq
  refine (RowKit.Below.heap_setCell _ _ _ _ fun e => ?_).trans (hg.block q (h.lt q (List.mem_of_getElem? hq)).2 fun e => ?_)
  . have:=h.apart 0 j q (by rw [e]; rfl) hq
    omega
  . exact hj2 (h.apart j 9 q hq (by rw [<- e]; rfl))
 have hD:w1.heap[D]? = w.heap[D]? := hg.block D h.lt0 fun e => by have:=h.apart 0 9 D rfl (by rw [<- e]; rfl); omega
 refine ⟨Go.Joins.block_setCell (i:=27) (hD.trans h.cell) _,h.low,h.rest.keep fun q e => hne 3 q (by omega) (by omega) (by rw [<- e]; rfl),own_keep h.text fun q e => hne 4 q (by omega) (by omega) (by rw [<- e]; rfl),
  own_keep h.ref fun q e => hne 5 q (by omega) (by omega) (by rw [<- e]; rfl),own_keep h.tag fun q e => hne 6 q (by omega) (by omega) (by rw [<- e]; rfl),
  own_keep h.attrs fun q e => hne 7 q (by omega) (by omega) (by rw [<- e]; rfl),h.seen.keep fun q e => hne 8 q (by omega) (by omega) (by rw [<- e]; rfl),own_keep hrow fun q e => RowKit.Below.heap_setCell _ _ _ _ fun e1 => by
   have e2:v'.ownBlock=some D:=(show v'.ownBlock=some q from e).trans (congrArg some e1)
   rcases hg.own with k1 | k1
   . have:=h.apart 0 9 D rfl (by rw [<- e2,k1]; rfl); omega
   . have:=k1 D e2; have:=h.lt0; omega,own_keep h.val fun q e => hne 10 q (by omega) (by omega) (by rw [<- e]; rfl),
  h.feed.keep (fun q e => hne 1 q (by omega) (by omega) (by rw [<- e]; rfl)) (fun q e => hne 2 q (by omega) (by omega) (by rw [<- e]; rfl)), ?_⟩
 refine h.apart.set 9 v'.ownBlock fun q e j hq => ?_
 rcases hg.own with k1 | k1
 . exact h.apart j 9 q hq (by rw [<- e,k1]; rfl)
 . have:=(h.lt q (List.mem_of_getElem? hq)).2
   have:=k1 q e
   omega
theorem To.attr' {w1:World} {v':Value} (hg:Grew w R.attr w1 v') : To D R w { R with attr:=v' } (w1.setCell ⟨D,27,none⟩ v'):=by
 refine ⟨⟨hg.os,hg.tape,hg.output,by simpa [World.setCell] using hg.size,fun k hk hn => ?_⟩,fun q hq => ?_⟩
 . exact (RowKit.Below.heap_setCell _ _ _ _ fun e => hn (by rw [e]; simp [foot])).trans (hg.block k hk fun e => hn (by simp [foot,e]))
 . simp only [foot,List.mem_cons,List.not_mem_nil,or_false] at hq ⊢
   rcases hq with e | e | e | e | e | e | e | e | e | e | e
   all_goals first
    | (left; simp [e]; done)
    | (rcases hg.own with k1 | k1
       . left; rw [<- k1]; simp [e]
       . right; exact k1 q e.symm)
theorem SC.val' (h:SC w D B f n S R) {w1:World} {v':Value} {l':List UInt8} (hg:Grew w R.val w1 v') (hrow:RowB w1 B v' l') : SC (w1.setCell ⟨D,28,none⟩ v') D B f n { S with k := { S.k with val:=l' } } { R with val:=v' }:=by
 have hne : ∀ j q,0 < j -> j ≠ 10 -> (foot D R)[j]? = some (some q) -> (w1.setCell ⟨D,28,none⟩ v').heap[q]? = w.heap[q]? := by
  intro j q hj hj2 hq
  refine (RowKit.Below.heap_setCell _ _ _ _ fun e => ?_).trans (hg.block q (h.lt q (List.mem_of_getElem? hq)).2 fun e => ?_)
  . have:=h.apart 0 j q (by rw [e]; rfl) hq
    omega
  . exact hj2 (h.apart j 10 q hq (by rw [<- e]; rfl))
 have hD:w1.heap[D]? = w.heap[D]? := hg.block D h.lt0 fun e => by have:=h.apart 0 10 D rfl (by rw [<- e]; rfl); omega
 refine ⟨Go.Joins.block_setCell (i:=28) (hD.trans h.cell) _,h.low,h.rest.keep fun q e => hne 3 q (by omega) (by omega) (by rw [<- e]; rfl),own_keep h.text fun q e => hne 4 q (by omega) (by omega) (by rw [<- e]; rfl),
  own_keep h.ref fun q e => hne 5 q (by omega) (by omega) (by rw [<- e]; rfl),own_keep h.tag fun q e => hne 6 q (by omega) (by omega) (by rw [<- e]; rfl),
  own_keep h.attrs fun q e => hne 7 q (by omega) (by omega) (by rw [<- e]; rfl),h.seen.keep fun q e => hne 8 q (by omega) (by omega) (by rw [<- e]; rfl),own_keep h.attr fun q e => hne 9 q (by omega) (by omega) (by rw [<- e]; rfl),own_keep hrow fun q e => RowKit.Below.heap_setCell _ _ _ _ fun e1 => by
   have e2:v'.ownBlock=some D:=(show v'.ownBlock=some q from e).trans (congrArg some e1)
   rcases hg.own with k1 | k1
   . have:=h.apart 0 10 D rfl (by rw [<- e2,k1]; rfl); omega
   . have:=k1 D e2; have:=h.lt0; omega,
  h.feed.keep (fun q e => hne 1 q (by omega) (by omega) (by rw [<- e]; rfl)) (fun q e => hne 2 q (by omega) (by omega) (by rw [<- e]; rfl)), ?_⟩
 refine h.apart.set 10 v'.ownBlock fun q e j hq => ?_
 rcases hg.own with k1 | k1
 . exact h.apart j 10 q hq (by rw [<- e,k1]; rfl)
 . have:=(h.lt q (List.mem_of_getElem? hq)).2
   have:=k1 q e
   omega
theorem To.val' {w1:World} {v':Value} (hg:Grew w R.val w1 v') : To D R w { R with val:=v' } (w1.setCell ⟨D,28,none⟩ v'):=by
 refine ⟨⟨hg.os,hg.tape,hg.output,by simpa [World.setCell] using hg.size,fun k hk hn => ?_⟩,fun q hq => ?_⟩
 . exact (RowKit.Below.heap_setCell _ _ _ _ fun e => hn (by rw [e]; simp [foot])).trans (hg.block k hk fun e => hn (by simp [foot,e]))
 . simp only [foot,List.mem_cons,List.not_mem_nil,or_false] at hq ⊢
   rcases hq with e | e | e | e | e | e | e | e | e | e | e
   all_goals first
    | (left; simp [e]; done)
    | (rcases hg.own with k1 | k1
       . left; rw [<- k1]; simp [e]
       . right; exact k1 q e.symm)
end
section
variable {w:World} {D B n:Nat} {f:Nat -> Nat} {S:St} {R:Raw}
def St.wk (S:St) (k:Wk) : St := { S with k:=k }
theorem turn_any (h:SC w D B f n S R) (k:Nat) :
 Calls Tryd.prog 48 #[.pointer (some ⟨D,0,none⟩), .int .i64 k] w fun e w' => e = .returned (.bool true) /\ SC w' D B f n (S.wk (S.k.turn k)) R /\ To D R w R w':=by
 have c8:=h.c8
 have f8:=h.fz 8
 have H:=hide' h
 clear h
 go_enter Tryd.func48,Tryd.ntmps48
 go_wp2
 go_ret
 exact ⟨rfl,H.out.put 8 _ _ rfl ⟨rfl,rfl,rfl,rfl,rfl,rfl,rfl,rfl⟩,(To.refl _ _ _).setCell 8 _ rfl⟩
theorem whole_any (h:SC w D B f n S R) (k:Nat) :
 Calls Tryd.prog 55 #[.pointer (some ⟨D,0,none⟩), .int .i64 k] w fun e w' => e = .returned (.bool false) /\ SC w' D B f n (S.wk (S.k.whole k)) R /\ To D R w R w':=by
 have c9:=h.c9
 have f9:=h.fz 9
 have c23:=h.c23
 have f23:=h.fz 23
 have H:=hide' h
 clear h
 go_enter Tryd.func55,Tryd.ntmps55
 go_wp2
 go_ret
 exact ⟨rfl,(H.out.put 23 _ { S with k := { S.k with kind:=k } } rfl ⟨rfl,rfl,rfl,rfl,rfl,rfl,rfl,rfl⟩).put 9 _ _ rfl ⟨rfl,rfl,rfl,rfl,rfl,rfl,rfl,rfl⟩,((To.refl _ _ _).setCell 23 _ rfl).setCell 9 _ rfl⟩
theorem FeedOf.skip {w:World} {B:Nat} {fp:Option Nat} {fv:Value} {f:Nat -> Nat} {n ps:Nat} (h:FeedOf w B fp fv f n ps ps) (hn:ps < n) : FeedOf w B fp fv f n (ps + 1) ps /\ FeedOf w B fp fv f n (ps + 1) (ps + 1):=by
 rcases h with h | ⟨d,G,N,T,p,e,hd,hF,h1,h2,h3,h4,h5⟩
 . exact ⟨.inl h, .inl h⟩
 . exact ⟨.inr ⟨d,G,N,T,p,e,hd,hF,h1,by omega,h3,h4,fun j hj => by omega⟩, .inr ⟨d,G,N,T,p,e,hd,hF,by omega,by omega,by omega,h4,fun j hj => by omega⟩⟩
theorem SC.feed' (h:SC w D B f n S R) (q e:Nat) (hF:FeedOf w B R.fp R.fv f n q e) : SC w D B f n { S with q:=q,e:=e } R :=
 ⟨h.cell,h.low,h.rest,h.text,h.ref,h.tag,h.attrs,h.seen,h.attr,h.val,hF,h.apart⟩
theorem skip_any (h:SC w D B f n S R) (hp:S.e=S.q) (hn:S.q < n) (hb:S.k.ps < 4611686018427387904 /\ S.fed < 4611686018427387904) :
 Calls Tryd.prog 59 #[.pointer (some ⟨D,0,none⟩)] w fun e w' => e = .returned (.tuple #[]) /\ SC w' D B f n { S with fed:=S.fed + 1,q:=S.q + 1,e:=S.q + 1,k := { S.k with ps:=S.k.ps + 1 } } R /\ To D R w R w':=by
 have c15:=h.c15
 have f15:=h.fz 15
 have c16:=h.c16
 have f16:=h.fz 16
 have b1:S.k.ps + 1 < 9223372036854775808:=by omega
 have b2:S.fed + 1 < 9223372036854775808:=by omega
 have hF:=h.feed
 rw [hp] at hF
 have H:=hide' (h.feed' _ _ (hF.skip hn).2)
 clear h hp hF hn
 go_enter Tryd.func59,Tryd.ntmps59
 go_wp2
 go_end0
 exact ⟨rfl,(H.out.put 16 _ { S with q:=S.q + 1,e:=S.q + 1,k := { S.k with ps:=S.k.ps + 1 } } rfl ⟨rfl,rfl,rfl,rfl,rfl,rfl,rfl,rfl⟩).put 15 _ _ rfl ⟨rfl,rfl,rfl,rfl,rfl,rfl,rfl,rfl⟩,((To.refl _ _ _).setCell 16 _ rfl).setCell 15 _ rfl⟩
theorem tally_any (h:SC w D B f n S R) (r o:Nat) (hc:S.k.ct + 1 < 9223372036854775808) :
 Calls Tryd.prog 50 #[.pointer (some ⟨D,0,none⟩), .int .i32 r, .int .i32 o] w fun e w' => e = .returned (.tuple #[]) /\ SC w' D B f n (S.wk (S.k.tally r o)) R /\ To D R w R w':=by
 have c20:=h.c20
 have f20:=h.fz 20
 have H:=hide' h
 clear h
 by_cases e:r=o
 . subst e
   go_enter Tryd.func50,Tryd.ntmps50
   go_wp2
   go_end0
   exact ⟨rfl,H.out.put 20 _ _ (by simp [cells,St.wk,Wk.tally]) ⟨rfl,rfl,rfl,rfl,rfl,rfl,rfl,rfl⟩,(To.refl _ _ _).setCell 20 _ rfl⟩
 . have e':((r:Int) == (o:Int))=false:=by simp; omega
   have E:=hide' e
   clear e
   go_enter Tryd.func50,Tryd.ntmps50
   go_wp2
   go_end0
   exact ⟨rfl,(H.out.put 20 _ { S with k := { S.k with ct:=S.k.ct + 1 } } rfl ⟨rfl,rfl,rfl,rfl,rfl,rfl,rfl,rfl⟩).put 20 _ _ (by simp [cells,St.wk,Wk.tally,E.out]) ⟨rfl,rfl,rfl,rfl,rfl,rfl,rfl,rfl⟩,((To.refl _ _ _).setCell 20 _ rfl).setCell 20 _ rfl⟩
end
theorem RowF.sl {w:World} {B n:Nat} {v:Value} {f:Nat -> Nat} (h:RowF w B v n f) : SlAt w v n f:=by
 rcases h with h | ⟨q,o,cap,cur,rfl,hb,hg,h1,h2,h3,h4⟩
 . exact .inl h
 . refine .inr ⟨q,o,cap,rfl,h1,h2,fun j hj => ?_⟩
   rw [Lib.cell_of_heap hg]
   have e:((cur.toList.drop o).take n)[j]? = (xs f n)[j]? := by rw [h4]
   rw [List.getElem?_take,if_pos hj,List.getElem?_drop] at e
   rw [<- Array.getElem?_toList,e]
   simp [xs,hj]
def pla (pl:Nat × Nat × Nat × Nat) (f:Nat -> Nat) (n k:Nat) : Nat × Nat × Nat × Nat:=(pl.1 + k,Rn.plcFrom f n k k 0 pl.2.1 pl.2.2.1 pl.2.2.2)
def plaV (p:Nat × Nat × Nat × Nat) : Value := .agg #[.int .i64 (p.1:Nat), .int .i64 (p.2.1:Nat), .int .i64 (p.2.2.1:Nat), .int .i64 (p.2.2.2:Nat)]
section
variable {w:World} {D B n:Nat} {f:Nat -> Nat} {S:St} {R:Raw}
theorem isFeed_any (h:SC w D B f n S R) (k:Nat) (hb:n <= 4611686018427387904) (hk:k <= n) :
 Calls Tryd.prog 60 #[.pointer (some ⟨D,0,none⟩), .int .i64 k] w fun e w' => e = .returned (.bool (decide (k < n /\ f k=10))) /\ w'=w:=by
 have c0:=h.c0
 have hs:=h.rest.sl
 clear h
 rcases hs with ⟨e,rfl⟩ | ⟨q,o,cap,e,hc,hm,hby⟩
 . rw [e] at c0
   have i1 : ¬ (k:Int) < 0:=by omega
   clear e
   go_enter Tryd.func60,Tryd.ntmps60
   go_wp2
   go_ret
   exact ⟨ret_bool (by simp),rfl⟩
 . rw [e] at c0
   by_cases hlt:k < n
   . have i1:(k:Int) < n:=by omega
     have cb:=hby k hlt
     clear e hby
     go_enter Tryd.func60,Tryd.ntmps60
     go_wp2
     go_ret
     refine ⟨ret_bool ?_,rfl⟩
     rw [Bool.eq_iff_iff]
     simp
     omega
   . have i1 : ¬ (k:Int) < n:=by omega
     clear e hby
     go_enter Tryd.func60,Tryd.ntmps60
     go_wp2
     go_ret
     exact ⟨ret_bool (by simp),rfl⟩
def plW (w:World) (s:ByteArray) (pos a rn ln co:Nat) : World :=
 ((w.alloc (.cells #[.int .i64 0, .int .i64 0, .int .i64 0, .int .i64 0] 32)).alloc (.cells #[.int .i64 a, .int .i64 rn, .int .i64 ln, .int .i64 co] 32)).alloc (.stringIter s pos)
theorem placeOf_some (h:SC w D B f n S R) (a:Nat) (hf : ∀ j,f j < 256) (ha:a <= n) (hbig:n <= 4611686018427387904) (q o cap:Nat) (er:R.rest = .slice (some ⟨q,o,none⟩) n cap) (hc:n <= cap) (hm0:cap <= maxLen) (hp:Bytes w q o n f)
 (b1:S.pl.1 + n < 4611686018427387904) (b2:S.pl.2.1 + n < 4611686018427387904) (b3:S.pl.2.2.1 + n < 4611686018427387904) (b4:S.pl.2.2.2 + n < 4611686018427387904) :
 Calls Tryd.prog 40 #[.pointer (some ⟨D,0,none⟩), .int .i64 a] w fun e w' => e = .returned (plaV (pla S.pl f n a)) /\ Below w.heap.size w w':=by
 have hm:cap <= 9223372036854775807:=by unfold maxLen at hm0; omega
 have c0:=h.c0
 rw [er] at c0
 have c1:=h.c1
 have c2:=h.c2
 have c3:=h.c3
 have c4:=h.c4
 have hlD:=h.lt0
 have hcv : ∀ o1 o2,(convert 22 9 (.slice (some ⟨q,o,none⟩) a cap)).run Tryd.prog ((w.alloc o1).alloc o2) = .ok (.string (Rn.arr f a)) ((w.alloc o1).alloc o2):=fun o1 o2 =>
  bytes_string _ q o a cap f hf (((hp.le ha).below ((Below.refl w.heap.size w).alloc (Nat.le_refl _) o1) (Nat.le_refl _)).below ((Below.refl (w.alloc o1).heap.size (w.alloc o1)).alloc (Nat.le_refl _) o2) (Nat.le_refl _))
 have cI : ∀ (k:Nat) (_:k <= n) o1 o2 o3,_:=fun k hk o1 o2 o3 => isFeed_any (((h.below ((Below.refl w.heap.size w).alloc (Nat.le_refl _) o1)).below ((Below.refl _ (w.alloc o1)).alloc (Nat.le_refl _) o2)).below ((Below.refl _ ((w.alloc o1).alloc o2)).alloc (Nat.le_refl _) o3)) k hbig hk
 have i2:(a:Int) <= cap:=by omega
 clear h er
 unfold pla plaV
 generalize S.pl.1=p1 at *
 generalize S.pl.2.1=p2 at *
 generalize S.pl.2.2.1=p3 at *
 generalize S.pl.2.2.2=p4 at *
 obtain ⟨Z,hZ⟩ : ∃ Z,Rn.plcFrom f n a a 0 p2 p3 p4=Z:=⟨_,rfl⟩
 rw [hZ]
 have HZ:=hide' hZ
 clear hZ
 go_enter Tryd.func40,Tryd.ntmps40
 go_wp2
 go_loopw [] (fun wr => ∃ (pos fuel rn ln co:Nat),wr=plW w (Rn.arr f a) pos (p1 + a) rn ln co /\ pos <= a /\ a <= pos + fuel /\ rn <= p2 + pos /\ ln <= p3 + pos /\ co <= p4 + pos + 1 /\ Rn.plcFrom f n a fuel pos rn ln co=Z) (fun wr => a - wr.iterPos (w.heap.size + 2))
 case atStart => exact ⟨0,a,p2,p3,p4,by unfold plW; go_num,by omega,by omega,by omega,by omega,by omega,HZ.out⟩
 case round =>
  obtain ⟨pos,fuel,rn,ln,co,rfl,hpa,hfu,hrn,hln,hco,hpl⟩:=hrel
  have hsz:(Rn.arr f a).size=a:=Rn.arr_size f a
  by_cases hlt:pos < a
  . obtain ⟨m,rfl⟩ : ∃ m,fuel=m + 1:=⟨fuel - 1,by omega⟩
    have hg : ∀ j,Rn.off f pos j < 256:=fun j => hf _
    obtain ⟨hd1,hd2,hd3⟩:=Rn.dec_pos (Rn.off f pos) (a - pos) hg (by omega)
    have hd4:=Rn.dec_lt (Rn.off f pos) (a - pos) hg (by omega)
    have hnx:=fun W hk ty => next_alloc W (w.heap.size + 1 + 1) hk f a pos hf hlt ty
    have cE : ∀ o1 o2 o3,_:=fun o1 o2 o3 => cI (pos + 1) (by omega) o1 o2 o3
    unfold Rn.plcFrom at hpl
    rw [if_neg (by omega)] at hpl
    unfold plW
    clear hcv hp hg cI
    generalize (Rn.dec (Rn.off f pos) (a - pos)).1=r at *
    generalize (Rn.dec (Rn.off f pos) (a - pos)).2=d at *
    by_cases h10:r=10
    . subst h10
      rw [show Rn.lineEnd f n pos 10=true by simp [Rn.lineEnd]] at hpl
      have HP:Hid (_=_):=hpl
      clear hpl cE
      go_wp2_with fail
      go_roundw
      case rel => exact ⟨pos + d,m,rn + 1,ln + 1,1,by go_num,by omega,by omega,by omega,by omega,by omega,HP.out⟩
      case measure => rw [iterPos_alloc _ _ _ _ (by simp),iterPos_alloc _ _ _ _ (by simp)]; omega
    . have h10':((r:Int) == 10)=false:=by simp; omega
      by_cases h13:r=13
      . subst h13
        by_cases hle:pos + 1 < n /\ f (pos + 1)=10
        . rw [show Rn.lineEnd f n pos 13=false by simp [Rn.lineEnd]; omega] at hpl
          rw [show decide (pos + 1 < n /\ f (pos + 1)=10)=true by simpa using hle] at cE
          have HP:Hid (_=_):=hpl
          clear hpl hle h10
          go_wp2_with fail
          refine (cE _ _ _).mono ?_
          rintro e w1 ⟨rfl,rfl⟩
          go_wp2_with fail
          go_roundw
          case rel => exact ⟨pos + d,m,rn + 1,ln,co + 1,by go_num,by omega,by omega,by omega,by omega,by omega,HP.out⟩
          case measure => rw [iterPos_alloc _ _ _ _ (by simp),iterPos_alloc _ _ _ _ (by simp)]; omega
        . rw [show Rn.lineEnd f n pos 13=true by simp [Rn.lineEnd]; omega] at hpl
          rw [show decide (pos + 1 < n /\ f (pos + 1)=10)=false by simpa using hle] at cE
          have HP:Hid (_=_):=hpl
          clear hpl hle h10
          go_wp2_with fail
          refine (cE _ _ _).mono ?_
          rintro e w1 ⟨rfl,rfl⟩
          go_wp2_with fail
          go_roundw
          case rel => exact ⟨pos + d,m,rn + 1,ln + 1,1,by go_num,by omega,by omega,by omega,by omega,by omega,HP.out⟩
          case measure => rw [iterPos_alloc _ _ _ _ (by simp),iterPos_alloc _ _ _ _ (by simp)]; omega
      . have h13':((r:Int) == 13)=false:=by simp; omega
        rw [show Rn.lineEnd f n pos r=false by simp [Rn.lineEnd,h10,h13]] at hpl
        have HP:Hid (_=_):=hpl
        clear hpl cE h10 h13
        go_wp2_with fail
        go_roundw
        case rel => exact ⟨pos + d,m,rn + 1,ln,co + 1,by go_num,by omega,by omega,by omega,by omega,by omega,HP.out⟩
        case measure => rw [iterPos_alloc _ _ _ _ (by simp),iterPos_alloc _ _ _ _ (by simp)]; omega
  . obtain rfl:pos=a:=by omega
    rw [Rn.plcFrom_end _ _ _ _ _ _ _ _ (Nat.le_refl _)] at hpl
    have HP:Hid (_=_):=hpl
    have hnx:=fun W hk ty => next_alloc_end W (w.heap.size + 1 + 1) hk f pos pos hlt ty
    clear hpl hcv hp cI
    unfold plW
    go_wp2_with fail
    refine bodyPost_ret (v := .agg #[.int .i64 (p1 + pos:Nat), .int .i64 rn, .int .i64 ln, .int .i64 co]) (by simp [results,Tryd.results40,go_sem]) rfl ⟨by rw [<- HP.out], ?_⟩
    exact (((Below.refl w.heap.size w).alloc (Nat.le_refl _) _).alloc (by simp) _).alloc (by simp; omega) _
end
section
variable {w:World} {D B n:Nat} {f:Nat -> Nat} {S:St} {R:Raw}
theorem conv_nil (f:Nat -> Nat) (W:World) : (convert 22 9 (.slice none 0 0)).run Tryd.prog W = .ok (.string (Rn.arr f 0)) W:=by
 rw [run_convert_bytes_nil (P:=Tryd.prog) W 22 5 Tryd.underlying22 Tryd.underlying5 0 0 9 Tryd.underlying9]
 rfl
theorem placeOf_nil (h:SC w D B f 0 S R) (er:R.rest = .slice none 0 0) (b1:S.pl.1 < 4611686018427387904) :
 Calls Tryd.prog 40 #[.pointer (some ⟨D,0,none⟩), .int .i64 0] w fun e w' => e = .returned (plaV (pla S.pl f 0 0)) /\ Below w.heap.size w w':=by
 have c0:=h.c0
 rw [er] at c0
 have c1:=h.c1
 have c2:=h.c2
 have c3:=h.c3
 have c4:=h.c4
 have hlD:=h.lt0
 have hcv:=conv_nil f
 clear h er
 unfold pla plaV
 rw [Rn.plcFrom_end _ _ _ _ _ _ _ _ (Nat.le_refl _)]
 generalize S.pl.1=p1 at *
 generalize S.pl.2.1=p2 at *
 generalize S.pl.2.2.1=p3 at *
 generalize S.pl.2.2.2=p4 at *
 go_enter Tryd.func40,Tryd.ntmps40
 go_wp2
 go_loopw [] (fun wr => wr=plW w (Rn.arr f 0) 0 p1 p2 p3 p4) (fun _ => 0)
 case atStart => unfold plW; go_num
 case round =>
  subst hrel
  have hnx:=fun W hk ty => next_alloc_end W (w.heap.size + 1 + 1) hk f 0 0 (Nat.lt_irrefl 0) ty
  clear hcv
  unfold plW
  go_wp2_with fail
  refine bodyPost_ret (v := .agg #[.int .i64 p1, .int .i64 p2, .int .i64 p3, .int .i64 p4]) (by simp [results,Tryd.results40,go_sem]) rfl ⟨rfl, ?_⟩
  exact (((Below.refl w.heap.size w).alloc (Nat.le_refl _) _).alloc (by simp) _).alloc (by simp; omega) _
theorem placeOf_any (h:SC w D B f n S R) (a:Nat) (hf : ∀ j,f j < 256) (ha:a <= n) (hbig:n <= 1152921504606846976) (hb:S.pl.1 <= 1152921504606846976 /\ S.pl.2.1 <= 1152921504606846976 /\ S.pl.2.2.1 <= 1152921504606846976 /\ S.pl.2.2.2 <= 1152921504606846976) :
 Calls Tryd.prog 40 #[.pointer (some ⟨D,0,none⟩), .int .i64 a] w fun e w' => e = .returned (plaV (pla S.pl f n a)) /\ Below w.heap.size w w':=by
 rcases h.rest.sl with ⟨e,rfl⟩ | ⟨q,o,cap,e,hc,hm,hby⟩
 . obtain rfl:a=0:=by omega
   exact placeOf_nil h e (by omega)
 . exact placeOf_some h a hf ha (by omega) q o cap e hc hm hby (by omega) (by omega) (by omega) (by omega)
theorem fail_any (h:SC w D B f n S R) (a:Nat) (hf : ∀ j,f j < 256) (ha:a <= n) (hbig:n <= 1152921504606846976) (hb:S.pl.1 <= 1152921504606846976 /\ S.pl.2.1 <= 1152921504606846976 /\ S.pl.2.2.1 <= 1152921504606846976 /\ S.pl.2.2.2 <= 1152921504606846976) :
 Calls Tryd.prog 39 #[.pointer (some ⟨D,0,none⟩), .int .i64 a] w fun e w' => e = .returned (.bool false) /\ SC w' D B f n (S.wk (S.k.fails a)) { R with bp:=pla S.pl f n a } /\ To D R w { R with bp:=pla S.pl f n a } w':=by
 have cP:=placeOf_any h a hf ha hbig hb
 have H:=hide' h
 clear h
 unfold plaV at cP
 obtain ⟨P,hP⟩ : ∃ P,pla S.pl f n a=P:=⟨_,rfl⟩
 rw [hP] at cP ⊢
 clear hP
 go_enter Tryd.func39,Tryd.ntmps39
 go_wp2_with fail
 refine cP.mono ?_
 rintro e w1 ⟨rfl,hb1⟩
 have h1:=H.out.below hb1
 have c10:=h1.c10
 have c11:=h1.c11
 have c12:=h1.c12
 have c13:=h1.c13
 have c9:=h1.c9
 have f9:=h1.fz 9
 have f10:=h1.fz 10
 have f11:=h1.fz 11
 have f12:=h1.fz 12
 have f13:=h1.fz 13
 have H1:=hide' h1
 have HB:=hide' hb1
 clear h1 hb1 cP
 go_wp2_with fail
 go_ret
 have s1:=H1.out.set 10 (.int .i64 (P.1:Nat)) S (R' := { R with bp:=(P.1,R.bp.2) }) rfl rfl ⟨rfl,rfl,rfl,rfl,rfl,rfl,rfl,rfl,rfl,rfl⟩ ⟨rfl,rfl,rfl,rfl,rfl,rfl⟩ H1.out.feed
 have s2:=s1.set 11 (.int .i64 (P.2.1:Nat)) S (R' := { R with bp:=(P.1,P.2.1,R.bp.2.2) }) rfl rfl ⟨rfl,rfl,rfl,rfl,rfl,rfl,rfl,rfl,rfl,rfl⟩ ⟨rfl,rfl,rfl,rfl,rfl,rfl⟩ s1.feed
 have s3:=s2.set 12 (.int .i64 (P.2.2.1:Nat)) S (R' := { R with bp:=(P.1,P.2.1,P.2.2.1,R.bp.2.2.2) }) rfl rfl ⟨rfl,rfl,rfl,rfl,rfl,rfl,rfl,rfl,rfl,rfl⟩ ⟨rfl,rfl,rfl,rfl,rfl,rfl⟩ s2.feed
 have s4:=s3.set 13 (.int .i64 (P.2.2.2:Nat)) S (R' := { R with bp:=P }) rfl rfl ⟨rfl,rfl,rfl,rfl,rfl,rfl,rfl,rfl,rfl,rfl⟩ ⟨rfl,rfl,rfl,rfl,rfl,rfl⟩ s3.feed
 refine ⟨rfl,s4.put 9 _ _ rfl ⟨rfl,rfl,rfl,rfl,rfl,rfl,rfl,rfl⟩, ?_⟩
 exact ((((((To.of_below HB.out).setCell 10 _ rfl).setCell 11 _ rfl).setCell 12 _ rfl).setCell 13 _ rfl).setCell 9 _ rfl)
theorem add_any (h:SC w D B f n S R) (r a:Nat) (hr:Rn.scal r) (hl:S.k.text.length + 4 <= 140737488355328) (hBw:B <= w.heap.size) :
 Calls Tryd.prog 49 #[.pointer (some ⟨D,0,none⟩), .int .i32 r, .int .i64 a] w fun e w' => e = .returned (.tuple #[]) /\ ∃ R',SC w' D B f n (S.wk (S.k.add r a)) R' /\ To D R w R' w' /\ R' = { R with text:=R'.text }:=by
 have c18:=h.c18
 have f18:=h.fz 18
 have c19:=h.c19
 have f19:=h.fz 19
 have ht:=h.text
 obtain ⟨pa,cap,et⟩:=own_shape ht
 have H:=hide' h
 by_cases e0:S.k.text = []
 . have hq:=h.put 19 (.int .i64 (a:Nat)) { S with k := { S.k with tf:=a } } rfl ⟨rfl,rfl,rfl,rfl,rfl,rfl,rfl,rfl⟩
   have hTo:To D R w R (w.setCell ⟨D,19,none⟩ (.int .i64 (a:Nat))):=(To.refl _ _ _).setCell 19 _ rfl
   have cA:=appRune_any B R.text S.k.text r (w.setCell ⟨D,19,none⟩ (.int .i64 (a:Nat))) hq.text hl (by simpa [World.setCell] using hBw) hr
   have hlen:S.k.text.length=0:=by rw [e0]; rfl
   rw [et,hlen] at c18
   rw [show (#[R.text,Value.int .i32 (r:Nat)] : Array Value) = #[.slice pa 0 cap, .int .i32 (r:Nat)] by rw [et,hlen]] at cA
   have HQ:=hide' hq
   have HT:=hide' hTo
   have E0:=hide' e0
   clear h ht hq hTo e0 et hlen
   go_enter Tryd.func49,Tryd.ntmps49
   go_wp2_with fail
   refine cA.mono ?_
   rintro e w1 ⟨v',rfl,hrow,hg⟩
   obtain ⟨pa',m',cap',rfl⟩:=own_shape3 hrow
   have hs:=HQ.out.text' hg hrow
   have hto:=HT.out.trans (To.text' hg)
   have f18:w1.frozen? ⟨D,18,none⟩ = false:=by
    rw [World.frozen?_of_block (w:=w.setCell ⟨D,19,none⟩ (.int .i64 (a:Nat))) (hg.block D HQ.out.lt0 fun e => by have:=HQ.out.apart 0 4 D rfl (by rw [<- e]; rfl); omega)]
    exact HQ.out.fz 18
   have c18:w1.cell? ⟨D,18,none⟩ = some R.text:=by
    rw [World.cell?_of_block (w:=w.setCell ⟨D,19,none⟩ (.int .i64 (a:Nat))) (hg.block D HQ.out.lt0 fun e => by have:=HQ.out.apart 0 4 D rfl (by rw [<- e]; rfl); omega)]
    exact HQ.out.c18
   have HS:=hide' hs
   have HTO:=hide' hto
   clear hg hrow hs hto cA
   go_wp2_with fail
   first | go_end0 | (simp only [Exit.inBlock,Exit.then]; refine bodyPost_ret (results_none rfl _ _ _) rfl ?_) | refine bodyPost_ret (results_none rfl _ _ _) rfl ?_
   refine ⟨rfl,_, ?_,HTO.out,rfl⟩
   have e:S.wk (S.k.add r a) = { S with k := { S.k with tf:=a,text:=S.k.text ++ encodeRune r } }:=by
    unfold St.wk Wk.add
    rw [if_pos E0.out]
   rw [e]
   exact HS.out
 . have cA:=appRune_any B R.text S.k.text r w h.text hl hBw hr
   have hlen : ¬ (S.k.text.length:Int)=0:=by
    intro e
    exact e0 (List.eq_nil_of_length_eq_zero (by omega))
   have hlen':((S.k.text.length:Int) == 0)=false:=by simpa using hlen
   rw [et] at c18
   rw [show (#[R.text,Value.int .i32 (r:Nat)] : Array Value) = #[.slice pa S.k.text.length cap, .int .i32 (r:Nat)] by rw [et]] at cA
   have E0:=hide' e0
   clear h ht e0 et hlen
   go_enter Tryd.func49,Tryd.ntmps49
   go_wp2_with fail
   refine cA.mono ?_
   rintro e w1 ⟨v',rfl,hrow,hg⟩
   obtain ⟨pa',m',cap',rfl⟩:=own_shape3 hrow
   have hs:=H.out.text' hg hrow
   have hto:=To.text' (D:=D) hg
   have f18:w1.frozen? ⟨D,18,none⟩ = false:=by
    rw [World.frozen?_of_block (w:=w) (hg.block D H.out.lt0 fun e => by have:=H.out.apart 0 4 D rfl (by rw [<- e]; rfl); omega)]
    exact H.out.fz 18
   have c18:w1.cell? ⟨D,18,none⟩ = some R.text:=by
    rw [World.cell?_of_block (w:=w) (hg.block D H.out.lt0 fun e => by have:=H.out.apart 0 4 D rfl (by rw [<- e]; rfl); omega)]
    exact H.out.c18
   have HS:=hide' hs
   have HTO:=hide' hto
   clear hg hrow hs hto cA
   go_wp2_with fail
   first | go_end0 | (simp only [Exit.inBlock,Exit.then]; refine bodyPost_ret (results_none rfl _ _ _) rfl ?_) | refine bodyPost_ret (results_none rfl _ _ _) rfl ?_
   refine ⟨rfl,_, ?_,HTO.out,rfl⟩
   have e:S.wk (S.k.add r a) = { S with k := { S.k with text:=S.k.text ++ encodeRune r } }:=by
    unfold St.wk Wk.add
    rw [if_neg E0.out]
   rw [e]
   exact HS.out
end
end Sc
end Go.Proofs.YteiiepjegdlbeaaDoor
