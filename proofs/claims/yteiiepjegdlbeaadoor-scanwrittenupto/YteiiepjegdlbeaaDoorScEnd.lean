import Derived.Test.YteiiepjegdlbeaaDoorScRefMath
import Derived.Lib.ConvBytes
import Derived.Test.YteiiepjegdlbeaaDoorScScopeB
set_option maxHeartbeats 4000000
set_option maxRecDepth 10000
namespace Go.Proofs.YteiiepjegdlbeaaDoor
open Go.RowKit Go.Lib
namespace Sc
theorem RowF.form {w:World} {B n:Nat} {v:Value} {f:Nat -> Nat} (h:RowF w B v n f) : ∃ pa cap,v = .slice pa n cap:=by
 rcases h with ⟨rfl,rfl⟩ | ⟨q,o,cap,cur,rfl,_⟩
 . exact ⟨none,0,rfl⟩
 . exact ⟨_,_,rfl⟩
def RowT (w:World) (B:Nat) (v:Value) (l:List UInt8) : Prop :=
 RowB w B v l \/ ∃ q cap cur m,v = .slice (some ⟨q,0,none⟩) l.length cap /\ B <= q /\ w.heap[q]? = some (.cells cur 5 m) /\ l.length <= cap /\ cap <= maxLen /\ cur.toList.take l.length=byteCells l
theorem RowT.keep {w w':World} {B:Nat} {v:Value} {l:List UInt8} (h:RowT w B v l) (hk : ∀ q,v.ownBlock=some q -> w'.heap[q]? = w.heap[q]?) : RowT w' B v l:=by
 rcases h with h | ⟨q,cap,cur,m,rfl,hb,hg,r⟩
 . exact .inl (own_keep h hk)
 . exact .inr ⟨q,cap,cur,m,rfl,hb,(hk q rfl).trans hg,r⟩
theorem RowT.lt {w : World} {B : Nat} {v : Value} {l : List UInt8} (h : RowT w B v l) : ∀ q, v.ownBlock = some q → B ≤ q ∧ q < w.heap.size := by
 rcases h with h | ⟨q,cap,cur,m,rfl,hb,hg,r⟩
 . exact World.ownsRow.lt h
 . intro q' hq
   cases hq
   exact ⟨hb, by rcases Nat.lt_or_ge q w.heap.size with h | h
                 . exact h
                 . rw [Array.getElem?_eq_none (by omega)] at hg; cases hg⟩
def FeedE (w:World) (B:Nat) (fp:Option Nat) (fv:Value) : Prop:=(∀ q,fp=some q -> B <= q /\ q < w.heap.size) /\ ∀ q,fv.ownBlock=some q -> B <= q /\ q < w.heap.size
theorem lt_of_same {w w':World} {q:Nat} (h:w'.heap[q]? = w.heap[q]?) (hq:q < w.heap.size) : q < w'.heap.size:=by
 rcases Nat.lt_or_ge q w'.heap.size with k | k
 . exact k
 . rw [Array.getElem?_eq_none k,Array.getElem?_eq_getElem hq] at h
   cases h
theorem FeedE.keep {w w':World} {B:Nat} {fp:Option Nat} {fv:Value} (h:FeedE w B fp fv) (hp : ∀ q,fp=some q -> w'.heap[q]? = w.heap[q]?) (hv : ∀ q,fv.ownBlock=some q -> w'.heap[q]? = w.heap[q]?) : FeedE w' B fp fv :=
 ⟨fun q e => ⟨(h.1 q e).1,lt_of_same (hp q e) (h.1 q e).2⟩,fun q e => ⟨(h.2 q e).1,lt_of_same (hv q e) (h.2 q e).2⟩⟩
theorem FeedE.lt {w:World} {B:Nat} {fp:Option Nat} {fv:Value} (h:FeedE w B fp fv) : (∀ q,fp=some q -> B <= q /\ q < w.heap.size) /\ ∀ q,fv.ownBlock=some q -> B <= q /\ q < w.heap.size:=h
theorem RowT.shape {w:World} {B:Nat} {v:Value} {l:List UInt8} (h:RowT w B v l) : ∃ pa cap,v = .slice pa l.length cap:=by
 rcases h with h | ⟨q,cap,cur,m,rfl,hb,hg,r⟩
 . exact own_shape h
 . exact ⟨_,_,rfl⟩
theorem RowT.conv {w:World} {B:Nat} {v:Value} {l:List UInt8} (h:RowT w B v l) : (convert 22 9 v).run Tryd.prog w = .ok (.string ⟨l.toArray⟩) w:=by
 rcases h with h | ⟨q,cap,cur,m,rfl,hb,hg,h1,h2,h3⟩
 . exact conv_owned' h
 . refine run_convert_bytes_back (P:=Tryd.prog) w 22 9 5 ⟨q,0,none⟩ cap l Tryd.underlying22 Tryd.underlying5 Tryd.underlying9 (fun j hj => ?_)
   have e:(⟨q,0,none⟩ : Addr).add j=⟨q,j,none⟩:=by unfold Addr.add; split <;> simp_all
   rw [e,Lib.cell_of_heap hg, <- Array.getElem?_toList]
   have e2:(cur.toList.take l.length)[j]? = (byteCells l)[j]? := by rw [h3]
   rw [List.getElem?_take,if_pos hj] at e2
   rw [e2]
   simp [byteCells,hj]
structure SCe (w:World) (D B:Nat) (f:Nat -> Nat) (n:Nat) (S:St) (R:Raw) : Prop where
 cell:w.heap[D]? = some (.cells (cells S R) 59 (0,0))
 low:B <= D
 rest:RowF w B R.rest n f
 text:RowB w B R.text S.k.text
 ref:RowB w B R.ref S.k.ref
 tag:RowT w B R.tag S.k.tag
 attrs:w.ownsRow B 61 2 R.attrs S.k.attrs.length (acells S.k.attrs)
 seen:Seen w B R.seen S.k.attrs
 attr:RowB w B R.attr S.k.attr
 val:RowB w B R.val S.k.val
 feed:FeedE w B R.fp R.fv
 apart:Apart (foot D R)
section
variable {w w':World} {D B n:Nat} {f:Nat -> Nat} {S S':St} {R:Raw}
theorem SCe.lt0 (h:SCe w D B f n S R) : D < w.heap.size:=by
 rcases Nat.lt_or_ge D w.heap.size with k | k
 . exact k
 . have:=h.cell
   rw [Array.getElem?_eq_none (by omega)] at this
   cases this
theorem SCe.lt (h:SCe w D B f n S R) : ∀ q,some q ∈ foot D R -> B <= q /\ q < w.heap.size:=by
 intro q hq
 simp only [foot,List.mem_cons,List.not_mem_nil,or_false] at hq
 rcases hq with e | e | e | e | e | e | e | e | e | e | e
 . cases e
   exact ⟨h.low,h.lt0⟩
 . exact h.feed.lt.1 q e.symm
 . exact h.feed.lt.2 q e.symm
 . exact h.rest.lt q e.symm
 . exact World.ownsRow.lt h.text q e.symm
 . exact World.ownsRow.lt h.ref q e.symm
 . exact RowT.lt h.tag q e.symm
 . exact World.ownsRow.lt h.attrs q e.symm
 . exact h.seen.lt q e.symm
 . exact World.ownsRow.lt h.attr q e.symm
 . exact World.ownsRow.lt h.val q e.symm
theorem SCe.keep (h:SCe w D B f n S R) (hk : ∀ q,some q ∈ foot D R -> w'.heap[q]? = w.heap[q]?) : SCe w' D B f n S R :=
 ⟨(hk D (by simp [foot])).trans h.cell,h.low,h.rest.keep fun q e => hk q (by simp [foot,e]),own_keep h.text fun q e => hk q (by simp [foot,e]),own_keep h.ref fun q e => hk q (by simp [foot,e]),RowT.keep h.tag fun q e => hk q (by simp [foot,e]),
   own_keep h.attrs fun q e => hk q (by simp [foot,e]),h.seen.keep fun q e => hk q (by simp [foot,e]),own_keep h.attr fun q e => hk q (by simp [foot,e]),own_keep h.val fun q e => hk q (by simp [foot,e]),h.feed.keep (fun q e => hk q (by simp [foot,e])) (fun q e => hk q (by simp [foot,e])),h.apart⟩
theorem SCe.below (h:SCe w D B f n S R) (hb:Below w.heap.size w w') : SCe w' D B f n S R:=h.keep fun q hq => hb.block q (h.lt q hq).2
theorem SCe.to_below (h:SCe w D B f n S R) {R':Raw} (ht:To D R w R' w') : Below B w w' :=
 ⟨ht.mv.os,ht.mv.tape,ht.mv.output,ht.mv.size,fun k hk => by
  rcases Nat.lt_or_ge k w.heap.size with h1 | h1
  . exact ht.mv.block k h1 fun hm => by have:=(h.lt k hm).1; omega
  . have:=h.low
    have:=h.lt0
    omega⟩
theorem SCe.c (h:SCe w D B f n S R) (i:Nat) (v:Value) (hv:(cells S R)[i]? = some v) : w.cell? ⟨D,i,none⟩ = some v:=by
 rw [Lib.cell_of_heap h.cell]
 exact hv
theorem SCe.c0 (h:SCe w D B f n S R) : w.cell? ⟨D,0,none⟩ = some (R.rest):=h.c 0 _ rfl
theorem SCe.c1 (h:SCe w D B f n S R) : w.cell? ⟨D,1,none⟩ = some (.int .i64 (S.pl.1:Nat)):=h.c 1 _ rfl
theorem SCe.c2 (h:SCe w D B f n S R) : w.cell? ⟨D,2,none⟩ = some (.int .i64 (S.pl.2.1:Nat)):=h.c 2 _ rfl
theorem SCe.c3 (h:SCe w D B f n S R) : w.cell? ⟨D,3,none⟩ = some (.int .i64 (S.pl.2.2.1:Nat)):=h.c 3 _ rfl
theorem SCe.c4 (h:SCe w D B f n S R) : w.cell? ⟨D,4,none⟩ = some (.int .i64 (S.pl.2.2.2:Nat)):=h.c 4 _ rfl
theorem SCe.c5 (h:SCe w D B f n S R) : w.cell? ⟨D,5,none⟩ = some (.bool S.ended):=h.c 5 _ rfl
theorem SCe.c6 (h:SCe w D B f n S R) : w.cell? ⟨D,6,none⟩ = some (.int .i64 (S.inn:Nat)):=h.c 6 _ rfl
theorem SCe.c7 (h:SCe w D B f n S R) : w.cell? ⟨D,7,none⟩ = some (.string ⟨S.nm.toArray⟩):=h.c 7 _ rfl
theorem SCe.c9 (h:SCe w D B f n S R) : w.cell? ⟨D,9,none⟩ = some (.int .i64 (S.k.how:Nat)):=h.c 9 _ rfl
theorem SCe.c10 (h:SCe w D B f n S R) : w.cell? ⟨D,10,none⟩ = some (.int .i64 (R.bp.1:Nat)):=h.c 10 _ rfl
theorem SCe.c11 (h:SCe w D B f n S R) : w.cell? ⟨D,11,none⟩ = some (.int .i64 (R.bp.2.1:Nat)):=h.c 11 _ rfl
theorem SCe.c12 (h:SCe w D B f n S R) : w.cell? ⟨D,12,none⟩ = some (.int .i64 (R.bp.2.2.1:Nat)):=h.c 12 _ rfl
theorem SCe.c13 (h:SCe w D B f n S R) : w.cell? ⟨D,13,none⟩ = some (.int .i64 (R.bp.2.2.2:Nat)):=h.c 13 _ rfl
theorem SCe.c14 (h:SCe w D B f n S R) : w.cell? ⟨D,14,none⟩ = some (.pointer (R.fp.map fun d => ⟨d,0,none⟩)):=h.c 14 _ rfl
theorem SCe.c16 (h:SCe w D B f n S R) : w.cell? ⟨D,16,none⟩ = some (.int .i64 (S.k.ps:Nat)):=h.c 16 _ rfl
theorem SCe.c18 (h:SCe w D B f n S R) : w.cell? ⟨D,18,none⟩ = some (R.text):=h.c 18 _ rfl
theorem SCe.c19 (h:SCe w D B f n S R) : w.cell? ⟨D,19,none⟩ = some (.int .i64 (S.k.tf:Nat)):=h.c 19 _ rfl
theorem SCe.c22 (h:SCe w D B f n S R) : w.cell? ⟨D,22,none⟩ = some (.int .i64 (S.k.tg:Nat)):=h.c 22 _ rfl
theorem SCe.c23 (h:SCe w D B f n S R) : w.cell? ⟨D,23,none⟩ = some (.int .i64 (S.k.kind:Nat)):=h.c 23 _ rfl
theorem SCe.c24 (h:SCe w D B f n S R) : w.cell? ⟨D,24,none⟩ = some (R.tag):=h.c 24 _ rfl
theorem SCe.c25 (h:SCe w D B f n S R) : w.cell? ⟨D,25,none⟩ = some (R.attrs):=h.c 25 _ rfl
theorem SCe.fz (h:SCe w D B f n S R) (i:Nat) : w.frozen? ⟨D,i,none⟩ = false:=Lib.frozen_of_heap h.cell i
theorem SCe.set (h:SCe w D B f n S R) (i:Nat) (u:Value) (S':St) {R':Raw} (hc:cells S' R'=(cells S R).setIfInBounds i u) (hR:foot D R'=foot D R) (hr:R'.rest=R.rest /\ R'.text=R.text /\ R'.ref=R.ref /\ R'.tag=R.tag /\ R'.attrs=R.attrs /\ R'.seen=R.seen /\ R'.attr=R.attr /\ R'.val=R.val /\ R'.fp=R.fp /\ R'.fv=R.fv)
 (hk:S'.k.text=S.k.text /\ S'.k.ref=S.k.ref /\ S'.k.tag=S.k.tag /\ S'.k.attrs=S.k.attrs /\ S'.k.attr=S.k.attr /\ S'.k.val=S.k.val) (hF:FeedE w B R.fp R.fv) : SCe (w.setCell ⟨D,i,none⟩ u) D B f n S' R':=by
 obtain ⟨r1,r2,r3,r4,r5,r6,r7,r8,r9,r10⟩:=hr
 obtain ⟨k1,k2,k3,k4,k5,k6⟩:=hk
 have hne : ∀ j q,0 < j -> (foot D R)[j]? = some (some q) -> (w.setCell ⟨D,i,none⟩ u).heap[q]? = w.heap[q]? := by
  intro j q hj hq
  refine RowKit.Below.heap_setCell _ _ _ _ fun e => ?_
  have:=h.apart 0 j q (by rw [e]; rfl) hq
  omega
 refine ⟨by rw [hc]; exact Go.Joins.block_setCell (i:=i) h.cell _,h.low, ?_, ?_, ?_, ?_, ?_, ?_, ?_, ?_, ?_,by rw [hR]; exact h.apart⟩
 . rw [r1]; exact h.rest.keep fun q e => hne 3 q (by omega) (by rw [<- e]; rfl)
 . rw [r2,k1]; exact own_keep h.text fun q e => hne 4 q (by omega) (by rw [<- e]; rfl)
 . rw [r3,k2]; exact own_keep h.ref fun q e => hne 5 q (by omega) (by rw [<- e]; rfl)
 . rw [r4,k3]; exact RowT.keep h.tag fun q e => hne 6 q (by omega) (by rw [<- e]; rfl)
 . rw [r5,k4]; exact own_keep h.attrs fun q e => hne 7 q (by omega) (by rw [<- e]; rfl)
 . rw [r6,k4]; exact h.seen.keep fun q e => hne 8 q (by omega) (by rw [<- e]; rfl)
 . rw [r7,k5]; exact own_keep h.attr fun q e => hne 9 q (by omega) (by rw [<- e]; rfl)
 . rw [r8,k6]; exact own_keep h.val fun q e => hne 10 q (by omega) (by rw [<- e]; rfl)
 . rw [r9,r10]; exact hF.keep (fun q e => hne 1 q (by omega) (by rw [<- e]; rfl)) (fun q e => hne 2 q (by omega) (by rw [<- e]; rfl))
theorem SCe.put (h:SCe w D B f n S R) (i:Nat) (u:Value) (S':St) (hc:cells S' R=(cells S R).setIfInBounds i u)
 (hk:S'.k.text=S.k.text /\ S'.k.ref=S.k.ref /\ S'.k.tag=S.k.tag /\ S'.k.attrs=S.k.attrs /\ S'.k.attr=S.k.attr /\ S'.k.val=S.k.val /\ S'.q=S.q /\ S'.e=S.e) : SCe (w.setCell ⟨D,i,none⟩ u) D B f n S' R :=
 h.set i u S' hc rfl ⟨rfl,rfl,rfl,rfl,rfl,rfl,rfl,rfl,rfl,rfl⟩ ⟨hk.1,hk.2.1,hk.2.2.1,hk.2.2.2.1,hk.2.2.2.2.1,hk.2.2.2.2.2.1⟩ h.feed
theorem SCe.drew (h:SCe w D B f n S R) : SCe w.drew D B f n S R:=h.below (Below.refl _ _).drew
theorem SC.toE (h:SC w D B f n S R) : SCe w D B f n S R:=⟨h.cell,h.low,h.rest,h.text,h.ref, .inl h.tag,h.attrs,h.seen,h.attr,h.val,h.feed.lt,h.apart⟩
end
section
variable {w:World} {D B n:Nat} {f:Nat -> Nat} {S:St} {R:Raw}
theorem isFeed_anyE (h:SCe w D B f n S R) (k:Nat) (hb:n <= 4611686018427387904) (hk:k <= n) :
 Calls Tryd.prog 60 #[.pointer (some ⟨D,0,none⟩), .int .i64 k] w fun e w' => e = .returned (.bool (decide (k < n /\ f k=10))) /\ w'=w:=by
 have c0:=h.c0
 have hs:=h.rest.sl
 clear h
 rcases hs with ⟨e,rfl⟩ | ⟨q,o,cap,e,hc,hm,hby⟩
 . rw [e] at c0
   have i1 : ¬ (k:Int) < 0:=by omega
   clear e
   go_enter Tryd.func60,Tryd.ntmps60
   go_wp2
   go_ret
   exact ⟨ret_bool (by simp),rfl⟩
 . rw [e] at c0
   by_cases hlt:k < n
   . have i1:(k:Int) < n:=by omega
     have cb:=hby k hlt
     clear e hby
     go_enter Tryd.func60,Tryd.ntmps60
     go_wp2
     go_ret
     refine ⟨ret_bool ?_,rfl⟩
     rw [Bool.eq_iff_iff]
     simp
     omega
   . have i1 : ¬ (k:Int) < n:=by omega
     clear e hby
     go_enter Tryd.func60,Tryd.ntmps60
     go_wp2
     go_ret
     exact ⟨ret_bool (by simp),rfl⟩
theorem placeOf_someE (h:SCe w D B f n S R) (a:Nat) (hf : ∀ j,f j < 256) (ha:a <= n) (hbig:n <= 4611686018427387904) (q o cap:Nat) (er:R.rest = .slice (some ⟨q,o,none⟩) n cap) (hc:n <= cap) (hm0:cap <= maxLen) (hp:Bytes w q o n f)
 (b1:S.pl.1 + n < 4611686018427387904) (b2:S.pl.2.1 + n < 4611686018427387904) (b3:S.pl.2.2.1 + n < 4611686018427387904) (b4:S.pl.2.2.2 + n < 4611686018427387904) :
 Calls Tryd.prog 40 #[.pointer (some ⟨D,0,none⟩), .int .i64 a] w fun e w' => e = .returned (plaV (pla S.pl f n a)) /\ Below w.heap.size w w':=by
 have hm:cap <= 9223372036854775807:=by unfold maxLen at hm0; omega
 have c0:=h.c0
 rw [er] at c0
 have c1:=h.c1
 have c2:=h.c2
 have c3:=h.c3
 have c4:=h.c4
 have hlD:=h.lt0
 have hcv : ∀ o1 o2,(convert 22 9 (.slice (some ⟨q,o,none⟩) a cap)).run Tryd.prog ((w.alloc o1).alloc o2) = .ok (.string (Rn.arr f a)) ((w.alloc o1).alloc o2):=fun o1 o2 =>
  bytes_string _ q o a cap f hf (((hp.le ha).below ((Below.refl w.heap.size w).alloc (Nat.le_refl _) o1) (Nat.le_refl _)).below ((Below.refl (w.alloc o1).heap.size (w.alloc o1)).alloc (Nat.le_refl _) o2) (Nat.le_refl _))
 have cI : ∀ (k:Nat) (_:k <= n) o1 o2 o3,_:=fun k hk o1 o2 o3 => isFeed_anyE (((h.below ((Below.refl w.heap.size w).alloc (Nat.le_refl _) o1)).below ((Below.refl _ (w.alloc o1)).alloc (Nat.le_refl _) o2)).below ((Below.refl _ ((w.alloc o1).alloc o2)).alloc (Nat.le_refl _) o3)) k hbig hk
 have i2:(a:Int) <= cap:=by omega
 clear h er
 unfold pla plaV
 generalize S.pl.1=p1 at *
 generalize S.pl.2.1=p2 at *
 generalize S.pl.2.2.1=p3 at *
 generalize S.pl.2.2.2=p4 at *
 obtain ⟨Z,hZ⟩ : ∃ Z,Rn.plcFrom f n a a 0 p2 p3 p4=Z:=⟨_,rfl⟩
 rw [hZ]
 have HZ:=hide' hZ
 clear hZ
 go_enter Tryd.func40,Tryd.ntmps40
 go_wp2
 go_loopw [] (fun wr => ∃ (pos fuel rn ln co:Nat),wr=plW w (Rn.arr f a) pos (p1 + a) rn ln co /\ pos <= a /\ a <= pos + fuel /\ rn <= p2 + pos /\ ln <= p3 + pos /\ co <= p4 + pos + 1 /\ Rn.plcFrom f n a fuel pos rn ln co=Z) (fun wr => a - wr.iterPos (w.heap.size + 2))
 case atStart => exact ⟨0,a,p2,p3,p4,by unfold plW; go_num,by omega,by omega,by omega,by omega,by omega,HZ.out⟩
 case round =>
  obtain ⟨pos,fuel,rn,ln,co,rfl,hpa,hfu,hrn,hln,hco,hpl⟩:=hrel
  have hsz:(Rn.arr f a).size=a:=Rn.arr_size f a
  by_cases hlt:pos < a
  . obtain ⟨m,rfl⟩ : ∃ m,fuel=m + 1:=⟨fuel - 1,by omega⟩
    have hg : ∀ j,Rn.off f pos j < 256:=fun j => hf _
    obtain ⟨hd1,hd2,hd3⟩:=Rn.dec_pos (Rn.off f pos) (a - pos) hg (by omega)
    have hd4:=Rn.dec_lt (Rn.off f pos) (a - pos) hg (by omega)
    have hnx:=fun W hk ty => next_alloc W (w.heap.size + 1 + 1) hk f a pos hf hlt ty
    have cE : ∀ o1 o2 o3,_:=fun o1 o2 o3 => cI (pos + 1) (by omega) o1 o2 o3
    unfold Rn.plcFrom at hpl
    rw [if_neg (by omega)] at hpl
    unfold plW
    clear hcv hp hg cI
    generalize (Rn.dec (Rn.off f pos) (a - pos)).1=r at *
    generalize (Rn.dec (Rn.off f pos) (a - pos)).2=d at *
    by_cases h10:r=10
    . subst h10
      rw [show Rn.lineEnd f n pos 10=true by simp [Rn.lineEnd]] at hpl
      have HP:Hid (_=_):=hpl
      clear hpl cE
      go_wp2_with fail
      go_roundw
      case rel => exact ⟨pos + d,m,rn + 1,ln + 1,1,by go_num,by omega,by omega,by omega,by omega,by omega,HP.out⟩
      case measure => rw [iterPos_alloc _ _ _ _ (by simp),iterPos_alloc _ _ _ _ (by simp)]; omega
    . have h10':((r:Int) == 10)=false:=by simp; omega
      by_cases h13:r=13
      . subst h13
        by_cases hle:pos + 1 < n /\ f (pos + 1)=10
        . rw [show Rn.lineEnd f n pos 13=false by simp [Rn.lineEnd]; omega] at hpl
          rw [show decide (pos + 1 < n /\ f (pos + 1)=10)=true by simpa using hle] at cE
          have HP:Hid (_=_):=hpl
          clear hpl hle h10
          go_wp2_with fail
          refine (cE _ _ _).mono ?_
          rintro e w1 ⟨rfl,rfl⟩
          go_wp2_with fail
          go_roundw
          case rel => exact ⟨pos + d,m,rn + 1,ln,co + 1,by go_num,by omega,by omega,by omega,by omega,by omega,HP.out⟩
          case measure => rw [iterPos_alloc _ _ _ _ (by simp),iterPos_alloc _ _ _ _ (by simp)]; omega
        . rw [show Rn.lineEnd f n pos 13=true by simp [Rn.lineEnd]; omega] at hpl
          rw [show decide (pos + 1 < n /\ f (pos + 1)=10)=false by simpa using hle] at cE
          have HP:Hid (_=_):=hpl
          clear hpl hle h10
          go_wp2_with fail
          refine (cE _ _ _).mono ?_
          rintro e w1 ⟨rfl,rfl⟩
          go_wp2_with fail
          go_roundw
          case rel => exact ⟨pos + d,m,rn + 1,ln + 1,1,by go_num,by omega,by omega,by omega,by omega,by omega,HP.out⟩
          case measure => rw [iterPos_alloc _ _ _ _ (by simp),iterPos_alloc _ _ _ _ (by simp)]; omega
      . have h13':((r:Int) == 13)=false:=by simp; omega
        rw [show Rn.lineEnd f n pos r=false by simp [Rn.lineEnd,h10,h13]] at hpl
        have HP:Hid (_=_):=hpl
        clear hpl cE h10 h13
        go_wp2_with fail
        go_roundw
        case rel => exact ⟨pos + d,m,rn + 1,ln,co + 1,by go_num,by omega,by omega,by omega,by omega,by omega,HP.out⟩
        case measure => rw [iterPos_alloc _ _ _ _ (by simp),iterPos_alloc _ _ _ _ (by simp)]; omega
  . obtain rfl:pos=a:=by omega
    rw [Rn.plcFrom_end _ _ _ _ _ _ _ _ (Nat.le_refl _)] at hpl
    have HP:Hid (_=_):=hpl
    have hnx:=fun W hk ty => next_alloc_end W (w.heap.size + 1 + 1) hk f pos pos hlt ty
    clear hpl hcv hp cI
    unfold plW
    go_wp2_with fail
    refine bodyPost_ret (v := .agg #[.int .i64 (p1 + pos:Nat), .int .i64 rn, .int .i64 ln, .int .i64 co]) (by simp [results,Tryd.results40,go_sem]) rfl ⟨by rw [<- HP.out], ?_⟩
    exact (((Below.refl w.heap.size w).alloc (Nat.le_refl _) _).alloc (by simp) _).alloc (by simp; omega) _
theorem placeOf_nilE (h:SCe w D B f 0 S R) (er:R.rest = .slice none 0 0) (b1:S.pl.1 < 4611686018427387904) :
 Calls Tryd.prog 40 #[.pointer (some ⟨D,0,none⟩), .int .i64 0] w fun e w' => e = .returned (plaV (pla S.pl f 0 0)) /\ Below w.heap.size w w':=by
 have c0:=h.c0
 rw [er] at c0
 have c1:=h.c1
 have c2:=h.c2
 have c3:=h.c3
 have c4:=h.c4
 have hlD:=h.lt0
 have hcv:=conv_nil f
 clear h er
 unfold pla plaV
 rw [Rn.plcFrom_end _ _ _ _ _ _ _ _ (Nat.le_refl _)]
 generalize S.pl.1=p1 at *
 generalize S.pl.2.1=p2 at *
 generalize S.pl.2.2.1=p3 at *
 generalize S.pl.2.2.2=p4 at *
 go_enter Tryd.func40,Tryd.ntmps40
 go_wp2
 go_loopw [] (fun wr => wr=plW w (Rn.arr f 0) 0 p1 p2 p3 p4) (fun _ => 0)
 case atStart => unfold plW; go_num
 case round =>
  subst hrel
  have hnx:=fun W hk ty => next_alloc_end W (w.heap.size + 1 + 1) hk f 0 0 (Nat.lt_irrefl 0) ty
  clear hcv
  unfold plW
  go_wp2_with fail
  refine bodyPost_ret (v := .agg #[.int .i64 p1, .int .i64 p2, .int .i64 p3, .int .i64 p4]) (by simp [results,Tryd.results40,go_sem]) rfl ⟨rfl, ?_⟩
  exact (((Below.refl w.heap.size w).alloc (Nat.le_refl _) _).alloc (by simp) _).alloc (by simp; omega) _
theorem placeOf_anyE (h:SCe w D B f n S R) (a:Nat) (hf : ∀ j,f j < 256) (ha:a <= n) (hbig:n <= 1152921504606846976) (hb:S.pl.1 <= 1152921504606846976 /\ S.pl.2.1 <= 1152921504606846976 /\ S.pl.2.2.1 <= 1152921504606846976 /\ S.pl.2.2.2 <= 1152921504606846976) :
 Calls Tryd.prog 40 #[.pointer (some ⟨D,0,none⟩), .int .i64 a] w fun e w' => e = .returned (plaV (pla S.pl f n a)) /\ Below w.heap.size w w':=by
 rcases h.rest.sl with ⟨e,rfl⟩ | ⟨q,o,cap,e,hc,hm,hby⟩
 . obtain rfl:a=0:=by omega
   exact placeOf_nilE h e (by omega)
 . exact placeOf_someE h a hf ha (by omega) q o cap e hc hm hby (by omega) (by omega) (by omega) (by omega)
end
section
variable {w:World} {D B n:Nat} {f:Nat -> Nat} {S:St} {R:Raw} {d:Nat}
structure Wend (w:World) (D B:Nat) (f:Nat -> Nat) (n:Nat) (S:St) (R:Raw) (d:Nat) (w':World) (k:Wk) (x:Nat) (R':Raw) : Prop where
 sc:SCe w' D B f n (Stt S x k) R'
 go:To D R w R' w'
 tb:Tb B w'
 bw:B <= w'.heap.size
 fp:R'.fp=some d
 psn:k.ps <= n
 bad:k.how=2 -> R'.bp=pla S.pl f n k.bad
 rest:R'.rest=R.rest
 more:k.how ≠ 0 -> SC w' D B f n (Stt S x k) R' /\ Rdy w' B n f (Stt S x k) R' d
theorem Went.toEnd {w':World} {k:Wk} {x:Nat} {R':Raw} (h:Went w D B f n S R d w' k x R') : Wend w D B f n S R d w' k x R' :=
 ⟨h.sc.toE,h.go,h.rdy.tb,h.rdy.bw,h.rdy.fp,Nat.le_trans h.rdy.qe h.rdy.fn,h.bad,h.rest,fun _ => ⟨h.sc,h.rdy⟩⟩
def EndE (w:World) (D B:Nat) (f:Nat -> Nat) (n:Nat) (S:St) (R:Raw) (d:Nat) (e:Ending) (w':World) : Prop :=
 ∃ x k R',e = .returned (.bool false) /\ Wend w D B f n S R d w' k x R' /\ Steps S.inn S.nm f n S.k k /\ Ends S.inn S.nm f n k
theorem conv_name (l:List UInt8) (w:World) (B:Nat) (hB:B <= w.heap.size) (hbig:l.length <= 70368744177664) :
 ∃ cap W,(convert 9 22 (.string ⟨l.toArray⟩)).run Tryd.prog w = .ok (.slice (some ⟨w.heap.size,0,none⟩) l.length cap) W /\ RowT W B (.slice (some ⟨w.heap.size,0,none⟩) l.length cap) l /\ Below w.heap.size w W:=by
 have h:=Lib.run_convert_string_bytes (P:=Tryd.prog) w 9 22 5 ⟨l.toArray⟩ Tryd.underlying9 Tryd.underlying22 Tryd.underlying5
 have es:(⟨l.toArray⟩ : ByteArray).size=l.length:=by simp [ByteArray.size]
 rw [es] at h
 refine ⟨_,_,h, .inr ⟨w.heap.size,_,_,_,rfl,hB,Lib.bytesWorld_at_new w _ _, ?_, ?_, ?_⟩,below_bytesWorld w 5 _⟩
 . exact grownCap_ge _ _ _ _
 . exact grownCap_le_maxLen _ _ _ _ (by unfold maxLen; omega)
 . simp [Lib.bytesCells,byteCells]
theorem SCe.tag' (h:SCe w D B f n S R) {w1:World} {v':Value} {l':List UInt8} (hg:Grew w R.tag w1 v') (hrow:RowT w1 B v' l') : SCe (w1.setCell ⟨D,24,none⟩ v') D B f n { S with k := { S.k with tag:=l' } } { R with tag:=v' }:=by
 have hne : ∀ j q,0 < j -> j ≠ 6 -> (foot D R)[j]? = some (some q) -> (w1.setCell ⟨D,24,none⟩ v').heap[q]? = w.heap[q]? := by
  intro j q hj hj2 hq
  refine (RowKit.Below.heap_setCell _ _ _ _ fun e => ?_).trans (hg.block q (h.lt q (List.mem_of_getElem? hq)).2 fun e => ?_)
  . have:=h.apart 0 j q (by rw [e]; rfl) hq
    omega
  . exact hj2 (h.apart j 6 q hq (by rw [<- e]; rfl))
 have hD:w1.heap[D]? = w.heap[D]? := hg.block D h.lt0 fun e => by have:=h.apart 0 6 D rfl (by rw [<- e]; rfl); omega
 refine ⟨Go.Joins.block_setCell (i:=24) (hD.trans h.cell) _,h.low,h.rest.keep fun q e => hne 3 q (by omega) (by omega) (by rw [<- e]; rfl),own_keep h.text fun q e => hne 4 q (by omega) (by omega) (by rw [<- e]; rfl),
  own_keep h.ref fun q e => hne 5 q (by omega) (by omega) (by rw [<- e]; rfl),RowT.keep hrow fun q e => RowKit.Below.heap_setCell _ _ _ _ fun e1 => by
   have e2:v'.ownBlock=some D:=(show v'.ownBlock=some q from e).trans (congrArg some e1)
   rcases hg.own with k1 | k1
   . have:=h.apart 0 6 D rfl (by rw [<- e2,k1]; rfl); omega
   . have:=k1 D e2; have:=h.lt0; omega,
  own_keep h.attrs fun q e => hne 7 q (by omega) (by omega) (by rw [<- e]; rfl),h.seen.keep fun q e => hne 8 q (by omega) (by omega) (by rw [<- e]; rfl),own_keep h.attr fun q e => hne 9 q (by omega) (by omega) (by rw [<- e]; rfl),own_keep h.val fun q e => hne 10 q (by omega) (by omega) (by rw [<- e]; rfl),
  h.feed.keep (fun q e => hne 1 q (by omega) (by omega) (by rw [<- e]; rfl)) (fun q e => hne 2 q (by omega) (by omega) (by rw [<- e]; rfl)), ?_⟩
 refine h.apart.set 6 v'.ownBlock fun q e j hq => ?_
 rcases hg.own with k1 | k1
 . exact h.apart j 6 q hq (by rw [<- e,k1]; rfl)
 . have:=(h.lt q (List.mem_of_getElem? hq)).2
   have:=k1 q e
   omega
theorem whole_anyE (h:SCe w D B f n S R) (k:Nat) :
 Calls Tryd.prog 55 #[.pointer (some ⟨D,0,none⟩), .int .i64 k] w fun e w' => e = .returned (.bool false) /\ SCe w' D B f n (S.wk (S.k.whole k)) R /\ To D R w R w':=by
 have c9:=h.c9
 have f9:=h.fz 9
 have c23:=h.c23
 have f23:=h.fz 23
 have H:=hide' h
 clear h
 go_enter Tryd.func55,Tryd.ntmps55
 go_wp2
 go_ret
 exact ⟨rfl,(H.out.put 23 _ { S with k := { S.k with kind:=k } } rfl ⟨rfl,rfl,rfl,rfl,rfl,rfl,rfl,rfl⟩).put 9 _ _ rfl ⟨rfl,rfl,rfl,rfl,rfl,rfl,rfl,rfl⟩,((To.refl _ _ _).setCell 23 _ rfl).setCell 9 _ rfl⟩
theorem endTag_any (h:SC w D B f n S R) (hy:Rdy w B n f S R d) (ok:Ok S.nm S.fed S.k) (hst:S.k.st=18 \/ S.k.st=19) (hCR:CRs) (hnm:S.nm.length <= 70368744177664) :
 Calls Tryd.prog 38 #[.pointer (some ⟨D,0,none⟩)] w (EndE w D B f n S R d):=by
 have c8:=h.c8
 have c16:=h.c16
 have c22:=h.c22
 have hst0:Went w D B f n S R d w S.k S.fed R:=by
  have e:Stt S S.fed S.k=S:=by
   have q1:=hy.q
   have q2:=hy.e
   unfold Stt
   cases S
   simp only at q1 q2
   subst q1 q2
   rfl
  exact ⟨by rw [e]; exact h,To.refl _ _ _,by rw [e]; exact hy,fun k => by have:=ok.how; omega,rfl⟩
 have HST:=hide' hst0
 have OK:=hide' ok
 have HCR:=hide' hCR
 have HNM:=hide' hnm
 clear h hy hst0 ok hCR hnm
 obtain ⟨Jw,hJw⟩ : ∃ Jw:Nat -> World -> Prop,Jw=fun st w' => ∃ x k R',Went w D B f n S R d w' k x R' /\ Steps S.inn S.nm f n S.k (k.turn st) /\ Ok S.nm x (k.turn st) /\ S.k.ps <= k.ps:=⟨_,rfl⟩
 have HJ:=hide' hJw
 obtain ⟨Jn,hJn⟩ : ∃ Jn:Option Value -> World -> Prop,Jn=fun o w' => ∃ x k R',Went w D B f n S R d w' k x R' /\ Steps S.inn S.nm f n S.k k /\ Ok S.nm x k /\ S.k.ps <= k.ps /\ k.st=18 /\ o=some (.int .i64 ((k.ps - k.tg - 2:Nat) : Int)):=⟨_,rfl⟩
 have HJN:=hide' hJn
 clear hJn
 clear hJw
 go_enter Tryd.func38,Tryd.ntmps38
 go_wp2
 refine (fun p2 => (fun p1 => wp_scope2 0 1 (fun a w' => a.defers = [] /\ a.tmps.size=101 /\ a.tmps[0]? = some (.pointer (some ⟨D,0,none⟩)) /\ Jw 19 w') (fun a w' => a.defers = [] /\ a.tmps.size=101 /\ a.tmps[0]? = some (.pointer (some ⟨D,0,none⟩)) /\ Jn a.tmps[5]? w') (fun _ w' => 2 * (n - psOf w' D)) (fun _ w' => 2 * (n - psOf w' D) + 1) (by decide) (by decide) rfl rfl ?_ p1 p2) ?_) ?_
 . rcases hst with e | e
   . have hj : ∀ m,Jn (some (.int .i64 ((S.k.ps - S.k.tg - 2:Nat) : Int))) (w.drewN m):=by
      intro m
      rw [HJN.out]
      exact ⟨S.fed,S.k,R,HST.out.put (HST.out.sc.drewN m) ((To.refl _ _ _).drewN m) rfl OK.out.how rfl rfl, .refl _,OK.out,Nat.le_refl _,e,rfl⟩
     have hnam:=OK.out.nam e
     have hbg:=HST.out.rdy.big
     have hpn:S.k.ps <= n:=Nat.le_trans HST.out.rdy.qe HST.out.rdy.fn
     have w1:IntKind.i64.wrap ((S.k.ps:Int) - (S.k.tg:Int))=(S.k.ps:Int) - (S.k.tg:Int):=by rw [IntKind.wrap_i64]; omega
     have w2:IntKind.i64.wrap ((S.k.ps:Int) - (S.k.tg:Int) - 2)=(S.k.ps:Int) - (S.k.tg:Int) - 2:=by rw [IntKind.wrap_i64]; omega
     have w3:((S.k.ps - S.k.tg - 2:Nat) : Int)=(S.k.ps:Int) - (S.k.tg:Int) - 2:=by omega
     rw [w3] at hj
     rw [e] at c8
     have HJJ:=hide' hj
     have HP2:=hide' p2
     clear hj e p1 p2 hnam w3
     go_wp2_with fail
     go_quiet (fail)
     go_wp2_with fail
     refine wp_label ?_
     rename_i hK
     refine hK _ _ ?_
     exact wp_mono (HP2.out _ _ ⟨rfl,rfl,rfl,HJJ.out nq⟩) (jumps2_mono (fun _ _ h => h.1) (fun _ _ h => h.1))
   . have hj : ∀ m,Jw 19 (w.drewN m):=by
      intro m
      rw [HJ.out]
      have e0:S.k.turn 19=S.k:=by unfold Wk.turn; rw [<- e]
      exact ⟨S.fed,S.k,R,HST.out.put (HST.out.sc.drewN m) ((To.refl _ _ _).drewN m) rfl OK.out.how rfl rfl,by rw [e0]; exact .refl _,by rw [e0]; exact OK.out,Nat.le_refl _⟩
     rw [e] at c8
     have HJJ:=hide' hj
     clear hj e p1 p2
     go_wp2_with fail
     go_quiet (fail)
     go_wp2_with fail
     go_step3
     exact .inl ⟨rfl,rfl,rfl,rfl,HJJ.out nq⟩
 . rintro ⟨tm,df⟩ W ⟨q1,q2,q3,hJ⟩
   simp only at q1 q2 q3
   subst q1
   revert q3
   revert tm
   refine frame101 ?_
   intro v0 v1 v2 v3 v4 v5 v6 v7 v8 v9 v10 v11 v12 v13 v14 v15 v16 v17 v18 v19 v20 v21 v22 v23 v24 v25 v26 v27 v28 v29 v30 v31 v32 v33 v34 v35 v36 v37 v38 v39 v40 v41 v42 v43 v44 v45 v46 v47 v48 v49 v50 v51 v52 v53 v54 v55 v56 v57 v58 v59 v60 v61 v62 v63 v64 v65 v66 v67 v68 v69 v70 v71 v72 v73 v74 v75 v76 v77 v78 v79 v80 v81 v82 v83 v84 v85 v86 v87 v88 v89 v90 v91 v92 v93 v94 v95 v96 v97 v98 v99 v100 q3
   have q4:v0 = .pointer (some ⟨D,0,none⟩):=by simpa using q3
   subst q4
   clear q3
   rw [HJ.out] at hJ
   obtain ⟨x,k,R1,hW,hSt,hOk,hps⟩:=hJ
   have HPSW:Hid (psOf W D=k.ps):=psOf_eq hW.sc.c16
   have d8:=hW.sc.c8
   have g8:=hW.sc.fz 8
   have hW1:=hW.put (hW.sc.put 8 (.int .i64 19) (Stt S x (k.turn 19)) rfl ⟨rfl,rfl,rfl,rfl,rfl,rfl,rfl,rfl⟩) ((To.refl _ _ _).setCell 8 _ rfl) rfl hOk.how rfl rfl
   clear hW
   have cN:=next_any hW1.sc hW1.rdy hOk.how 1 [62] (fun _ => HCR.out _ _ (by simp) (pk_scal _ _ _))
   have hsg:sgn [62] = [62]:=rfl
   rw [hsg] at cN
   obtain ⟨v,hv⟩ : ∃ v,nx f n (k.turn 19).ps (1:Nat) [62]=v:=⟨_,rfl⟩
   have hst2:step S.inn S.nm f n (k.turn 19)=onNx v (k.turn 19) fun r s => if r=62 then { s.whole 2 with tag:=S.nm } else s:=by
    rw [<- hv]
    rfl
   have hv':nx f n (Stt S x (k.turn 19)).k.ps ((1:Nat) : Int) [62]=v:=hv
   rw [hv'] at cN
   have HPOS:Hid (v.1=0 -> 0 < v.2.2):=fun e => by rw [<- hv] at e ⊢; exact nx_pos e
   have HONE:Hid (v.1=0 -> v.2.1 < 128 -> v.2.1 ≠ 10 -> v.2.2=1):=fun e1 e2 e3 => by rw [<- hv] at e1 e2 e3 ⊢; exact nx_one e1 e2 e3
   have HSC:Hid (v.1=0 -> Rn.scal v.2.1):=fun e => by rw [<- hv] at e ⊢; exact nx_scal e
   have HW1:=hide' hW1
   have HSt:=hide' hSt
   have HOk:=hide' hOk
   have HST2:=hide' hst2
   have CN:=hide' cN
   clear hW1 hSt hOk hv hv' hst2 hsg cN
   go_wp2_with fail
   refine CN.out.mono ?_
   rintro e W2 ⟨hE,x2,R2,hW2,hx2⟩
   have hWW:=HW1.out.trans hW2
   obtain ⟨v1',v2',v3'⟩:=v
   unfold NxE at hE
   simp only at hE hx2
   clear CN hW2 d8 g8
   have hc0:v1'=0 \/ v1' ≠ 0:=by omega
   rcases hc0 with c0 | c0
   . subst c0
     rw [if_pos rfl] at hE
     subst hE
     have hk1:nxK (0,v2',v3') (Stt S x (k.turn 19)).k=(k.turn 19).took v3':=by simp [nxK]; rfl
     rw [hk1] at hWW
     have hpos:0 < v3':=HPOS.out rfl
     have o2:k.text.length <= 4 * k.ps:=HOk.out.text
     have o3:k.tag.length <= 4 * k.ps:=HOk.out.tag
     have o4:k.attr.length <= 4 * k.ps:=HOk.out.attr
     have o5:k.val.length <= 4 * k.ps:=HOk.out.val
     have o6:k.ref.length <= k.ps:=HOk.out.ref
     have o7:k.ct <= k.ps:=HOk.out.ct
     have o8:k.attrs.length <= k.ps:=HOk.out.attrs
     have hbig:=HW1.out.rdy.big
     have hstep2:=HST2.out
     simp only [onNx,if_true] at hstep2
     have hle:k.ps + v3' <= n:=Nat.le_trans hWW.rdy.qe hWW.rdy.fn
     by_cases r62:v2'=62
     . subst r62
       rw [if_pos rfl] at hstep2
       have d7:=hWW.sc.c7
       have d24:=hWW.sc.c24
       have g24:=hWW.sc.fz 24
       obtain ⟨cap9,W4,hcv,hrow,hbel⟩:=conv_name S.nm W2 B hWW.rdy.bw HNM.out
       have hg:Grew W2 R2.tag W4 (.slice (some ⟨W2.heap.size,0,none⟩) S.nm.length cap9):=⟨hbel.os,hbel.tape,hbel.output,hbel.size,fun i hi _ => hbel.block i hi, .inr (fun q e => by cases e; exact Nat.le_refl _)⟩
       have hS5:=hWW.sc.toE.tag' hg hrow
       have hT5:=To.tag' (D:=D) hg
       have e24:W4.cell? ⟨D,24,none⟩ = some R2.tag:=(World.cell?_of_block (a:=⟨D,24,none⟩) (hbel.block D hWW.sc.lt0)).trans d24
       have z24:W4.frozen? ⟨D,24,none⟩ = false:=(World.frozen?_of_block (a:=⟨D,24,none⟩) (hbel.block D hWW.sc.lt0)).trans g24
       have cT:=whole_anyE hS5 2
       have HWa:=hide' hWW
       have HCT:=hide' cT
       have HS2:=hide' hstep2
       have HS5:=hide' hS5
       have HT5:=hide' hT5
       clear hWW cT hstep2 hg hrow hbel hS5 hT5 d24 g24
       dsimp only [Stt] at d7
       go_wp2_with fail
       refine HCT.out.mono ?_
       rintro e W9 ⟨rfl,hS3,hTo3⟩
       have hfin:EndE w D B f n S R d (.returned (.bool false)) W9:=by
        refine ⟨x2, { ((k.turn 19).took v3').whole 2 with tag:=S.nm },_,rfl,⟨hS3,(HWa.out.go.trans HT5.out).trans hTo3, ?_, ?_,HWa.out.rdy.fp,Nat.le_trans HWa.out.rdy.qe HWa.out.rdy.fn,fun h => ?_,HWa.out.rest,fun h => ?_⟩,HSt.out.trans (.one HOk.out.how HS2.out), ?_⟩
        . exact HWa.out.rdy.tb.to (HWa.out.sc.to_below (HT5.out.trans hTo3))
        . exact Nat.le_trans HWa.out.rdy.bw (HT5.out.trans hTo3).mv.size
        . simp [Wk.whole] at h
        . simp [Wk.whole] at h
        . left
          simp [Wk.whole]
       have HFIN:=hide' hfin
       clear hfin hS3 hTo3 HCT HWa HS5 HT5
       go_wp2_with fail
       simp only [jumps2]
       exact bodyPost_ret (v := .bool false) (by simp [results,Tryd.results38,go_sem]) rfl HFIN.out
     . rw [if_neg r62] at hstep2
       have i62:((v2':Int) == 62)=false:=by simp; omega
       have hok:Ok S.nm x2 (((k.turn 19).took v3').turn 19):=by
        refine ⟨HOk.out.how, ?_, ?_, ?_, ?_, ?_, ?_, ?_, ?_, ?_, ?_, ?_, ?_, ?_⟩
        all_goals (simp only [Wk.took,Wk.turn])
        all_goals omega
       have hj:Jw 19 W2:=by
        rw [HJ.out]
        exact ⟨x2,_,R2,hWW,HSt.out.trans (.one HOk.out.how hstep2),hok,by show S.k.ps <= k.ps + v3'; omega⟩
       have hmu:2 * (n - psOf W2 D) < 2 * (n - psOf W D):=by
        rw [show psOf W2 D=k.ps + v3' from psOf_eq hWW.sc.c16,HPSW.out]
        omega
       have HJJ:=hide' hj
       have HMU:=hide' hmu
       clear hj hmu hok hstep2 hWW
       go_wp2_with fail
       go_step3
       exact .inl ⟨rfl,⟨rfl,rfl,rfl,HJJ.out⟩,HMU.out⟩
   . rw [if_neg c0] at hE
     subst hE
     have hfin:EndE w D B f n S R d (.returned (.bool false)) W2:=by
      by_cases c2:v1'=2
      . subst c2
        refine ⟨x2,_,R2,rfl,hWW.toEnd,HSt.out.trans (.one HOk.out.how (by rw [HST2.out]; simp [onNx]; rfl)), ?_⟩
        left
        simp [nxK,Wk.fails]
      . refine ⟨x2,_,R2,rfl,hWW.toEnd, ?_, ?_⟩
        . simp only [nxK,if_neg c0,if_neg c2]
          exact HSt.out
        . right
          simp only [nxK,if_neg c0,if_neg c2]
          show step S.inn S.nm f n (k.turn 19)=none
          rw [HST2.out]
          simp [onNx,c0,c2]
     have HFIN:=hide' hfin
     clear hfin hWW
     go_wp2_with fail
     simp only [jumps2]
     exact bodyPost_ret (v := .bool false) (by simp [results,Tryd.results38,go_sem]) rfl HFIN.out
 . rintro ⟨tm,df⟩ W ⟨q1,q2,q3,hJ⟩
   simp only at q1 q2 q3 hJ
   subst q1
   revert q3 hJ
   revert tm
   refine frame101 ?_
   intro v0 v1 v2 v3 v4 v5 v6 v7 v8 v9 v10 v11 v12 v13 v14 v15 v16 v17 v18 v19 v20 v21 v22 v23 v24 v25 v26 v27 v28 v29 v30 v31 v32 v33 v34 v35 v36 v37 v38 v39 v40 v41 v42 v43 v44 v45 v46 v47 v48 v49 v50 v51 v52 v53 v54 v55 v56 v57 v58 v59 v60 v61 v62 v63 v64 v65 v66 v67 v68 v69 v70 v71 v72 v73 v74 v75 v76 v77 v78 v79 v80 v81 v82 v83 v84 v85 v86 v87 v88 v89 v90 v91 v92 v93 v94 v95 v96 v97 v98 v99 v100 q3 hJ
   have q4:v0 = .pointer (some ⟨D,0,none⟩):=by simpa using q3
   subst q4
   clear q3
   rw [HJN.out] at hJ
   obtain ⟨x,k,R1,hW1,hSt,hOk,hps,hk18,hv5⟩:=hJ
   have q5:v5 = .int .i64 ((k.ps - k.tg - 2:Nat) : Int):=by simpa using hv5
   subst q5
   clear hv5
   have HPSW:Hid (psOf W D=k.ps):=psOf_eq hW1.sc.c16
   have d7:=hW1.sc.c7
   have d0:=hW1.sc.c0
   have d16:=hW1.sc.c16
   obtain ⟨n1,n2⟩:=hOk.nam hk18
   have hx:x=k.ps:=hOk.non (.inr (.inr hk18))
   have hbig:=hW1.rdy.big
   have hpn:k.ps <= n:=Nat.le_trans hW1.rdy.qe hW1.rdy.fn
   have hstp:step S.inn S.nm f n k=if k.ps - k.tg - 2=S.nm.length then some (k.turn 19) else if n <= k.ps then none else if f k.ps ≠ Rn.lf S.nm (k.ps - k.tg - 2) then some (k.fails k.ps) else some { k with ps:=k.ps + 1 }:=by
    unfold step
    rw [hk18]
    rfl
   have hlen:(⟨S.nm.toArray⟩ : ByteArray).size=S.nm.length:=by simp [ByteArray.size]
   dsimp only [Stt] at d7 d16
   by_cases c1:k.ps - k.tg - 2=S.nm.length
   . rw [if_pos c1] at hstp
     have hok:Ok S.nm x (k.turn 19):=by
      refine ⟨hOk.how, ?_, ?_, ?_, ?_, ?_, ?_, ?_, ?_, ?_, ?_, ?_, ?_, ?_⟩
      all_goals (simp only [Wk.turn])
      all_goals first | exact hOk.text | exact hOk.tag | exact hOk.attr | exact hOk.val | exact hOk.ref | exact hOk.ct | exact hOk.attrs | omega
     have hj:Jw 19 W:=by
      rw [HJ.out]
      exact ⟨x,k,R1,hW1,hSt.trans (.one hOk.how hstp),hok,hps⟩
     have hmu:2 * (n - psOf W D) < 2 * (n - psOf W D) + 1:=by omega
     have HJJ:=hide' hj
     have HMU:=hide' hmu
     have i1:((k.ps - k.tg - 2:Nat) : Int)=(S.nm.length:Int):=by omega
     rw [c1]
     clear hj hmu hok hstp hW1 hSt hOk hx hpn hps hk18 n1 n2 i1 d0 d16 c1
     go_wp2_with fail
     go_step3
     exact .inl ⟨rfl,⟨rfl,rfl,rfl,HJJ.out⟩,HMU.out⟩
   . by_cases c2 : k.ps = n
     . rw [if_neg c1,if_pos (by omega)] at hstp
       have hfin:EndE w D B f n S R d (.returned (.bool false)) W:=⟨x,k,R1,rfl,hW1.toEnd,hSt, .inr hstp⟩
       obtain ⟨pa,cap,er⟩:=hW1.sc.rest.form
       rw [er] at d0
       have hfin2 : ∀ m,EndE w D B f n S R d (.returned (.bool false)) (W.drewN m):=fun m => ⟨x,k,R1,rfl,(hW1.put (hW1.sc.drewN m) ((To.refl _ _ _).drewN m) rfl hOk.how rfl rfl).toEnd,hSt, .inr hstp⟩
       have HFIN2:=hide' hfin2
       have c2':((k.ps:Int) == (n:Int))=true:=by simp; omega
       have HC1:=hide' c1
       have i1:(((k.ps - k.tg - 2:Nat) : Int) == (S.nm.length:Int))=false:=by simp; omega
       clear hfin hfin2 hstp hW1 hSt hOk hx hpn hps hk18 n1 n2 er c1 c2
       generalize k.ps - k.tg - 2=dn at *
       go_wp2_with fail
       go_quiet (fail)
       go_wp2_with fail
       have HFIN:=HFIN2.out nq
       simp only [jumps2]
       exact bodyPost_ret (v := .bool false) (by simp [results,Tryd.results38,go_sem]) rfl HFIN
     . rw [if_neg c1,if_neg (by omega)] at hstp
       have hlt:k.ps < n:=by omega
       obtain ⟨q,o,cap,er,hc,hm,hby⟩ : ∃ q o cap,R1.rest = .slice (some ⟨q,o,none⟩) n cap /\ n <= cap /\ cap <= maxLen /\ Bytes W q o n f:=by
        rcases hW1.sc.rest.sl with ⟨_,e⟩ | e
        . omega
        . exact e
       rw [er] at d0
       have cb:=hby k.ps hlt
       have dnl:k.ps - k.tg - 2 < S.nm.length:=by omega
       have hix : ∀ W9:World,(Instr.index 9 (.string ⟨S.nm.toArray⟩) (.int .i64 ((k.ps - k.tg - 2:Nat) : Int))).run Tryd.prog W9 = .ok (.int .u8 ((Rn.lf S.nm (k.ps - k.tg - 2) : Nat) : Int)) W9:=by
        intro W9
        rw [run_index_string W9 9 _ .i64 _ Tryd.underlying9]
        rw [dif_pos ⟨by omega,by rw [hlen]; omega⟩]
        have e9:((k.ps - k.tg - 2:Nat) : Int).toNat=k.ps - k.tg - 2:=by omega
        have:(⟨S.nm.toArray⟩ : ByteArray)[((k.ps - k.tg - 2:Nat) : Int).toNat]'(by rw [hlen]; omega)=S.nm[k.ps - k.tg - 2]:=by
         simp only [e9]
         rfl
        rw [this]
        simp [Rn.lf,dnl]
       have c2':((k.ps:Int) == (n:Int))=false:=by simp; omega
       have i1:(((k.ps - k.tg - 2:Nat) : Int) == (S.nm.length:Int))=false:=by simp; omega
       have i2:(k.ps:Int) < n:=by omega
       have i3:(0:Int) <= k.ps:=by omega
       have hst9:Rn.lf S.nm (k.ps - k.tg - 2) < 256:=Rn.lf_lt _ _
       by_cases c3:f k.ps=Rn.lf S.nm (k.ps - k.tg - 2)
       . rw [if_neg (by simpa using c3)] at hstp
         have i4:((f k.ps:Int) != ((Rn.lf S.nm (k.ps - k.tg - 2) : Nat) : Int))=false:=by simp [c3]
         have hsk:=fun m => skip_any (hW1.sc.drewN m) (show (Stt S x k).e=(Stt S x k).q from hx) (show k.ps < n from hlt) (by show k.ps < _ /\ x < _; omega)
         have HK:=hide' hsk
         have HW:=hide' hW1
         have HSt:=hide' hSt
         have HOk:=hide' hOk
         have HS2:=hide' hstp
         have HX:=hide' hx
         have HPN:=hide' hlt
         have HPS:=hide' hps
         have HK18:=hide' hk18
         have HN1:=hide' n1
         have HDN:=hide' dnl
         have hdd:((k.ps - k.tg - 2:Nat) : Int) + 1=(((k.ps + 1) - k.tg - 2:Nat) : Int):=by omega
         have HDD:=hide' hdd
         have hb2:k.ps - k.tg - 2 < 4611686018427387904:=by omega
         clear hsk hW1 hSt hOk hstp hx hlt hps hk18 n1 n2 dnl hpn er hby hm hc c1 c2 c3 hdd hst9
         generalize hdn:k.ps - k.tg - 2=dn at *
         generalize Rn.lf S.nm dn=bN at *
         go_wp2_with fail
         go_quiet (fail)
         go_wp2_with fail
         go_quiet (fail)
         go_wp2_with fail
         refine (HK.out _).mono ?_
         rintro e W3 ⟨rfl,hS3,hTo3⟩
         have hxe:=HX.out
         have hlt2:=HPN.out
         have hWs:Went w D B f n S R d W3 { k with ps:=k.ps + 1 } (k.ps + 1) R1:=by
          subst hxe
          refine ⟨hS3,(HW.out.go.drewN _).trans hTo3,⟨HW.out.rdy.tb.to ((HW.out.sc.to_below ((To.refl _ _ _).drewN _)).trans ((HW.out.sc.drewN _).to_below hTo3)),Nat.le_trans HW.out.rdy.bw (Nat.le_trans ((To.refl D R1 W).drewN _).mv.size hTo3.mv.size),HW.out.rdy.fp,rfl,rfl,Nat.le_refl _,hlt2,fun m m1 m2 => by have h1:k.ps + 1 < m:=m1; have h2:m < k.ps + 1:=m2; omega,HW.out.rdy.lt,HW.out.rdy.big,HW.out.rdy.pl⟩,fun k2 => ?_,HW.out.rest⟩
          have:=HOk.out.how
          have h2:k.how=2:=k2
          omega
         have o2:=HOk.out.text
         have o3:=HOk.out.tag
         have o4:=HOk.out.attr
         have o5:=HOk.out.val
         have o6:=HOk.out.ref
         have o7:=HOk.out.ct
         have o8:=HOk.out.attrs
         have k18:=HK18.out
         have hn1:=HN1.out
         have hdl:=HDN.out
         have hok:Ok S.nm (k.ps + 1) { k with ps:=k.ps + 1 }:=by
          refine ⟨HOk.out.how, ?_, ?_, ?_, ?_, ?_, ?_, ?_, ?_, ?_, ?_, ?_, ?_, ?_⟩
          all_goals (simp only)
          all_goals first | omega | exact fun _ => trivial
         have hj:Jn (some (.int .i64 ((dn:Int) + 1))) W3:=by
          rw [HJN.out]
          exact ⟨k.ps + 1, { k with ps:=k.ps + 1 },R1,hWs,HSt.out.trans (.one HOk.out.how HS2.out),hok,by have:=HPS.out; show S.k.ps <= k.ps + 1; omega,HK18.out,by rw [HDD.out]⟩
         have hmu:2 * (n - psOf W3 D) + 1 < 2 * (n - psOf W D) + 1:=by
          rw [show psOf W3 D=k.ps + 1 from psOf_eq hWs.sc.c16,HPSW.out]
          omega
         have HJJ:=hide' hj
         have HMU:=hide' hmu
         clear hj hmu hok hWs hS3 hTo3 HK o2 o3 o4 o5 o6 o7 o8 k18 hn1 hdl hxe hlt2
         go_wp2_with fail
         go_step3
         exact .inr ⟨rfl,⟨rfl,rfl,rfl,HJJ.out⟩,HMU.out⟩
       . rw [if_pos (by simpa using c3)] at hstp
         have i4:((f k.ps:Int) != ((Rn.lf S.nm (k.ps - k.tg - 2) : Nat) : Int))=true:=by simp; omega
         have hfl:=fun m => fail_any (hW1.sc.drewN m) k.ps hW1.rdy.lt (by omega) (by omega) hW1.rdy.pl60
         have HK:=hide' hfl
         have HW:=hide' hW1
         have HST9:=hide' (hSt.trans (.one hOk.how hstp))
         clear hfl hW1 hSt hOk hstp hx hlt hps hk18 n1 n2 dnl hpn er hby hm hc c1 c2 c3 hst9
         generalize hdn:k.ps - k.tg - 2=dn at *
         generalize Rn.lf S.nm dn=bN at *
         go_wp2_with fail
         go_quiet (fail)
         go_wp2_with fail
         go_quiet (fail)
         go_wp2_with fail
         refine (HK.out _).mono ?_
         rintro e W3 ⟨rfl,hS3,hTo3⟩
         have hfin:EndE w D B f n S R d (.returned (.bool false)) W3:=by
          have hT:=(HW.out.go.drewN _).trans hTo3
          have hB:=(HW.out.sc.to_below ((To.refl _ _ _).drewN _)).trans ((HW.out.sc.drewN _).to_below hTo3)
          have hsz:=Nat.le_trans HW.out.rdy.bw (Nat.le_trans ((To.refl D R1 W).drewN _).mv.size hTo3.mv.size)
          refine ⟨x,k.fails k.ps,_,rfl,(show Went w D B f n S R d W3 (k.fails k.ps) x { R1 with bp:=pla S.pl f n k.ps } from ⟨hS3,hT, ?_,fun _ => rfl,HW.out.rest⟩).toEnd,HST9.out, ?_⟩
          . exact ⟨HW.out.rdy.tb.to hB,hsz,HW.out.rdy.fp,rfl,rfl,HW.out.rdy.qe,HW.out.rdy.fn,HW.out.rdy.mn,HW.out.rdy.lt,HW.out.rdy.big,HW.out.rdy.pl⟩
          . left
            simp [Wk.fails]
         have HFIN:=hide' hfin
         clear hfin hS3 hTo3 HK
         go_wp2_with fail
         simp only [jumps2]
         exact bodyPost_ret (v := .bool false) (by simp [results,Tryd.results38,go_sem]) rfl HFIN.out
end
end Sc
end Go.Proofs.YteiiepjegdlbeaaDoor
