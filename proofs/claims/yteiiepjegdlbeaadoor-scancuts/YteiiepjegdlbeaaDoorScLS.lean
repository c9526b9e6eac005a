import Derived.Test.YteiiepjegdlbeaaDoorScNxtC
import Derived.Test.YteiiepjegdlbeaaDoorScTold
namespace Go.Proofs.YteiiepjegdlbeaaDoor
open Go.RowKit Go.Lib
namespace Sc
structure TkV where
 tk:Tk
 av:Value
def TkV.arr (t:TkV) : Array Value:=tokA t.tk.kind t.tk.name t.av t.tk.text t.tk.fm t.tk.til
def tcells (l:List TkV) : List Value:=l.flatMap fun t => t.arr.toList
theorem tcells_snoc (l:List TkV) (t:TkV) : tcells (l ++ [t])=tcells l ++ t.arr.toList:=by simp [tcells]
def runA (tk op:Value) (how:Nat) (p:Nat × Nat × Nat × Nat) (inn:Nat) : Array Value := #[tk, .int .i64 (how:Nat), .int .i64 (p.1:Nat), .int .i64 (p.2.1:Nat), .int .i64 (p.2.2.1:Nat), .int .i64 (p.2.2.2:Nat),op, .int .i64 (inn:Nat)]
def strs (o:List (List UInt8)) : List Value:=o.map fun l => .string ⟨l.toArray⟩
def dfoot (D Q:Nat) (R:Raw) (tk op:Value) : List (Option Nat):=some Q :: tk.ownBlock :: op.ownBlock :: foot D R
structure ToX (X X':List (Option Nat)) (w w':World) : Prop where
 mv:Mv X w w'
 own : ∀ q,some q ∈ X' -> some q ∈ X \/ w.heap.size <= q
theorem ToX.trans {X Y Z:List (Option Nat)} {w w1 w2:World} (h:ToX X Y w w1) (k:ToX Y Z w1 w2) : ToX X Z w w2:=by
 refine ⟨⟨k.mv.os.trans h.mv.os,k.mv.tape.trans h.mv.tape,k.mv.output.trans h.mv.output,Nat.le_trans h.mv.size k.mv.size,fun i hi hn => ?_⟩,fun q hq => ?_⟩
 . refine (k.mv.block i (Nat.lt_of_lt_of_le hi h.mv.size) fun hm => ?_).trans (h.mv.block i hi hn)
   rcases h.own i hm with e | e
   . exact hn e
   . omega
 . rcases k.own q hq with e | e
   . exact h.own q e
   . exact .inr (Nat.le_trans h.mv.size e)
theorem ToX.of_below {X:List (Option Nat)} {w w':World} (h:Below w.heap.size w w') : ToX X X w w':=⟨.of_below h,fun _ h => .inl h⟩
theorem ToX.of_to {D Q:Nat} {R R':Raw} {tk op:Value} {w w':World} (h:To D R w R' w') : ToX (dfoot D Q R tk op) (dfoot D Q R' tk op) w w':=by
 refine ⟨⟨h.mv.os,h.mv.tape,h.mv.output,h.mv.size,fun k hk hn => h.mv.block k hk fun e => hn (by simp [dfoot,e])⟩,fun q hq => ?_⟩
 simp only [dfoot,List.mem_cons] at hq ⊢
 rcases hq with e | e | e | e
 . exact .inl (.inl e)
 . exact .inl (.inr (.inl e))
 . exact .inl (.inr (.inr (.inl e)))
 . rcases h.own q e with e | e
   . exact .inl (.inr (.inr (.inr e)))
   . exact .inr e
structure Drv (w:World) (B Q D:Nat) (R:Raw) (tk op:Value) (T:List TkV) (how:Nat) (p:Nat × Nat × Nat × Nat) (o:List (List UInt8)) (inn:Nat) : Prop where
 cell:w.heap[Q]? = some (.cells (runA tk op how p inn) 36 (0,0))
 low:B <= Q
 toks:w.ownsRow B 43 12 tk T.length (tcells T)
 opn:w.ownsRow B 9 1 op o.length (strs o)
 attrs : ∀ t ∈ T,w.ownsRow B 61 2 t.av t.tk.attrs.length (acells t.tk.attrs) /\ ∀ q,t.av.ownBlock=some q -> some q ∉ dfoot D Q R tk op
 aQ:some Q ∉ foot D R
 aT : ∀ q,tk.ownBlock=some q -> some q ∉ foot D R /\ q ≠ Q
 aO : ∀ q,op.ownBlock=some q -> some q ∉ foot D R /\ q ≠ Q /\ tk.ownBlock ≠ some q
section
variable {w w':World} {B Q D:Nat} {R R':Raw} {tk op:Value} {T:List TkV} {how inn:Nat} {p:Nat × Nat × Nat × Nat} {o:List (List UInt8)}
theorem lt_of_heap {q:Nat} {x:Obj} (h:w.heap[q]? = some x) : q < w.heap.size:=by
 rcases Nat.lt_or_ge q w.heap.size with k | k
 . exact k
 . rw [Array.getElem?_eq_none (by omega)] at h
   cases h
theorem Drv.lt (h:Drv w B Q D R tk op T how p o inn) : Q < w.heap.size:=lt_of_heap h.cell
theorem Drv.c (h:Drv w B Q D R tk op T how p o inn) (i:Nat) (v:Value) (hv:(runA tk op how p inn)[i]? = some v) : w.cell? ⟨Q,i,none⟩ = some v:=by
 rw [Lib.cell_of_heap h.cell]
 exact hv
theorem Drv.fz (h:Drv w B Q D R tk op T how p o inn) (i:Nat) : w.frozen? ⟨Q,i,none⟩ = false:=Lib.frozen_of_heap h.cell i
theorem Drv.keep (h:Drv w B Q D R tk op T how p o inn) (hQ:w'.heap[Q]? = w.heap[Q]?) (ht : ∀ q,tk.ownBlock=some q -> w'.heap[q]? = w.heap[q]?) (ho : ∀ q,op.ownBlock=some q -> w'.heap[q]? = w.heap[q]?) (ha : ∀ t ∈ T, ∀ q,t.av.ownBlock=some q -> w'.heap[q]? = w.heap[q]?) : Drv w' B Q D R tk op T how p o inn :=
 ⟨hQ.trans h.cell,h.low,own_keep h.toks ht,own_keep h.opn ho,fun t m => ⟨own_keep (h.attrs t m).1 (ha t m),(h.attrs t m).2⟩,h.aQ,h.aT,h.aO⟩
theorem Drv.below (h:Drv w B Q D R tk op T how p o inn) (hb:Below w.heap.size w w') : Drv w' B Q D R tk op T how p o inn :=
 h.keep (hb.block Q h.lt) (fun q e => hb.block q (World.ownsRow.lt h.toks q e).2) (fun q e => hb.block q (World.ownsRow.lt h.opn q e).2) (fun t m q e => hb.block q (World.ownsRow.lt (h.attrs t m).1 q e).2)
theorem Drv.to (h:Drv w B Q D R tk op T how p o inn) (ht:To D R w R' w') : Drv w' B Q D R' tk op T how p o inn:=by
 have hn : ∀ q,q < w.heap.size -> some q ∉ foot D R -> some q ∉ foot D R':=fun q hq hm he => by
  rcases ht.own q he with e | e
  . exact hm e
  . omega
 have lT:=fun q e => (World.ownsRow.lt h.toks q e).2
 have lO:=fun q e => (World.ownsRow.lt h.opn q e).2
 have hav : ∀ t ∈ T, ∀ q,t.av.ownBlock=some q -> some q ∉ foot D R:=fun t m q e hm => (h.attrs t m).2 q e (by simp [dfoot,hm])
 refine ⟨(ht.mv.block Q h.lt h.aQ).trans h.cell,h.low,own_keep h.toks fun q e => ht.mv.block q (lT q e) (h.aT q e).1,own_keep h.opn fun q e => ht.mv.block q (lO q e) (h.aO q e).1,fun t m => ⟨own_keep (h.attrs t m).1 fun q e => ht.mv.block q (World.ownsRow.lt (h.attrs t m).1 q e).2 (hav t m q e),fun q e hm => ?_⟩,
  hn Q h.lt h.aQ,fun q e => ⟨hn q (lT q e) (h.aT q e).1,(h.aT q e).2⟩,fun q e => ⟨hn q (lO q e) (h.aO q e).1,(h.aO q e).2⟩⟩
 simp only [dfoot,List.mem_cons] at hm
 rcases hm with k | k | k | k
 . exact (h.attrs t m).2 q e (by simp [dfoot,k])
 . exact (h.attrs t m).2 q e (by simp [dfoot,k])
 . exact (h.attrs t m).2 q e (by simp [dfoot,k])
 . exact hn q (World.ownsRow.lt (h.attrs t m).1 q e).2 (hav t m q e) k
theorem Drv.put (h:Drv w B Q D R tk op T how p o inn) (i:Nat) (u:Value) {how' inn':Nat} {p':Nat × Nat × Nat × Nat} (hc:runA tk op how' p' inn'=(runA tk op how p inn).setIfInBounds i u) : Drv (w.setCell ⟨Q,i,none⟩ u) B Q D R tk op T how' p' o inn':=by
 have hne : ∀ q,q ≠ Q -> (w.setCell ⟨Q,i,none⟩ u).heap[q]? = w.heap[q]? := fun q e => RowKit.Below.heap_setCell _ _ _ _ e
 refine ⟨by rw [hc]; exact Go.Joins.block_setCell (i:=i) h.cell _,h.low,own_keep h.toks fun q e => hne q (h.aT q e).2,own_keep h.opn fun q e => hne q (h.aO q e).2.1,fun t m => ⟨own_keep (h.attrs t m).1 fun q e => hne q fun k => (h.attrs t m).2 q e (by simp [dfoot,k]),(h.attrs t m).2⟩,h.aQ,h.aT,h.aO⟩
theorem ToX.put {X:List (Option Nat)} (hq:some Q ∈ X) (i:Nat) (u:Value) : ToX X X w (w.setCell ⟨Q,i,none⟩ u) :=
 ⟨⟨rfl,rfl,rfl,by simp [World.setCell],fun _ _ hn => RowKit.Below.heap_setCell _ _ _ _ fun e => hn (by rw [e]; exact hq)⟩,fun _ h => .inl h⟩
theorem Drv.tok (h:Drv w B Q D R tk op T how p o inn) {w1:World} {v':Value} {t:TkV} (hg:w.grownBy w1 tk.ownBlock) (hown:w1.ownsRow B 43 12 v' (T.length + 1) (tcells T ++ t.arr.toList)) (hv : ∀ q,v'.ownBlock=some q -> tk.ownBlock=some q \/ w.heap.size <= q) (hfl : ∀ q,some q ∈ foot D R -> q < w.heap.size)
 (hat:w.ownsRow B 61 2 t.av t.tk.attrs.length (acells t.tk.attrs)) (hap : ∀ q,t.av.ownBlock=some q -> some q ∉ dfoot D Q R tk op) :
 Drv (w1.setCell ⟨Q,0,none⟩ v') B Q D R v' op (T ++ [t]) how p o inn /\ ToX (dfoot D Q R tk op) (dfoot D Q R v' op) w (w1.setCell ⟨Q,0,none⟩ v'):=by
 have hvl : ∀ q,v'.ownBlock=some q -> q ≠ Q:=fun q e k => by
  rcases hv q e with g | g
  . exact (h.aT q g).2 k
  . have:=h.lt; omega
 have hb : ∀ q,q < w.heap.size -> q ≠ Q -> tk.ownBlock ≠ some q -> (w1.setCell ⟨Q,0,none⟩ v').heap[q]? = w.heap[q]? := fun q a b c => (RowKit.Below.heap_setCell _ _ _ _ b).trans (hg.block q a fun e => c e.symm)
 have hav : ∀ t' ∈ T ++ [t],w.ownsRow B 61 2 t'.av t'.tk.attrs.length (acells t'.tk.attrs) /\ ∀ q,t'.av.ownBlock=some q -> some q ∉ dfoot D Q R tk op:=fun t' m => by
  rcases List.mem_append.1 m with m | m
  . exact h.attrs t' m
  . rw [List.mem_singleton.1 m]; exact ⟨hat,hap⟩
 refine ⟨⟨?_,h.low, ?_, ?_,fun t' m => ⟨?_,fun q e k => ?_⟩,h.aQ,fun q e => ⟨fun k => ?_,hvl q e⟩,fun q e => ⟨(h.aO q e).1,(h.aO q e).2.1,fun k => ?_⟩⟩,⟨⟨hg.os,hg.tape,hg.output,by have:=hg.size; simpa [World.setCell] using this,fun k hk hn => ?_⟩,fun q hq => ?_⟩⟩
 . exact Go.Joins.block_setCell (i:=0) ((hg.block Q h.lt fun e => (h.aT Q e.symm).2 rfl).trans h.cell) _
 . rw [tcells_snoc,List.length_append]
   exact own_keep hown fun q e => RowKit.Below.heap_setCell _ _ _ _ (hvl q e)
 . exact own_keep h.opn fun q e => hb q (World.ownsRow.lt h.opn q e).2 (h.aO q e).2.1 (h.aO q e).2.2
 . exact own_keep (hav t' m).1 fun q e => hb q (World.ownsRow.lt (hav t' m).1 q e).2 (fun k => (hav t' m).2 q e (by simp [dfoot,k])) (fun k => (hav t' m).2 q e (by simp [dfoot,k]))
 . have hq:=(World.ownsRow.lt (hav t' m).1 q e).2
   have hd:=(hav t' m).2 q e
   simp only [dfoot,List.mem_cons,not_or] at hd k
   rcases k with k | k | k | k
   . exact hd.1 k
   . rcases hv q k.symm with g | g
     . exact hd.2.1 g.symm
     . omega
   . exact hd.2.2.1 k
   . exact hd.2.2.2 k
 . rcases hv q e with g | g
   . exact (h.aT q g).1 k
   . have:=hfl q k; omega
 . rcases hv q k with g | g
   . exact (h.aO q e).2.2 g
   . have:=(World.ownsRow.lt h.opn q e).2; omega
 . exact hb k hk (fun e => hn (by simp [dfoot,e])) (fun e => hn (by simp [dfoot,e]))
 . simp only [dfoot,List.mem_cons] at hq ⊢
   rcases hq with e | e | e | e
   . exact .inl (.inl e)
   . rcases hv q e.symm with g | g
     . exact .inl (.inr (.inl g.symm))
     . exact .inr g
   . exact .inl (.inr (.inr (.inl e)))
   . exact .inl (.inr (.inr (.inr e)))
theorem Drv.names (h:Drv w B Q D R tk op T how p o inn) {w1:World} {v':Value} {o':List (List UInt8)} (hg:w.grownBy w1 op.ownBlock) (hown:w1.ownsRow B 9 1 v' o'.length (strs o')) (hv : ∀ q,v'.ownBlock=some q -> op.ownBlock=some q \/ w.heap.size <= q) (hfl : ∀ q,some q ∈ foot D R -> q < w.heap.size) :
 Drv (w1.setCell ⟨Q,6,none⟩ v') B Q D R tk v' T how p o' inn /\ ToX (dfoot D Q R tk op) (dfoot D Q R tk v') w (w1.setCell ⟨Q,6,none⟩ v'):=by
 have hvl : ∀ q,v'.ownBlock=some q -> q ≠ Q:=fun q e k => by
  rcases hv q e with g | g
  . exact (h.aO q g).2.1 k
  . have:=h.lt; omega
 have hb : ∀ q,q < w.heap.size -> q ≠ Q -> op.ownBlock ≠ some q -> (w1.setCell ⟨Q,6,none⟩ v').heap[q]? = w.heap[q]? := fun q a b c => (RowKit.Below.heap_setCell _ _ _ _ b).trans (hg.block q a fun e => c e.symm)
 refine ⟨⟨?_,h.low, ?_, ?_,fun t' m => ⟨?_,fun q e k => ?_⟩,h.aQ,h.aT,fun q e => ⟨fun k => ?_,hvl q e,fun k => ?_⟩⟩,⟨⟨hg.os,hg.tape,hg.output,by have:=hg.size; simpa [World.setCell] using this,fun k hk hn => ?_⟩,fun q hq => ?_⟩⟩
 . exact Go.Joins.block_setCell (i:=6) ((hg.block Q h.lt fun e => (h.aO Q e.symm).2.1 rfl).trans h.cell) _
 . exact own_keep h.toks fun q e => hb q (World.ownsRow.lt h.toks q e).2 (h.aT q e).2 fun k => (h.aO q k).2.2 e
 . exact own_keep hown fun q e => RowKit.Below.heap_setCell _ _ _ _ (hvl q e)
 . exact own_keep (h.attrs t' m).1 fun q e => hb q (World.ownsRow.lt (h.attrs t' m).1 q e).2 (fun k => (h.attrs t' m).2 q e (by simp [dfoot,k])) (fun k => (h.attrs t' m).2 q e (by simp [dfoot,k]))
 . have hq:=(World.ownsRow.lt (h.attrs t' m).1 q e).2
   have hd:=(h.attrs t' m).2 q e
   simp only [dfoot,List.mem_cons,not_or] at hd k
   rcases k with k | k | k | k
   . exact hd.1 k
   . exact hd.2.1 k
   . rcases hv q k.symm with g | g
     . exact hd.2.2.1 g.symm
     . omega
   . exact hd.2.2.2 k
 . rcases hv q e with g | g
   . exact (h.aO q g).1 k
   . have:=hfl q k; omega
 . rcases hv q e with g | g
   . exact (h.aO q g).2.2 k
   . have:=(World.ownsRow.lt h.toks q k).2; omega
 . exact hb k hk (fun e => hn (by simp [dfoot,e])) (fun e => hn (by simp [dfoot,e]))
 . simp only [dfoot,List.mem_cons] at hq ⊢
   rcases hq with e | e | e | e
   . exact .inl (.inl e)
   . exact .inl (.inr (.inl e))
   . rcases hv q e.symm with g | g
     . exact .inl (.inr (.inr (.inl g.symm)))
     . exact .inr g
   . exact .inl (.inr (.inr (.inr e)))
end
theorem plcFrom_bound (f:Nat -> Nat) (n a:Nat) : ∀ (fuel p rn ln co:Nat),(Rn.plcFrom f n a fuel p rn ln co).1 <= rn + fuel /\ (Rn.plcFrom f n a fuel p rn ln co).2.1 <= ln + fuel /\ (Rn.plcFrom f n a fuel p rn ln co).2.2 <= co + fuel + 1
 | 0,p,rn,ln,co => ⟨Nat.le_refl _,Nat.le_refl _,Nat.le_succ _⟩
 | x + 1,p,rn,ln,co => by
   unfold Rn.plcFrom
   split
   . exact ⟨Nat.le_add_right _ _,Nat.le_add_right _ _,by show co <= _; omega⟩
   . split
     . have:=plcFrom_bound f n a x (p + (Rn.dec (Rn.off f p) (a - p)).2) (rn + 1) (ln + 1) 1
       omega
     . have:=plcFrom_bound f n a x (p + (Rn.dec (Rn.off f p) (a - p)).2) (rn + 1) ln (co + 1)
       omega
theorem plw_bound (f:Nat -> Nat) (n x:Nat) (hx:x <= 1073741824) : (plw f n x).1 <= 1099511627776 /\ (plw f n x).2.1 <= 1099511627776 /\ (plw f n x).2.2.1 <= 1099511627776 /\ (plw f n x).2.2.2 <= 1099511627776:=by
 have:=plcFrom_bound f n x x 0 0 1 1
 unfold plw pla
 refine ⟨?_, ?_, ?_, ?_⟩ <;> simp only <;> omega
theorem step_tagl {inn:Nat} {nm:List UInt8} {f:Nat -> Nat} {n:Nat} {s t:Wk} (h:step inn nm f n s=some t) (hs:Okm nm s) : t.tag=s.tag \/ t.tag=nm \/ t.tag.length <= s.tag.length + 4:=by
 have _:=hs
 have oN : ∀ {x:Nat × Nat × Nat} {k:Nat -> Wk -> Wk},onNx x s k=some t -> (∀ r w,(k r (s.took w)).tag=s.tag \/ (k r (s.took w)).tag=nm \/ (k r (s.took w)).tag.length <= s.tag.length + 4) -> t.tag=s.tag \/ t.tag=nm \/ t.tag.length <= s.tag.length + 4:=by
  intro x k h hk
  unfold onNx at h
  split at h
  . cases h
    exact hk _ _
  . split at h
    . cases h
      exact .inl rfl
    . cases h
 have oR : ∀ {k:Nat -> Wk -> Wk},onRef f n s k=some t -> (∀ r s',(k r s').tag=s'.tag) -> t.tag=s.tag:=by
  intro k h hk
  unfold onRef at h
  split at h
  . cases h
  . split at h
    . cases h
      rfl
    . split at h
      . cases h
        rw [hk]
      . cases h
        rfl
 unfold step at h
 split at h
 case h_2 => exact .inl (oR h fun r s' => rfl)
 case h_18 => exact .inl (oR h fun r s' => rfl)
 case h_14 =>
  split at h
  . cases h
    exact .inl rfl
  . refine oN h fun r w => ?_
    repeat' split
    all_goals exact .inl rfl
 case h_19 =>
  split at h
  . cases h
    exact .inl rfl
  . split at h
    . cases h
    . split at h
      . cases h
        exact .inl rfl
      . cases h
        exact .inl rfl
 case h_20 =>
  refine oN h fun r w => ?_
  split
  . exact .inr (.inl rfl)
  . exact .inl rfl
 all_goals
  refine oN h fun r w => ?_
  have:=enc4 r
  try repeat' split
  all_goals first
   | exact .inl rfl
   | (right; right; show (s.tag ++ encodeRune r).length <= _; rw [List.length_append]; omega)
theorem Steps.tagl {inn:Nat} {nm:List UInt8} {f:Nat -> Nat} {n:Nat} {k:Wk} (h:Steps inn nm f n {} k) : k.tag=nm \/ k.tag.length <= 4 * n + 4:=by
 by_cases e:k.how=1
 . have:=(h.okm e (okm_new _)).tag
   have:=h.within (Nat.zero_le _)
   right
   omega
 . obtain ⟨m,r1,r2,r3⟩:=h.last rfl e
   have ok:=r1.okm r2 (okm_new _)
   have q:=ok.tag
   have q2:=r1.within (Nat.zero_le _)
   rcases step_tagl r3 ok with g | g | g
   . rw [g]; right; omega
   . exact .inl g
   . right; omega
def Dr.after (s:Dr) (t:Tk) : Dr:=if t.kind=0 then s else ⟨if (if t.kind=1 then t.name :: s.opn else if t.kind=2 then s.opn.tail else s.opn) = [] then 2 else if t.kind=1 then 1 else s.inn,if t.kind=1 then t.name :: s.opn else if t.kind=2 then s.opn.tail else s.opn⟩
theorem Dr.after_tag (s:Dr) (f:Nat -> Nat) (n a:Nat) (k:Wk) (h:k.kind ≠ 0) : s.after (tkG f n a k)=s.next k:=by
 unfold Dr.after Dr.next Dr.opens tkG
 rw [if_neg h]
theorem Dr.after_text (s:Dr) (f:Nat -> Nat) (n a:Nat) (k:Wk) : s.after (tkT f n a k)=s:=by
 unfold Dr.after tkT
 rw [if_pos rfl]
def Dr.Sh (s:Dr) (n:Nat) : Prop := ∀ l ∈ s.opn,l.length <= 4 * n + 4
theorem Dr.Sh.nm {s:Dr} {n:Nat} (h:s.Sh n) : s.nm.length <= 4 * n + 4:=by
 unfold Dr.nm
 split
 . cases e:s.opn with
   | nil => simp
   | cons a r => exact h a (by rw [e]; simp)
 . simp
theorem Dr.Sh.next {s:Dr} {n m:Nat} {f:Nat -> Nat} {k:Wk} (h:s.Sh n) (hm:m <= n) (g:Steps s.inn s.nm f m {} k) : (s.next k).Sh n:=by
 intro l hl
 unfold Dr.next Dr.opens at hl
 simp only at hl
 split at hl
 . rcases List.mem_cons.1 hl with e | e
   . subst e
     rcases g.tagl with q | q
     . rw [q]; exact h.nm
     . omega
   . exact h l e
 . split at hl
   . exact h l (List.mem_of_mem_tail hl)
   . exact h l hl
def LS (f:Nat -> Nat) (n:Nat) (en:Bool) (a0:Nat) (u0:Dr) (D B:Nat) (T:List Tk) (u:Dr) (R:Raw) (w:World) : Prop :=
 ∃ b T',Told f n a0 u0 T' b u /\ u.Ok /\ u.Nm /\ u.Sh n /\ Fd.Run f n 0 b /\ b <= n /\
  ((T=T' /\ ∃ ph,Scn w D B (Rn.off f b) (n - b) (plw f n b) en ph R /\ (ph=none \/ ∃ k,ph=some (u.inn,u.nm,k) /\ (k.how=1 \/ k.how=2) /\ Steps u.inn u.nm (Rn.off f b) (n - b) {} k)) \/
   (∃ k,Steps u.inn u.nm (Rn.off f b) (n - b) {} k /\ k.how=0 /\ k.text ≠ [] /\ T=T' ++ [tkT f n b k] /\ Scn w D B (Rn.off f (b + k.tg)) (n - (b + k.tg)) (plw f n (b + k.tg)) en (some (u.inn,u.nm, { k with ps:=k.ps - k.tg,tg:=0,text := [] })) R))
structure Stop (f:Nat -> Nat) (n:Nat) (en:Bool) (b:Nat) (u:Dr) (k:Wk) (how:Nat) (p:Nat × Nat × Nat × Nat) : Prop where
 bad:k.how=2 -> how=2 /\ p=plw f n (b + k.bad)
 wait:k.how=1 -> en=false -> how=1 /\ p=(0,0,0,0)
 done:k.how=1 -> en=true -> u.inn=2 /\ k.st=0 -> how=3 /\ p=(0,0,0,0)
 over:k.how=1 -> en=true -> ¬ (u.inn=2 /\ k.st=0) -> how=2 /\ p=plw f n n
def StopE (f:Nat -> Nat) (n:Nat) (en:Bool) (a0:Nat) (u0:Dr) (D B:Nat) (T:List Tk) (u:Dr) (R:Raw) (w:World) (how:Nat) (p:Nat × Nat × Nat × Nat) : Prop :=
 ∃ b k,Told f n a0 u0 T b u /\ Fin f n b u k /\ u.Ok /\ u.Nm /\ u.Sh n /\ Fd.Run f n 0 b /\ b <= n /\ how ≠ 0 /\ how <= 3 /\ Stop f n en b u k how p /\
  ∃ k',Scn w D B (Rn.off f b) (n - b) (plw f n b) en (some (u.inn,u.nm,k')) R /\ (en=false -> k'=k)
theorem LS.len {f:Nat -> Nat} {n:Nat} {en:Bool} {a0:Nat} {u0:Dr} {D B:Nat} {T:List Tk} {u:Dr} {R:Raw} {w:World} (h:LS f n en a0 u0 D B T u R w) : a0 + T.length <= n:=by
 obtain ⟨b,T',hTd,_,_,_,_,hbn,hc⟩:=h
 have q:=hTd.len
 rcases hc with ⟨rfl,_⟩ | ⟨k,hk,h0,ht,rfl,_⟩
 . omega
 . have q1:=(tks_len (f:=f) (n:=n) (a:=b) hk h0)
   have q2:=hk.within (Nat.zero_le _)
   have q3:=q1.2.1 ht
   rw [List.length_append,List.length_singleton]
   omega
theorem Told.opl {f:Nat -> Nat} {n a b:Nat} {s u:Dr} {T:List Tk} (h:Told f n a s T b u) : u.opn.length + a <= s.opn.length + b:=by
 induction h with
 | refl => exact Nat.le_refl _
 | @cons a b s u T k h h0 r ih =>
   have q:=(tks_len (f:=f) (n:=n) (a:=a) h h0).2.2
   have e:(s.next k).opn.length <= s.opn.length + 1:=by
    show (s.opens k).length <= _
    unfold Dr.opens
    split
    . simp
    . split
      . simp; omega
      . omega
   omega
theorem LS.opl {f:Nat -> Nat} {n:Nat} {en:Bool} {a0:Nat} {u0:Dr} {D B:Nat} {T:List Tk} {u:Dr} {R:Raw} {w:World} (h:LS f n en a0 u0 D B T u R w) (h0:u0.opn.length <= a0) : u.opn.length <= n:=by
 obtain ⟨b,T',hTd,_,_,_,_,hbn,hc⟩:=h
 have:=hTd.opl
 omega
theorem LS.lt {f:Nat -> Nat} {n:Nat} {en:Bool} {a0:Nat} {u0:Dr} {D B:Nat} {T:List Tk} {u:Dr} {R:Raw} {w:World} (h:LS f n en a0 u0 D B T u R w) : ∀ q,some q ∈ foot D R -> B <= q /\ q < w.heap.size:=by
 obtain ⟨b,T',hTd,_,_,_,_,hbn,hc⟩:=h
 rcases hc with ⟨_,ph,hs,_⟩ | ⟨k,hk,h0,ht,_,hs⟩
 . exact hs.lt
 . exact hs.lt
theorem LS.keep {f:Nat -> Nat} {n:Nat} {en:Bool} {a0:Nat} {u0:Dr} {D B:Nat} {T:List Tk} {u:Dr} {R:Raw} {w w':World} (h:LS f n en a0 u0 D B T u R w) (hT:Tb B w') (hk : ∀ q,some q ∈ foot D R -> w'.heap[q]? = w.heap[q]?) (hB:B <= w'.heap.size) : LS f n en a0 u0 D B T u R w':=by
 obtain ⟨b,T',a1,a2,a3,a4,a5,a6,hc⟩:=h
 refine ⟨b,T',a1,a2,a3,a4,a5,a6, ?_⟩
 rcases hc with ⟨e,ph,hs,g⟩ | ⟨k,q1,q2,q3,q4,hs⟩
 . exact .inl ⟨e,ph,hs.keep hT hk hB,g⟩
 . exact .inr ⟨k,q1,q2,q3,q4,hs.keep hT hk hB⟩
theorem StopE.keep {f:Nat -> Nat} {n:Nat} {en:Bool} {a0:Nat} {u0:Dr} {D B:Nat} {T:List Tk} {u:Dr} {R:Raw} {w w':World} {how:Nat} {p:Nat × Nat × Nat × Nat} (h:StopE f n en a0 u0 D B T u R w how p) (hT:Tb B w') (hk : ∀ q,some q ∈ foot D R -> w'.heap[q]? = w.heap[q]?) (hB:B <= w'.heap.size) : StopE f n en a0 u0 D B T u R w' how p:=by
 obtain ⟨b,k,a1,a2,a3,a4,a5,a6,a7,a8,a9,a10,k',hs,g⟩:=h
 exact ⟨b,k,a1,a2,a3,a4,a5,a6,a7,a8,a9,a10,k',hs.keep hT hk hB,g⟩
theorem StopE.lt {f:Nat -> Nat} {n:Nat} {en:Bool} {a0:Nat} {u0:Dr} {D B:Nat} {T:List Tk} {u:Dr} {R:Raw} {w:World} {how:Nat} {p:Nat × Nat × Nat × Nat} (h:StopE f n en a0 u0 D B T u R w how p) : ∀ q,some q ∈ foot D R -> B <= q /\ q < w.heap.size:=by
 obtain ⟨b,k,a1,a2,a3,a4,a5,a6,a7,a8,a9,a10,k',hs,g⟩:=h
 exact hs.lt
theorem tag_on {f:Nat -> Nat} {n b:Nat} {u:Dr} {k:Wk} (hf : ∀ j,f j < 256) (hOk:u.Ok) (hNm:u.Nm) (hSh:u.Sh n) (hRun:Fd.Run f n 0 b) (hbn:b <= n) (hk:Steps u.inn u.nm (Rn.off f b) (n - b) {} k) (h0:k.how=0) :
 (u.next k).Ok /\ (u.next k).Nm /\ (u.next k).Sh n /\ Fd.Run f n 0 (b + k.ps) /\ b + k.ps <= n /\ (k.kind=1 \/ k.kind=3 \/ k.kind=2) /\ (k.kind=2 -> u.opn ≠ []) /\ Fd.Run f n 0 (b + k.tg) /\ k.tg <= k.ps /\ k.tf <= k.tg:=by
 have q:=Tags.runs (u:=u.next k) (b:=b + k.ps) hf (.cons hk h0 (.refl _ _)) hbn hNm hOk hRun
 have q2:=(hk.kd (kd_new _)).kd h0
 have q3:=hk.rw' (fun _ => hf _) hNm.nm.run (rw_new _ _ _)
 have q4:=q3.tg.shift
 rw [Nat.add_zero,show b + (n - b)=n by omega] at q4
 have q5:=hk.inn in_new
 refine ⟨q.2.2.1,q.2.1,hSh.next (Nat.sub_le _ _) hk,q.1,q.2.2.2, ?_,(hOk.next hk h0).2,hRun.trans q4,q5.tg,q5.tt (whole_st hk h0).1⟩
 rcases q2 with e | e | e
 . exact .inl e
 . exact .inr (.inl e)
 . exact .inr (.inr e.1)
def DrE (f:Nat -> Nat) (n:Nat) (en:Bool) (a0:Nat) (u0:Dr) (D B:Nat) (T:List Tk) (u:Dr) (R:Raw) (w:World) (e:Ending) (w':World) : Prop :=
 ∃ R',To D R w R' w' /\ Tb B w' /\
  ((∃ t av,e=Ansr (TkV.mk t av).arr (0,0,0,0) 0 /\ LS f n en a0 u0 D B (T ++ [t]) (u.after t) R' w' /\ w'.ownsRow B 61 2 av t.attrs.length (acells t.attrs) /\ (∀ q,av.ownBlock=some q -> some q ∉ foot D R' /\ (some q ∈ foot D R \/ w.heap.size <= q)) /\ t.kind <= 3 /\ (t.kind=2 -> u.opn ≠ [])) \/
   (∃ how p,e=Ansr tok0 p how /\ StopE f n en a0 u0 D B T u R' w' how p))
theorem next_ls {f:Nat -> Nat} {n:Nat} {en:Bool} {a0:Nat} {u0:Dr} {D B:Nat} {T:List Tk} {u:Dr} {R:Raw} {w:World} (h:LS f n en a0 u0 D B T u R w) (hT:Tb B w) (hB:B <= w.heap.size) (hf : ∀ j,f j < 256) (hbig:n <= 1073741824) (l:List UInt8) (hl:l=u.opn.headD []) :
 Calls Tryd.prog 17 #[.pointer (some ⟨D,0,none⟩), .int .i64 (u.inn:Nat), .string ⟨l.toArray⟩] w (DrE f n en a0 u0 D B T u R w):=by
 obtain ⟨b,T',hTd,hOk,hNm,hSh,hRun,hbn,hc⟩:=h
 have hi2:=hOk.2
 have eI:inOf (u.inn:Nat)=u.inn:=by
  unfold inOf
  by_cases c0:u.inn=0
  . rw [c0]; rfl
  . by_cases c1 : u.inn = 1
    . rw [c1]; rfl
    . rw [if_neg (by omega),if_neg (by omega)]
      omega
 have eN:nmOf (u.inn:Nat) l=u.nm:=by
  unfold nmOf Dr.nm
  by_cases c1:u.inn=1
  . rw [if_pos (by omega),if_pos c1,hl]
  . rw [if_neg (by omega),if_neg c1]
 have hl2:l.length <= 70368744177664:=by
  rw [hl]
  cases e:u.opn with
  | nil => simp
  | cons a r =>
    have:=hSh a (by rw [e]; simp)
    show a.length <= _
    omega
 have hF : ∀ j,Rn.off f b j < 256:=fun j => hf _
 rcases hc with ⟨rfl,ph,hs,hph⟩ | ⟨k,hk,h0,ht,rfl,hs⟩
 . have hgo : ∀ k0,k0.how=1 -> Steps u.inn u.nm (Rn.off f b) (n - b) {} k0 -> (∀ W0,Below w.heap.size w W0 -> Calls Tryd.prog 21 #[.pointer (some ⟨D,0,none⟩), .int .i64 (u.inn:Nat), .string ⟨l.toArray⟩] W0 fun e w' => e = .returned (.tuple #[]) /\ Chose W0 D B (Rn.off f b) (n - b) (plw f n b) en (inOf (u.inn:Nat)) (nmOf (u.inn:Nat) l) k0 R w') ->
    Calls Tryd.prog 17 #[.pointer (some ⟨D,0,none⟩), .int .i64 (u.inn:Nat), .string ⟨l.toArray⟩] w (DrE f n en a0 u0 D B T u R w):=by
    intro k0 h1 hk0 hC
    have hk0':Steps (inOf (u.inn:Nat)) (nmOf (u.inn:Nat) l) (Rn.off f b) (n - b) {} k0:=by rw [eI,eN]; exact hk0
    refine (next_go (fun q hq => (hs.lt q hq).2) hT hB hF (by omega) (plw_bound f n b (by omega)) _ l hl2 k0 h1 hC hk0').mono ?_
    rintro e w' ⟨k,hk,hke,hN⟩
    rw [eI,eN] at hk hke hN
    have hps:=hk.within (Nat.zero_le _)
    have hin:=hk.inn in_new
    unfold NextE at hN
    by_cases c0:k.how=0
    . rw [if_pos c0] at hN
      obtain ⟨t1,t2,t3,t4,t5,t6,t7,t8,t9,t10⟩:=tag_on hf hOk hNm hSh hRun hbn hk c0
      by_cases ct:k.text = []
      . rw [if_pos ct] at hN
        obtain ⟨av,v,rfl,s1,s2,s3,s4,s5⟩:=hN
        refine ⟨noRaw v,s2,s3, .inl ⟨tkG f n b k,av, ?_, ?_,s4,s5,by show k.kind <= 3; omega,t7⟩⟩
        . rw [pla_add hf hRun (by omega),pla_add hf hRun (by omega)]
          rfl
        . rw [Dr.after_tag _ _ _ _ _ (by omega)]
          have hT2:=hTd.snoc hk c0
          unfold tks at hT2
          rw [if_pos ct] at hT2
          rw [pla_add hf hRun (by omega),Fd.off_off,Nat.sub_sub] at s1
          exact ⟨b + k.ps,_,hT2,t1,t2,t3,t4,t5, .inl ⟨rfl,none,s1, .inl rfl⟩⟩
      . rw [if_neg ct] at hN
        obtain ⟨rfl,R',s1,s2,s3⟩:=hN
        refine ⟨R',s2,s3, .inl ⟨tkT f n b k, .slice none 0 0, ?_, ?_,World.ownsRow_nil _ _ _ _,fun q e => (by cases e),by show 0 <= 3; omega,fun e => (by cases e)⟩⟩
        . rw [pla_add hf hRun (by omega),pla_add hf hRun (by omega)]
          rfl
        . rw [Dr.after_text]
          rw [pla_add hf hRun (by omega),Fd.off_off,Nat.sub_sub] at s1
          exact ⟨b,T,hTd,hOk,hNm,hSh,hRun,hbn, .inr ⟨k,hk,c0,ct,rfl,s1⟩⟩
    . rw [if_neg c0] at hN
      have hfin:Fin f n b u k:=⟨hk,c0,hke⟩
      by_cases c1:k.how=1
      . rw [if_pos c1] at hN
        by_cases ce:en=true
        . rw [if_pos ce] at hN
          by_cases cd:u.inn=2 /\ k.st=0
          . rw [if_pos cd] at hN
            obtain ⟨rfl,R',s1,s2,s3⟩:=hN
            exact ⟨R',s2,s3, .inr ⟨3,_,rfl,b,k,hTd,hfin,hOk,hNm,hSh,hRun,hbn,by omega,by omega,⟨fun g => (by omega),fun _ g => (by rw [ce] at g; cases g),fun _ _ _ => ⟨rfl,rfl⟩,fun _ _ g => absurd cd g⟩,_,s1,fun g => (by rw [ce] at g; cases g)⟩⟩
          . rw [if_neg cd] at hN
            obtain ⟨rfl,R',s1,s2,s3⟩:=hN
            refine ⟨R',s2,s3, .inr ⟨2,_,rfl,b,k,hTd,hfin,hOk,hNm,hSh,hRun,hbn,by omega,by omega,⟨fun g => (by omega),fun _ g => (by rw [ce] at g; cases g),fun _ _ g => absurd g cd,fun _ _ _ => ⟨rfl, ?_⟩⟩,_,s1,fun g => (by rw [ce] at g; cases g)⟩⟩
            rw [pla_add hf hRun (by omega),show b + (n - b)=n by omega]
        . rw [if_neg ce] at hN
          obtain ⟨rfl,R',s1,s2,s3⟩:=hN
          rw [c1]
          exact ⟨R',s2,s3, .inr ⟨1,_,rfl,b,k,hTd,hfin,hOk,hNm,hSh,hRun,hbn,by omega,by omega,⟨fun g => (by omega),fun _ _ => ⟨rfl,rfl⟩,fun _ g => absurd g ce,fun _ g => absurd g ce⟩,_,s1,fun _ => rfl⟩⟩
      . rw [if_neg c1] at hN
        have c2:k.how=2:=by have:=hk.how3 rfl; omega
        rw [if_pos c2] at hN
        obtain ⟨rfl,R',s1,s2,s3⟩:=hN
        have hbd:=(hk.bad rfl c2).1
        rw [c2]
        refine ⟨R',s2,s3, .inr ⟨2,_,rfl,b,k,hTd,hfin,hOk,hNm,hSh,hRun,hbn,by omega,by omega,⟨fun _ => ⟨rfl, ?_⟩,fun g => absurd g c1,fun g => absurd g c1,fun g => absurd g c1⟩,_,s1,fun _ => rfl⟩⟩
        rw [pla_add hf hRun (by omega)]
   rcases hph with rfl | ⟨k,rfl,h12,hk⟩
   . exact hgo {} rfl (.refl _) (chose_new hs hT hB hF (by omega) (plw_bound f n b (by omega)) _ l hl2 (fun k e => by cases e))
   . rcases h12 with h1 | h2
     . refine hgo k h1 hk (chose_on _ l ?_ hT hB h1)
       rw [eI,eN]
       exact hs
     . rw [<- eI, <- eN] at hs
       refine (next_kept _ l k hs hT hB hF (by omega) (plw_bound f n b (by omega)) (.inr (.inl h2))).mono ?_
       intro e w' hN
       rw [eI,eN] at hN
       unfold KeptE at hN
       rw [if_neg (by omega),if_pos h2] at hN
       obtain ⟨rfl,R',s1,s2,s3⟩:=hN
       have hbd:=(hk.bad rfl h2).1
       have hfin:Fin f n b u k:=⟨hk,by omega, .inl (by omega)⟩
       rw [h2]
       refine ⟨R',s2,s3, .inr ⟨2,_,rfl,b,k,hTd,hfin,hOk,hNm,hSh,hRun,hbn,by omega,by omega,⟨fun _ => ⟨rfl, ?_⟩,fun g => (by omega),fun g => (by omega),fun g => (by omega)⟩,_,s1,fun _ => rfl⟩⟩
       rw [pla_add hf hRun (by omega)]
 . obtain ⟨t1,t2,t3,t4,t5,t6,t7,t8,t9,t10⟩:=tag_on hf hOk hNm hSh hRun hbn hk h0
   have hps:=hk.within (Nat.zero_le _)
   rw [<- eI, <- eN] at hs
   refine (next_kept _ l { k with ps:=k.ps - k.tg,tg:=0,text := [] } hs hT hB (fun j => hf _) (by omega) (plw_bound f n _ (by omega)) (.inl ⟨h0,rfl,Nat.zero_le _,by show k.ps - k.tg <= _; omega⟩)).mono ?_
   intro e w' hN
   unfold KeptE at hN
   rw [if_pos h0] at hN
   obtain ⟨av,v,rfl,s1,s2,s3,s4,s5⟩:=hN
   have e1:pla (plw f n (b + k.tg)) (Rn.off f (b + k.tg)) (n - (b + k.tg)) 0=plw f n (b + k.tg):=pla_add hf t8 (by omega)
   have e2:pla (plw f n (b + k.tg)) (Rn.off f (b + k.tg)) (n - (b + k.tg)) (k.ps - k.tg)=plw f n (b + k.ps):=by
    rw [pla_add hf t8 (by omega),show b + k.tg + (k.ps - k.tg)=b + k.ps by omega]
   refine ⟨noRaw v,s2,s3, .inl ⟨tkG f n b k,av, ?_, ?_,s4,s5,by show k.kind <= 3; omega,t7⟩⟩
   . show Ansr (tokA k.kind k.tag av [] (pla _ _ _ 0) (pla _ _ _ (k.ps - k.tg))) _ _=_
     rw [e1,e2]
     rfl
   . rw [Dr.after_tag _ _ _ _ _ (by omega)]
     have hT2:=hTd.snoc hk h0
     unfold tks at hT2
     rw [if_neg ht] at hT2
     simp only [e2,Fd.off_off,Nat.sub_sub] at s1
     rw [show b + k.tg + (k.ps - k.tg)=b + k.ps by omega] at s1
     exact ⟨b + k.ps,_,hT2,t1,t2,t3,t4,t5, .inl ⟨by simp,none,s1, .inl rfl⟩⟩
end Sc
end Go.Proofs.YteiiepjegdlbeaaDoor
