import Derived.Test.YteiiepjegdlbeaaDoorChTab
import Derived.Test.YteiiepjegdlbeaaDoorChShelf
import Derived.Test.YteiiepjegdlbeaaDoorRnAt
import Derived.Test.YteiiepjegdlbeaaDoorRnEnc
import Derived.Laws.CopyRow
import Derived.Laws.CopyOwn
import Derived.Lib.SmallJoins
import Derived.Deep.LoopGhost
set_option maxHeartbeats 2000000
set_option maxRecDepth 100000
namespace Go.Proofs.YteiiepjegdlbeaaDoor
open Go.RowKit Go.Lib
namespace Ch
end Ch
end Go.Proofs.YteiiepjegdlbeaaDoor
namespace Go.Proofs.YteiiepjegdlbeaaDoor
open Go.RowKit Go.Lib
namespace Ch
end Ch
end Go.Proofs.YteiiepjegdlbeaaDoor
namespace Go.Proofs.YteiiepjegdlbeaaDoor
open Go.RowKit Go.Lib
namespace Ch
def goOn (f:Nat -> Nat) (n y x:Nat) : Nat -> Nat:=fun j => if j < n then f j else if j=1 then y else x
theorem goOn_old (f:Nat -> Nat) {n y x j:Nat} (h:j < n) : goOn f n y x j=f j:=by unfold goOn; rw [if_pos h]
theorem goOn_one (f:Nat -> Nat) {n y x:Nat} (h:n <= 1) : goOn f n y x 1=y:=by unfold goOn; rw [if_neg (by omega),if_pos rfl]
theorem goOn_new (f:Nat -> Nat) {n y x j:Nat} (h:n <= j) (hj:2 <= j) : goOn f n y x j=x:=by unfold goOn; rw [if_neg (by omega),if_neg (by omega)]
theorem len_all (m b0 b1 b2 b3:Nat) (h0:0 < m) (hs:m <= Rn.size b0) (h1:1 < m -> Rn.lo b0 <= b1 /\ b1 <= Rn.hi b0) (h2:2 < m -> 128 <= b2 /\ b2 <= 191) (h3:3 < m -> 128 <= b3 /\ b3 <= 191) : Rn.len m b0 b1 b2 b3=m:=by
 have:=Rn.size_le b0
 unfold Rn.len
 repeat' split
 all_goals omega
theorem len_all' {m b0 b1 b2 b3:Nat} (h:Rn.len m b0 b1 b2 b3=m) (h0:0 < m) : m <= Rn.size b0 /\ (1 < m -> Rn.lo b0 <= b1 /\ b1 <= Rn.hi b0) /\ (2 < m -> 128 <= b2 /\ b2 <= 191) /\ (3 < m -> 128 <= b3 /\ b3 <= 191):=by
 have hs:=Rn.size_le b0
 have hl:=Rn.len_le_size m b0 b1 b2 b3
 unfold Rn.len at h
 split at h
 . omega
 . split at h
   . refine ⟨?_, ?_, ?_, ?_⟩ <;> omega
   . split at h
     . refine ⟨?_, ?_, ?_, ?_⟩ <;> omega
     . split at h
       . refine ⟨?_, ?_, ?_, ?_⟩ <;> omega
       . refine ⟨?_, ?_, ?_, ?_⟩ <;> omega
theorem good_iff (f:Nat -> Nat) (m:Nat) (h:0 < m) : (Rn.whole f m=true /\ Rn.fs f m=m \/ Rn.waits f m=true) ↔ Rn.fk f m=m:=by
 have e:Rn.fs f m=Rn.size (f 0):=by unfold Rn.fs; rw [if_neg (by omega)]
 have hl:=Rn.fk_le_fs f m
 simp only [Rn.whole,Rn.waits,decide_eq_true_eq]
 rw [e] at hl ⊢
 omega
end Ch
def CompAt (w:World) (B:Nat) (g:Nat -> Nat) : Prop:=w.heap[B]? = some (.cells #[.int .u8 (g 0:Nat), .int .u8 (g 1:Nat), .int .u8 (g 2:Nat), .int .u8 (g 3:Nat)] 131 (0,0))
theorem CompAt.below {w w':World} {B D:Nat} {g:Nat -> Nat} (h:CompAt w D g) (hb:Below B w w') (hB:D < B) : CompAt w' D g:=(hb.block D hB).trans h
theorem CompAt.bytes {w:World} {B m:Nat} {g:Nat -> Nat} (h:CompAt w B g) (hm:m <= 4) : Bytes w B 0 m g:=by
 intro j hj
 rw [Lib.cell_of_heap h,Nat.zero_add]
 have hj4:j=0 \/ j=1 \/ j=2 \/ j=3:=by omega
 rcases hj4 with rfl | rfl | rfl | rfl <;> rfl
theorem CompAt.set {w:World} {B i v:Nat} {g:Nat -> Nat} (h:CompAt w B g) (hi:i < 4) : CompAt (w.setCell ⟨B,i,none⟩ (.int .u8 (v:Nat))) B (fun j => if j=i then v else g j):=by
 have hi4:i=0 \/ i=1 \/ i=2 \/ i=3:=by omega
 rcases hi4 with rfl | rfl | rfl | rfl
 . exact Go.Joins.block_setCell (i:=0) h _
 . exact Go.Joins.block_setCell (i:=1) h _
 . exact Go.Joins.block_setCell (i:=2) h _
 . exact Go.Joins.block_setCell (i:=3) h _
theorem alloc_setRow (w:World) (cur cs:Array Value) (t:TypeId) : (w.alloc (.cells cur t)).setRow w.heap.size cs=w.alloc (.cells cs t):=by
 unfold World.setRow World.alloc
 congr 1
 apply Array.ext_getElem?
 intro i
 by_cases hi:i=w.heap.size
 . subst hi
   simp [Array.getElem_modify]
 . rw [Array.getElem?_modify,if_neg (Ne.symm hi),Array.getElem?_push,Array.getElem?_push,if_neg hi,if_neg hi]
theorem comp_copy (f:Nat -> Nat) (n b o cap:Nat) (w:World) (hp:Bytes w b o n f) (hn:n <= 4) :
 ∃ g:Nat -> Nat,(∀ j,j < n -> g j=f j) /\ (∀ j,n <= j -> g j=0) /\ (Builtin.copy_ #[22,22] 3 #[.slice (some ⟨w.heap.size,0,none⟩) 4 4, .slice (some ⟨b,o,none⟩) n cap]).run Tryd.prog (w.alloc (.cells #[.int .u8 0, .int .u8 0, .int .u8 0, .int .u8 0] 131)) =
  .ok (.int .i64 n) (w.alloc (.cells #[.int .u8 (g 0:Nat), .int .u8 (g 1:Nat), .int .u8 (g 2:Nat), .int .u8 (g 3:Nat)] 131)):=by
 refine ⟨fun j => if j < n then f j else 0,fun j hj => if_pos hj,fun j hj => if_neg (by omega), ?_⟩
 have hsrc : ∀ j v,((List.range n).map fun j => Value.int .u8 (f j:Nat))[j]? = some v -> (w.alloc (.cells #[.int .u8 0, .int .u8 0, .int .u8 0, .int .u8 0] 131)).cell? (Addr.add ⟨b,o,none⟩ j)=some v:=by
  intro j v hv
  have hj:j < n:=by
   have:=(List.getElem?_eq_some_iff.1 hv).1
   simpa using this
  simp [hj] at hv
  subst hv
  rw [show (Addr.add ⟨b,o,none⟩ j)=⟨b,o + j,none⟩ from by simp [Addr.add]]
  exact (hp.below ((Below.refl w.heap.size w).alloc (Nat.le_refl _) _) (Nat.le_refl _)) j hj
 have h:=run_copy_row (P:=Tryd.prog) (w.alloc (.cells #[.int .u8 0, .int .u8 0, .int .u8 0, .int .u8 0] 131)) 22 22 3 5 w.heap.size 0 4 4 ⟨b,o,none⟩ n cap #[.int .u8 0, .int .u8 0, .int .u8 0, .int .u8 0] 131 ((List.range n).map fun j => .int .u8 (f j:Nat)) Tryd.underlying22 (by kernel_rfl) (by show (w.heap.push _)[w.heap.size]? = _; simp)
  (by rw [List.length_map,List.length_range]; exact (Nat.min_eq_left hn).symm) hsrc (by simp; omega) (by intro v hv; simp at hv; obtain ⟨a,_,rfl⟩:=hv; rfl)
 rw [alloc_setRow] at h
 rw [h]
 have h5:n=0 \/ n=1 \/ n=2 \/ n=3 \/ n=4:=by omega
 rcases h5 with rfl | rfl | rfl | rfl | rfl <;> rfl
theorem compLow_any (f:Nat -> Nat) (n b o cap:Nat) (w:World) (hf : ∀ j,f j < 256) (hT:Lib.Utf8Tabs 2 3 w) (hp:Bytes w b o n f) (h1:1 <= n) (hk:Rn.fk f n=n) :
 Calls Tryd.prog 78 #[.slice (some ⟨b,o,none⟩) n cap, .int .u8 128, .int .i64 (1)] w fun e w' => e = .returned (.int .i32 (Rn.fv (Ch.goOn f n (Rn.lo (f 0)) 128) : Nat)) /\ Below w.heap.size w w':=by
 obtain ⟨hns,a1,a2,a3⟩:=Ch.len_all' hk h1
 have hs4:=Rn.size_le (f 0)
 have hn4:n <= 4:=by omega
 obtain ⟨g0,hg0,hg1,hcp⟩:=comp_copy f n b o cap w hp hn4
 have hlh:128 <= Rn.lo (f 0) /\ Rn.lo (f 0) <= Rn.hi (f 0) /\ Rn.hi (f 0) <= 191:=by
  unfold Rn.lo Rn.hi
  repeat' split
  all_goals omega
 clear hp hk
 go_enter Tryd.func78,Tryd.ntmps78
 go_wp2
 go_loopg [8] 10000 (fun gk i wr => ∃ (m:Nat) (g:Nat -> Nat),i = .int .i64 m /\ CompAt wr w.heap.size g /\ Below w.heap.size w wr /\ w.heap.size < wr.heap.size /\ n <= m /\ m <= Rn.size (f 0) /\ (∀ j,g j < 256) /\ (4 - m) * 2000 + (1000 - g 1) < gk /\
  g 0=f 0 /\ (2 < m -> g 2=Ch.goOn f n (Rn.lo (f 0)) 128 2) /\ (3 < m -> g 3=Ch.goOn f n (Rn.lo (f 0)) 128 3) /\ (1 < m -> (2 <= n -> g 1=f 1) /\ (n=1 -> (128 <= g 1 /\ g 1 <= Rn.lo (f 0)) /\ (2 < m -> g 1=Rn.lo (f 0)))))
 case atStart =>
  refine ⟨n,g0,rfl,by show (w.heap.push _)[w.heap.size]? = _; simp,(Below.refl _ _).alloc (Nat.le_refl _) _,by simp,Nat.le_refl _,hns, ?_, ?_,hg0 0 (by omega),fun h => ?_,fun h => ?_,fun h => ⟨fun _ => hg0 1 (by omega),fun e => by omega⟩⟩
  . intro j
    by_cases hj:j < n
    . rw [hg0 j hj]; exact hf j
    . rw [hg1 j (by omega)]; omega
  . have:g0 1 < 256:=by
     by_cases hj:1 < n
     . rw [hg0 1 hj]; exact hf 1
     . rw [hg1 1 (by omega)]; omega
    omega
  . rw [Ch.goOn_old f h]; exact hg0 2 h
  . rw [Ch.goOn_old f h]; exact hg0 3 h
 case round =>
  obtain ⟨m,g,rfl,hC,hB,hlt,hnm,hms,hg,hm,k0,k2,k3,k1⟩:=hrel
  have hm4:m <= 4:=by omega
  have hm4z:(m:Int) <= 4:=by omega
  clear hcp hg0 hg1
  have cN:=next_first g m w.heap.size 0 4 wr (tabs_below hT hB (Nat.le_refl _)) hg (by omega) hm4 (by decide) (hC.bytes hm4)
  have q2:2 < m -> 128 <= g 2 /\ g 2 <= 191:=by
   intro h
   rw [k2 h]
   by_cases hj:2 < n
   . rw [Ch.goOn_old f hj]; exact a2 hj
   . rw [Ch.goOn_new f (by omega) (by omega)]; omega
  have q3:3 < m -> 128 <= g 3 /\ g 3 <= 191:=by
   intro h
   rw [k3 h]
   by_cases hj:3 < n
   . rw [Ch.goOn_old f hj]; exact a3 hj
   . rw [Ch.goOn_new f (by omega) (by omega)]; omega
  have hgood:=Ch.good_iff g m (by omega)
  have hrow:Rn.fk g m=m \/ (n=1 /\ m=2 /\ g 1 ≠ Rn.lo (f 0)):=by
   by_cases hx:n=1 /\ m=2 /\ g 1 ≠ Rn.lo (f 0)
   . exact .inr hx
   . refine .inl (Ch.len_all m _ _ _ _ (by omega) (by rw [k0]; exact hms) (fun h => ?_) q2 q3)
     rw [k0]
     by_cases h2:2 <= n
     . rw [(k1 h).1 h2]; exact a1 (by omega)
     . obtain ⟨r1,r2⟩:=(k1 h).2 (by omega)
       have:g 1=Rn.lo (f 0):=by
        by_cases hm2:m=2
        . exact Classical.byContradiction fun hh => hx ⟨by omega,hm2,hh⟩
        . exact r2 (by omega)
       omega
  rcases hrow with hrow | ⟨e1,e2,hne⟩
  . rcases hgood.2 hrow with ⟨hw,hfs⟩ | hw
    . rw [Rn.nx_whole hw,hfs] at cN
      have hval:Rn.fv g=Rn.fv (Ch.goOn f n (Rn.lo (f 0)) 128):=by
       obtain ⟨_,b1,_,_⟩:=Ch.len_all' hrow (by omega)
       refine Rn.fv_congr hw (fun j hj => ?_)
       have hj4:j=0 \/ j=1 \/ j=2 \/ j=3:=by omega
       rcases hj4 with rfl | rfl | rfl | rfl
       . rw [k0,Ch.goOn_old f (by omega)]
       . by_cases h2 : 2 ≤ n
         . rw [(k1 hj).1 h2,Ch.goOn_old f (by omega)]
         . rw [Ch.goOn_one f (by omega)]
           obtain ⟨r1,r2⟩:=(k1 hj).2 (by omega)
           have b1':=b1 hj
           rw [k0] at b1'
           omega
       . exact k2 hj
       . exact k3 hj
      have HV:=hide' hval
      have hfl:=Rn.fv_le g hg
      clear hval hgood hrow q2 q3 k1 k2 k3
      go_wp2_with fail
      refine cN.mono ?_
      rintro e w1 ⟨rfl,hb1⟩
      go_wp2_with fail
      go_ret
      exact ⟨by rw [<- HV.out]; rfl,hB.trans (hb1.mono (by omega))⟩
    . rw [(Rn.nx_waits hw).1] at cN
      obtain ⟨_,b1,_,_⟩:=Ch.len_all' hrow (by omega)
      have hlt4:m < Rn.size (f 0):=by
       simp only [Rn.waits,decide_eq_true_eq] at hw
       have e:Rn.fs g m=Rn.size (f 0):=by unfold Rn.fs; rw [if_neg (by omega),k0]
       rw [e] at hw
       omega
      clear hgood hrow q2 q3 hw
      have hm3:m=1 \/ m=2 \/ m=3:=by omega
      rcases hm3 with rfl | rfl | rfl
      . have c1:wr.cell? ⟨w.heap.size,1,none⟩ = some (.int .u8 (g 1:Nat)):=by rw [Lib.cell_of_heap hC]; rfl
        go_wp2_with fail
        refine cN.mono ?_
        rintro e w1 ⟨rfl,hb1⟩
        have hC1:=hC.below hb1 hlt
        have hB1:=hB.trans (hb1.mono (by omega))
        have hz1:=hb1.size
        have c2:w1.cell? ⟨w.heap.size,1,none⟩ = some (.int .u8 (g 1:Nat)):=(hb1.cell (p:=⟨w.heap.size,1,none⟩) hlt).trans c1
        have f2:w1.frozen? ⟨w.heap.size,1,none⟩ = false:=Lib.frozen_of_heap hC1 1
        go_wp2_with fail
        go_roundg (gk - 1)
        case measure => omega
        case rel =>
         have hbb:=hb1
         refine ⟨1 + 1,fun j => if j=1 then 128 else g j,rfl,hC1.set (by omega),hB1.setCell (Nat.le_refl _) _,by show _ < (World.setCell _ _ _).heap.size; simp [World.setCell]; omega,by omega,by omega, ?_, ?_, ?_, ?_, ?_, ?_⟩
         . intro j
           show (if j=1 then 128 else g j) < 256
           split
           . omega
           . exact hg j
         . show _ + (1000 - 128) < _
           omega
         . exact k0
         . intro h; omega
         . intro h; omega
         . intro _
           refine ⟨fun h => by omega,fun e => ⟨?_,fun h => by omega⟩⟩
           show 128 <= 128 /\ 128 <= Rn.lo (f 0)
           omega
      . have c1:wr.cell? ⟨w.heap.size,2,none⟩ = some (.int .u8 (g 2:Nat)):=by rw [Lib.cell_of_heap hC]; rfl
        go_wp2_with fail
        refine cN.mono ?_
        rintro e w1 ⟨rfl,hb1⟩
        have hC1:=hC.below hb1 hlt
        have hB1:=hB.trans (hb1.mono (by omega))
        have hz1:=hb1.size
        have c2:w1.cell? ⟨w.heap.size,2,none⟩ = some (.int .u8 (g 2:Nat)):=(hb1.cell (p:=⟨w.heap.size,2,none⟩) hlt).trans c1
        have f2:w1.frozen? ⟨w.heap.size,2,none⟩ = false:=Lib.frozen_of_heap hC1 2
        go_wp2_with fail
        go_roundg (gk - 1)
        case measure => omega
        case rel =>
         have hbb:=hb1
         refine ⟨2 + 1,fun j => if j=2 then 128 else g j,rfl,hC1.set (by omega),hB1.setCell (Nat.le_refl _) _,by show _ < (World.setCell _ _ _).heap.size; simp [World.setCell]; omega,by omega,by omega, ?_, ?_, ?_, ?_, ?_, ?_⟩
         . intro j
           show (if j=2 then 128 else g j) < 256
           split
           . omega
           . exact hg j
         . show _ + (1000 - g 1) < _
           omega
         . exact k0
         . intro h
           show 128=_
           rw [Ch.goOn_new f (by omega) (by omega)]
         . intro h; omega
         . intro _
           refine ⟨fun h => (k1 (by omega)).1 h,fun e => ?_⟩
           obtain ⟨r1,r2⟩:=(k1 (by omega)).2 e
           have b1':=b1 (by omega)
           rw [k0] at b1'
           refine ⟨r1,fun h => ?_⟩
           show g 1=_
           omega
      . have c1:wr.cell? ⟨w.heap.size,3,none⟩ = some (.int .u8 (g 3:Nat)):=by rw [Lib.cell_of_heap hC]; rfl
        go_wp2_with fail
        refine cN.mono ?_
        rintro e w1 ⟨rfl,hb1⟩
        have hC1:=hC.below hb1 hlt
        have hB1:=hB.trans (hb1.mono (by omega))
        have hz1:=hb1.size
        have c2:w1.cell? ⟨w.heap.size,3,none⟩ = some (.int .u8 (g 3:Nat)):=(hb1.cell (p:=⟨w.heap.size,3,none⟩) hlt).trans c1
        have f2:w1.frozen? ⟨w.heap.size,3,none⟩ = false:=Lib.frozen_of_heap hC1 3
        go_wp2_with fail
        go_roundg (gk - 1)
        case measure => omega
        case rel =>
         have hbb:=hb1
         refine ⟨3 + 1,fun j => if j=3 then 128 else g j,rfl,hC1.set (by omega),hB1.setCell (Nat.le_refl _) _,by show _ < (World.setCell _ _ _).heap.size; simp [World.setCell]; omega,by omega,by omega, ?_, ?_, ?_, ?_, ?_, ?_⟩
         . intro j
           show (if j=3 then 128 else g j) < 256
           split
           . omega
           . exact hg j
         . show _ + (1000 - g 1) < _
           omega
         . exact k0
         . intro h
           exact k2 (by omega)
         . intro h
           show 128=_
           rw [Ch.goOn_new f (by omega) (by omega)]
         . intro _
           refine ⟨fun h => (k1 (by omega)).1 h,fun e => ?_⟩
           obtain ⟨r1,r2⟩:=(k1 (by omega)).2 e
           exact ⟨r1,fun h => r2 (by omega)⟩
  . subst e1 e2
    have hno:Rn.whole g 2=false /\ Rn.waits g 2=false:=by
     have hnk : ¬ Rn.fk g 2=2:=by
      intro h
      obtain ⟨_,b1,_,_⟩:=Ch.len_all' h (by omega)
      have b1':=b1 (by omega)
      rw [k0] at b1'
      have:=((k1 (by omega)).2 rfl).1
      omega
     have es:2 <= Rn.fs g 2:=by unfold Rn.fs; rw [if_neg (by omega),k0]; exact hms
     have hle:=Rn.fk_le g 2
     constructor
     . simp only [Rn.whole,decide_eq_false_iff_not]; omega
     . simp only [Rn.waits,decide_eq_false_iff_not]; omega
    rw [Rn.nx_bad (by omega) hno.2 hno.1] at cN
    have r1:=((k1 (by omega)).2 rfl).1
    have c1:wr.cell? ⟨w.heap.size,1,none⟩ = some (.int .u8 (g 1:Nat)):=by rw [Lib.cell_of_heap hC]; rfl
    have hg1:=hg 1
    clear hgood q2 q3 hno
    go_wp2_with fail
    refine cN.mono ?_
    rintro e w1 ⟨rfl,hb1⟩
    have hC1:=hC.below hb1 hlt
    have hB1:=hB.trans (hb1.mono (by omega))
    have hz1:=hb1.size
    have c2:w1.cell? ⟨w.heap.size,1,none⟩ = some (.int .u8 (g 1:Nat)):=(hb1.cell (p:=⟨w.heap.size,1,none⟩) hlt).trans c1
    have f2:w1.frozen? ⟨w.heap.size,1,none⟩ = false:=Lib.frozen_of_heap hC1 1
    go_wp2_with fail
    go_roundg (gk - 1)
    case measure => omega
    case rel =>
     refine ⟨2,fun j => if j=1 then g 1 + 1 else g j,rfl,hC1.set (v:=g 1 + 1) (by omega),hB1.setCell (Nat.le_refl _) _,by show _ < (World.setCell _ _ _).heap.size; simp [World.setCell]; omega,by omega,by omega, ?_, ?_, ?_, ?_, ?_, ?_⟩
     . intro j
       show (if j=1 then g 1 + 1 else g j) < 256
       split
       . omega
       . exact hg j
     . show _ + (1000 - (g 1 + 1)) < _
       omega
     . exact k0
     . intro h; omega
     . intro h; omega
     . intro _
       refine ⟨fun h => by omega,fun e => ⟨?_,fun h => by omega⟩⟩
       show 128 <= g 1 + 1 /\ g 1 + 1 <= Rn.lo (f 0)
       omega
theorem compHigh_any (f:Nat -> Nat) (n b o cap:Nat) (w:World) (hf : ∀ j,f j < 256) (hT:Lib.Utf8Tabs 2 3 w) (hp:Bytes w b o n f) (h1:1 <= n) (hk:Rn.fk f n=n) :
 Calls Tryd.prog 78 #[.slice (some ⟨b,o,none⟩) n cap, .int .u8 191, .int .i64 (-1)] w fun e w' => e = .returned (.int .i32 (Rn.fv (Ch.goOn f n (Rn.hi (f 0)) 191) : Nat)) /\ Below w.heap.size w w':=by
 obtain ⟨hns,a1,a2,a3⟩:=Ch.len_all' hk h1
 have hs4:=Rn.size_le (f 0)
 have hn4:n <= 4:=by omega
 obtain ⟨g0,hg0,hg1,hcp⟩:=comp_copy f n b o cap w hp hn4
 have hlh:128 <= Rn.lo (f 0) /\ Rn.lo (f 0) <= Rn.hi (f 0) /\ Rn.hi (f 0) <= 191:=by
  unfold Rn.lo Rn.hi
  repeat' split
  all_goals omega
 clear hp hk
 go_enter Tryd.func78,Tryd.ntmps78
 go_wp2
 go_loopg [8] 10000 (fun gk i wr => ∃ (m:Nat) (g:Nat -> Nat),i = .int .i64 m /\ CompAt wr w.heap.size g /\ Below w.heap.size w wr /\ w.heap.size < wr.heap.size /\ n <= m /\ m <= Rn.size (f 0) /\ (∀ j,g j < 256) /\ (4 - m) * 2000 + (g 1) < gk /\
  g 0=f 0 /\ (2 < m -> g 2=Ch.goOn f n (Rn.hi (f 0)) 191 2) /\ (3 < m -> g 3=Ch.goOn f n (Rn.hi (f 0)) 191 3) /\ (1 < m -> (2 <= n -> g 1=f 1) /\ (n=1 -> (Rn.hi (f 0) <= g 1 /\ g 1 <= 191) /\ (2 < m -> g 1=Rn.hi (f 0)))))
 case atStart =>
  refine ⟨n,g0,rfl,by show (w.heap.push _)[w.heap.size]? = _; simp,(Below.refl _ _).alloc (Nat.le_refl _) _,by simp,Nat.le_refl _,hns, ?_, ?_,hg0 0 (by omega),fun h => ?_,fun h => ?_,fun h => ⟨fun _ => hg0 1 (by omega),fun e => by omega⟩⟩
  . intro j
    by_cases hj:j < n
    . rw [hg0 j hj]; exact hf j
    . rw [hg1 j (by omega)]; omega
  . have:g0 1 < 256:=by
     by_cases hj:1 < n
     . rw [hg0 1 hj]; exact hf 1
     . rw [hg1 1 (by omega)]; omega
    omega
  . rw [Ch.goOn_old f h]; exact hg0 2 h
  . rw [Ch.goOn_old f h]; exact hg0 3 h
 case round =>
  obtain ⟨m,g,rfl,hC,hB,hlt,hnm,hms,hg,hm,k0,k2,k3,k1⟩:=hrel
  have hm4:m <= 4:=by omega
  have hm4z:(m:Int) <= 4:=by omega
  clear hcp hg0 hg1
  have cN:=next_first g m w.heap.size 0 4 wr (tabs_below hT hB (Nat.le_refl _)) hg (by omega) hm4 (by decide) (hC.bytes hm4)
  have q2:2 < m -> 128 <= g 2 /\ g 2 <= 191:=by
   intro h
   rw [k2 h]
   by_cases hj:2 < n
   . rw [Ch.goOn_old f hj]; exact a2 hj
   . rw [Ch.goOn_new f (by omega) (by omega)]; omega
  have q3:3 < m -> 128 <= g 3 /\ g 3 <= 191:=by
   intro h
   rw [k3 h]
   by_cases hj:3 < n
   . rw [Ch.goOn_old f hj]; exact a3 hj
   . rw [Ch.goOn_new f (by omega) (by omega)]; omega
  have hgood:=Ch.good_iff g m (by omega)
  have hrow:Rn.fk g m=m \/ (n=1 /\ m=2 /\ g 1 ≠ Rn.hi (f 0)):=by
   by_cases hx:n=1 /\ m=2 /\ g 1 ≠ Rn.hi (f 0)
   . exact .inr hx
   . refine .inl (Ch.len_all m _ _ _ _ (by omega) (by rw [k0]; exact hms) (fun h => ?_) q2 q3)
     rw [k0]
     by_cases h2:2 <= n
     . rw [(k1 h).1 h2]; exact a1 (by omega)
     . obtain ⟨r1,r2⟩:=(k1 h).2 (by omega)
       have:g 1=Rn.hi (f 0):=by
        by_cases hm2:m=2
        . exact Classical.byContradiction fun hh => hx ⟨by omega,hm2,hh⟩
        . exact r2 (by omega)
       omega
  rcases hrow with hrow | ⟨e1,e2,hne⟩
  . rcases hgood.2 hrow with ⟨hw,hfs⟩ | hw
    . rw [Rn.nx_whole hw,hfs] at cN
      have hval:Rn.fv g=Rn.fv (Ch.goOn f n (Rn.hi (f 0)) 191):=by
       obtain ⟨_,b1,_,_⟩:=Ch.len_all' hrow (by omega)
       refine Rn.fv_congr hw (fun j hj => ?_)
       have hj4:j=0 \/ j=1 \/ j=2 \/ j=3:=by omega
       rcases hj4 with rfl | rfl | rfl | rfl
       . rw [k0,Ch.goOn_old f (by omega)]
       . by_cases h2 : 2 ≤ n
         . rw [(k1 hj).1 h2,Ch.goOn_old f (by omega)]
         . rw [Ch.goOn_one f (by omega)]
           obtain ⟨r1,r2⟩:=(k1 hj).2 (by omega)
           have b1':=b1 hj
           rw [k0] at b1'
           omega
       . exact k2 hj
       . exact k3 hj
      have HV:=hide' hval
      have hfl:=Rn.fv_le g hg
      clear hval hgood hrow q2 q3 k1 k2 k3
      go_wp2_with fail
      refine cN.mono ?_
      rintro e w1 ⟨rfl,hb1⟩
      go_wp2_with fail
      go_ret
      exact ⟨by rw [<- HV.out]; rfl,hB.trans (hb1.mono (by omega))⟩
    . rw [(Rn.nx_waits hw).1] at cN
      obtain ⟨_,b1,_,_⟩:=Ch.len_all' hrow (by omega)
      have hlt4:m < Rn.size (f 0):=by
       simp only [Rn.waits,decide_eq_true_eq] at hw
       have e:Rn.fs g m=Rn.size (f 0):=by unfold Rn.fs; rw [if_neg (by omega),k0]
       rw [e] at hw
       omega
      clear hgood hrow q2 q3 hw
      have hm3:m=1 \/ m=2 \/ m=3:=by omega
      rcases hm3 with rfl | rfl | rfl
      . have c1:wr.cell? ⟨w.heap.size,1,none⟩ = some (.int .u8 (g 1:Nat)):=by rw [Lib.cell_of_heap hC]; rfl
        go_wp2_with fail
        refine cN.mono ?_
        rintro e w1 ⟨rfl,hb1⟩
        have hC1:=hC.below hb1 hlt
        have hB1:=hB.trans (hb1.mono (by omega))
        have hz1:=hb1.size
        have c2:w1.cell? ⟨w.heap.size,1,none⟩ = some (.int .u8 (g 1:Nat)):=(hb1.cell (p:=⟨w.heap.size,1,none⟩) hlt).trans c1
        have f2:w1.frozen? ⟨w.heap.size,1,none⟩ = false:=Lib.frozen_of_heap hC1 1
        go_wp2_with fail
        go_roundg (gk - 1)
        case measure => omega
        case rel =>
         have hbb:=hb1
         refine ⟨1 + 1,fun j => if j=1 then 191 else g j,rfl,hC1.set (by omega),hB1.setCell (Nat.le_refl _) _,by show _ < (World.setCell _ _ _).heap.size; simp [World.setCell]; omega,by omega,by omega, ?_, ?_, ?_, ?_, ?_, ?_⟩
         . intro j
           show (if j=1 then 191 else g j) < 256
           split
           . omega
           . exact hg j
         . show _ + (191) < _
           omega
         . exact k0
         . intro h; omega
         . intro h; omega
         . intro _
           refine ⟨fun h => by omega,fun e => ⟨?_,fun h => by omega⟩⟩
           show Rn.hi (f 0) <= 191 /\ 191 <= 191
           omega
      . have c1:wr.cell? ⟨w.heap.size,2,none⟩ = some (.int .u8 (g 2:Nat)):=by rw [Lib.cell_of_heap hC]; rfl
        go_wp2_with fail
        refine cN.mono ?_
        rintro e w1 ⟨rfl,hb1⟩
        have hC1:=hC.below hb1 hlt
        have hB1:=hB.trans (hb1.mono (by omega))
        have hz1:=hb1.size
        have c2:w1.cell? ⟨w.heap.size,2,none⟩ = some (.int .u8 (g 2:Nat)):=(hb1.cell (p:=⟨w.heap.size,2,none⟩) hlt).trans c1
        have f2:w1.frozen? ⟨w.heap.size,2,none⟩ = false:=Lib.frozen_of_heap hC1 2
        go_wp2_with fail
        go_roundg (gk - 1)
        case measure => omega
        case rel =>
         have hbb:=hb1
         refine ⟨2 + 1,fun j => if j=2 then 191 else g j,rfl,hC1.set (by omega),hB1.setCell (Nat.le_refl _) _,by show _ < (World.setCell _ _ _).heap.size; simp [World.setCell]; omega,by omega,by omega, ?_, ?_, ?_, ?_, ?_, ?_⟩
         . intro j
           show (if j=2 then 191 else g j) < 256
           split
           . omega
           . exact hg j
         . show _ + (g 1) < _
           omega
         . exact k0
         . intro h
           show 191=_
           rw [Ch.goOn_new f (by omega) (by omega)]
         . intro h; omega
         . intro _
           refine ⟨fun h => (k1 (by omega)).1 h,fun e => ?_⟩
           obtain ⟨r1,r2⟩:=(k1 (by omega)).2 e
           have b1':=b1 (by omega)
           rw [k0] at b1'
           refine ⟨r1,fun h => ?_⟩
           show g 1=_
           omega
      . have c1:wr.cell? ⟨w.heap.size,3,none⟩ = some (.int .u8 (g 3:Nat)):=by rw [Lib.cell_of_heap hC]; rfl
        go_wp2_with fail
        refine cN.mono ?_
        rintro e w1 ⟨rfl,hb1⟩
        have hC1:=hC.below hb1 hlt
        have hB1:=hB.trans (hb1.mono (by omega))
        have hz1:=hb1.size
        have c2:w1.cell? ⟨w.heap.size,3,none⟩ = some (.int .u8 (g 3:Nat)):=(hb1.cell (p:=⟨w.heap.size,3,none⟩) hlt).trans c1
        have f2:w1.frozen? ⟨w.heap.size,3,none⟩ = false:=Lib.frozen_of_heap hC1 3
        go_wp2_with fail
        go_roundg (gk - 1)
        case measure => omega
        case rel =>
         have hbb:=hb1
         refine ⟨3 + 1,fun j => if j=3 then 191 else g j,rfl,hC1.set (by omega),hB1.setCell (Nat.le_refl _) _,by show _ < (World.setCell _ _ _).heap.size; simp [World.setCell]; omega,by omega,by omega, ?_, ?_, ?_, ?_, ?_, ?_⟩
         . intro j
           show (if j=3 then 191 else g j) < 256
           split
           . omega
           . exact hg j
         . show _ + (g 1) < _
           omega
         . exact k0
         . intro h
           exact k2 (by omega)
         . intro h
           show 191=_
           rw [Ch.goOn_new f (by omega) (by omega)]
         . intro _
           refine ⟨fun h => (k1 (by omega)).1 h,fun e => ?_⟩
           obtain ⟨r1,r2⟩:=(k1 (by omega)).2 e
           exact ⟨r1,fun h => r2 (by omega)⟩
  . subst e1 e2
    have hno:Rn.whole g 2=false /\ Rn.waits g 2=false:=by
     have hnk : ¬ Rn.fk g 2=2:=by
      intro h
      obtain ⟨_,b1,_,_⟩:=Ch.len_all' h (by omega)
      have b1':=b1 (by omega)
      rw [k0] at b1'
      have:=((k1 (by omega)).2 rfl).1
      omega
     have es:2 <= Rn.fs g 2:=by unfold Rn.fs; rw [if_neg (by omega),k0]; exact hms
     have hle:=Rn.fk_le g 2
     constructor
     . simp only [Rn.whole,decide_eq_false_iff_not]; omega
     . simp only [Rn.waits,decide_eq_false_iff_not]; omega
    rw [Rn.nx_bad (by omega) hno.2 hno.1] at cN
    have r1:=((k1 (by omega)).2 rfl).1
    have c1:wr.cell? ⟨w.heap.size,1,none⟩ = some (.int .u8 (g 1:Nat)):=by rw [Lib.cell_of_heap hC]; rfl
    have hg1:=hg 1
    clear hgood q2 q3 hno
    go_wp2_with fail
    refine cN.mono ?_
    rintro e w1 ⟨rfl,hb1⟩
    have hC1:=hC.below hb1 hlt
    have hB1:=hB.trans (hb1.mono (by omega))
    have hz1:=hb1.size
    have c2:w1.cell? ⟨w.heap.size,1,none⟩ = some (.int .u8 (g 1:Nat)):=(hb1.cell (p:=⟨w.heap.size,1,none⟩) hlt).trans c1
    have f2:w1.frozen? ⟨w.heap.size,1,none⟩ = false:=Lib.frozen_of_heap hC1 1
    go_wp2_with fail
    go_roundg (gk - 1)
    case measure => omega
    case rel =>
     refine ⟨2,fun j => if j=1 then g 1 - 1 else g j,rfl,by have h:=hC1.set (v:=g 1 - 1) (i:=1) (by omega); rw [show ((g 1:Int) + 255) % 256=((g 1 - 1:Nat) : Int) from by omega]; exact h,hB1.setCell (Nat.le_refl _) _,by show _ < (World.setCell _ _ _).heap.size; simp [World.setCell]; omega,by omega,by omega, ?_, ?_, ?_, ?_, ?_, ?_⟩
     . intro j
       show (if j=1 then g 1 - 1 else g j) < 256
       split
       . omega
       . exact hg j
     . show _ + (g 1 - 1) < _
       omega
     . exact k0
     . intro h; omega
     . intro h; omega
     . intro _
       refine ⟨fun h => by omega,fun e => ⟨?_,fun h => by omega⟩⟩
       show Rn.hi (f 0) <= g 1 - 1 /\ g 1 - 1 <= 191
       omega
end Go.Proofs.YteiiepjegdlbeaaDoor
namespace Go.Proofs.YteiiepjegdlbeaaDoor
open Go.RowKit Go.Lib
namespace Ch
def low (f:Nat -> Nat) (n:Nat) : Nat:=Rn.fv (goOn f n (Rn.lo (f 0)) 128)
def high (f:Nat -> Nat) (n:Nat) : Nat:=Rn.fv (goOn f n (Rn.hi (f 0)) 191)
def begP (c:Int) (f:Nat -> Nat) (n:Nat) : Bool:=if 0 < n /\ Rn.fk f n=n then ((nextT tab c ((low f n:Int) - 1)).2 && decide ((nextT tab c ((low f n:Int) - 1)).1 <= (high f n:Int))) else false
theorem goOn_lt (f:Nat -> Nat) (hf : ∀ j,f j < 256) (n y x:Nat) (hy:y < 256) (hx:x < 256) : ∀ j,goOn f n y x j < 256:=by
 intro j
 unfold goOn
 split
 . exact hf j
 . split <;> omega
theorem lo_hi (b:Nat) : 128 <= Rn.lo b /\ Rn.lo b <= Rn.hi b /\ Rn.hi b <= 191:=by
 unfold Rn.lo Rn.hi
 repeat' split
 all_goals omega
theorem low_lt (f:Nat -> Nat) (n:Nat) (hf : ∀ j,f j < 256) : low f n < 2097152:=Rn.fv_le _ (goOn_lt f hf n _ _ (by have:=lo_hi (f 0); omega) (by omega))
theorem high_lt (f:Nat -> Nat) (n:Nat) (hf : ∀ j,f j < 256) : high f n < 2097152:=Rn.fv_le _ (goOn_lt f hf n _ _ (by have:=lo_hi (f 0); omega) (by omega))
end Ch
def SlAt (w:World) (v:Value) (n:Nat) (f:Nat -> Nat) : Prop:=(v = .slice none 0 0 /\ n=0) \/ ∃ b o cap,v = .slice (some ⟨b,o,none⟩) n cap /\ n <= cap /\ cap <= maxLen /\ Bytes w b o n f
theorem begins_any (c:Int) (v:Value) (f:Nat -> Nat) (n:Nat) (w:World) (hf : ∀ j,f j < 256) (hS:Spans w) (hT:Lib.Utf8Tabs 2 3 w) (hv:SlAt w v n f) :
 Calls Tryd.prog 66 #[.int .i64 c,v] w fun e w' => e = .returned (.bool (Ch.begP c f n)) /\ Below w.heap.size w w':=by
 rcases hv with ⟨rfl,rfl⟩ | ⟨b,o,cap,rfl,hc,hm,hby⟩
 . have cN:=next_nil w
   rw [show Ch.begP c f 0=false from by unfold Ch.begP; rw [if_neg (by omega)]]
   go_enter Tryd.func66,Tryd.ntmps66
   go_wp2_with fail
   refine cN.mono ?_
   rintro e w1 ⟨rfl,rfl⟩
   go_wp2_with fail
   go_ret
   exact ⟨rfl,Below.refl _ _⟩
 by_cases h0:n=0
 . subst h0
   have cN:=next_done b o 0 cap w hc hm
   rw [show Ch.begP c f 0=false from by unfold Ch.begP; rw [if_neg (by omega)]]
   go_enter Tryd.func66,Tryd.ntmps66
   go_wp2_with fail
   refine cN.mono ?_
   rintro e w1 ⟨rfl,rfl⟩
   go_wp2_with fail
   go_ret
   exact ⟨rfl,Below.refl _ _⟩
 have cN:=next_first f n b o cap w hT hf (by omega) hc hm hby
 have hgood:=Ch.good_iff f n (by omega)
 have hn9:n <= 9223372036854775807:=by unfold maxLen at hm; omega
 by_cases hk:Rn.fk f n=n
 . have cL : ∀ w1,Below w.heap.size w w1 -> _:=fun w1 hb => compLow_any f n b o cap w1 hf (tabs_below hT hb (Nat.le_refl _)) (hby.below hb (Nat.le_refl _)) (by omega) hk
   have cH : ∀ w1,Below w.heap.size w w1 -> _:=fun w1 hb => compHigh_any f n b o cap w1 hf (tabs_below hT hb (Nat.le_refl _)) (hby.below hb (Nat.le_refl _)) (by omega) hk
   have hl:=Ch.low_lt f n hf
   have hh:=Ch.high_lt f n hf
   have cX : ∀ w1,Below w.heap.size w w1 -> _:=fun w1 hb => chNext_any c ((Ch.low f n:Int) - 1) w1 (hS.below hb (Nat.le_refl _)) (by omega)
   rw [show Ch.begP c f n=((Ch.nextT Ch.tab c ((Ch.low f n:Int) - 1)).2 && decide ((Ch.nextT Ch.tab c ((Ch.low f n:Int) - 1)).1 <= (Ch.high f n:Int))) from by unfold Ch.begP; rw [if_pos ⟨by omega,hk⟩]]
   replace cL : ∀ w1,Below w.heap.size w w1 -> Calls Tryd.prog 78 #[.slice (some ⟨b,o,none⟩) n cap, .int .u8 128, .int .i64 1] w1 fun e w' => e = .returned (.int .i32 (Ch.low f n:Nat)) /\ Below w1.heap.size w1 w':=cL
   replace cH : ∀ w1,Below w.heap.size w w1 -> Calls Tryd.prog 78 #[.slice (some ⟨b,o,none⟩) n cap, .int .u8 191, .int .i64 (-1)] w1 fun e w' => e = .returned (.int .i32 (Ch.high f n:Nat)) /\ Below w1.heap.size w1 w':=cH
   have hnx : ∃ r how:Nat,(how=0 \/ how=1) /\ Rn.nx f n=(r,n,how):=by
    rcases hgood.2 hk with ⟨hw,hfs⟩ | hw
    . exact ⟨_,0, .inl rfl,by rw [Rn.nx_whole hw,hfs]⟩
    . exact ⟨_,1, .inr rfl,(Rn.nx_waits hw).1⟩
   obtain ⟨r0,how,hhow,hnx⟩:=hnx
   rw [hnx] at cN
   clear hnx hgood hk hS hT hby
   generalize Ch.low f n=l at *
   generalize Ch.high f n=h at *
   generalize Ch.nextT Ch.tab c ((l:Int) - 1)=nx at *
   obtain ⟨nv,nb⟩:=nx
   rcases hhow with rfl | rfl
   all_goals
    cases nb
    all_goals
     go_enter Tryd.func66,Tryd.ntmps66
     go_wp2_with fail
     refine cN.mono ?_
     rintro e w1 ⟨rfl,hb1⟩
     go_wp2_with fail
     refine (cL w1 hb1).mono ?_
     rintro e w2 ⟨rfl,hb2⟩
     have hB2:=hb1.trans (hb2.mono hb1.size)
     go_wp2_with fail
     refine (cH w2 hB2).mono ?_
     rintro e w3 ⟨rfl,hb3⟩
     have hB3:=hB2.trans (hb3.mono hB2.size)
     go_wp2_with fail
     refine (cX w3 hB3).mono ?_
     rintro e w4 ⟨rfl,hb4⟩
     have hB4:=hB3.trans (hb4.mono hB3.size)
     go_wp2_with fail
     go_ret
     exact ⟨rfl,hB4⟩
 . rw [show Ch.begP c f n=false from by unfold Ch.begP; rw [if_neg (fun h => hk h.2)]]
   have hnx:(∃ r wd:Nat,wd ≠ n /\ Rn.nx f n=(r,wd,0)) \/ Rn.nx f n=(65533,1,2):=by
    cases hw:Rn.whole f n
    . cases hw2:Rn.waits f n
      . exact .inr (Rn.nx_bad (by omega) hw2 hw)
      . exact absurd (hgood.1 (.inr hw2)) hk
    . refine .inl ⟨_,_,fun e => hk (hgood.1 (.inl ⟨hw,e⟩)),Rn.nx_whole hw⟩
   clear hgood hk hS hT hby
   rcases hnx with ⟨r,wd,hwd,hnx⟩ | hnx
   . rw [hnx] at cN
     have hne:((wd:Int) != n)=true:=by simp; omega
     clear hnx
     go_enter Tryd.func66,Tryd.ntmps66
     go_wp2_with fail
     refine cN.mono ?_
     rintro e w1 ⟨rfl,hb1⟩
     go_wp2_with fail
     go_ret
     exact ⟨rfl,hb1⟩
   . rw [hnx] at cN
     clear hnx
     go_enter Tryd.func66,Tryd.ntmps66
     go_wp2_with fail
     refine cN.mono ?_
     rintro e w1 ⟨rfl,hb1⟩
     go_wp2_with fail
     go_ret
     exact ⟨rfl,hb1⟩
end Go.Proofs.YteiiepjegdlbeaaDoor
