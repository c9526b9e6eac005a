import Derived.Test.YteiiepjegdlbeaaDoorFdFeed
import Derived.Laws.CopyOwn
set_option maxHeartbeats 2000000
namespace Go.Proofs.YteiiepjegdlbeaaDoor
open Go.RowKit Go.Lib
section
variable {D B:Nat} {v:Value} {g:Nat -> Nat} {n k wh pb pr pl pc:Nat} {bad ended:Bool} {w:World}
theorem feedLineEnd_any (h:FeedAt w D B v g n k wh pb pr pl pc bad ended) (hk:k < n) :
 Calls Tryd.prog 83 #[.pointer (some ⟨D,0,none⟩)] w fun e w' => Below w.heap.size w w' /\
  e = .returned (if k + 1 < n then (if g (k + 1)=10 then .tuple #[.agg #[.int .i32 10, .int .i64 pb, .int .i64 pr, .int .i64 pl, .int .i64 pc, .int .i64 2], .int .i64 0] else .tuple #[.agg #[.int .i32 10, .int .i64 pb, .int .i64 pr, .int .i64 pl, .int .i64 pc, .int .i64 1], .int .i64 0])
   else if ended then .tuple #[.agg #[.int .i32 10, .int .i64 pb, .int .i64 pr, .int .i64 pl, .int .i64 pc, .int .i64 1], .int .i64 0] else .tuple #[.agg #[.int .i32 0, .int .i64 0, .int .i64 0, .int .i64 0, .int .i64 0, .int .i64 0], .int .i64 1]):=by
 rcases owns_row h.2 with ⟨rfl,rfl⟩ | ⟨q,cap,rfl,hq1,hq2,hc,hm,hby⟩
 . omega
 have hm':cap <= 9223372036854775807:=by unfold maxLen at hm; omega
 obtain ⟨c0,c1,c2,c3,c4,c5,c6,c7,c8⟩:=h.cell
 have hlt:=h.lt
 have b1:=fun h1 => hby (k + 1) h1
 clear h hby hm
 have i1 : ¬ ((k:Int) + 1 < 0):=by omega
 have i2 : ¬ ((n:Int) < (k:Int) + 1):=by omega
 have i3:(k:Int) + 1 <= n:=by omega
 by_cases h1:k + 1 < n
 . have b:=b1 h1
   rw [Nat.zero_add] at b
   have j1:((n - (k + 1) : Nat) : Int) ≠ 0:=by omega
   have j2:0 < n - (k + 1):=by omega
   clear b1
   rw [if_pos h1]
   by_cases hg:g (k + 1)=10
   . rw [if_pos hg]
     rw [hg] at b
     go_enter Tryd.func83,Tryd.ntmps83
     go_wp2
     go_quiet (fail)
     go_wp2
     all_goals refine bodyPost_ret (v := .tuple #[.agg #[.int .i32 10, .int .i64 pb, .int .i64 pr, .int .i64 pl, .int .i64 pc, .int .i64 2], .int .i64 0]) (by simp [results,Tryd.results83,go_sem]) rfl ⟨?_,rfl⟩
     all_goals (repeat refine Below.setCell ?_ (by simp) _)
     all_goals exact below_drewN (((Below.refl _ _).alloc (Nat.le_refl _) _).alloc (by simp) _) _
   . rw [if_neg hg]
     have hg':((g (k + 1) : Int) == 10)=false:=by simp; omega
     generalize g (k + 1)=gg at *
     clear hg
     go_enter Tryd.func83,Tryd.ntmps83
     go_wp2
     go_quiet (fail)
     go_wp2
     all_goals refine bodyPost_ret (v := .tuple #[.agg #[.int .i32 10, .int .i64 pb, .int .i64 pr, .int .i64 pl, .int .i64 pc, .int .i64 1], .int .i64 0]) (by simp [results,Tryd.results83,go_sem]) rfl ⟨?_,rfl⟩
     all_goals (repeat refine Below.setCell ?_ (by simp) _)
     all_goals exact below_drewN (((Below.refl _ _).alloc (Nat.le_refl _) _).alloc (by simp) _) _
 . rw [if_neg h1]
   have e1:n=k + 1:=by omega
   subst e1
   clear b1 h1
   cases ended
   . rw [if_neg (by simp)]
     go_enter Tryd.func83,Tryd.ntmps83
     go_wp2
     go_quiet (fail)
     go_wp2
     all_goals refine bodyPost_ret (v := .tuple #[.agg #[.int .i32 0, .int .i64 0, .int .i64 0, .int .i64 0, .int .i64 0, .int .i64 0], .int .i64 1]) (by simp [results,Tryd.results83,go_sem]) rfl ⟨?_,rfl⟩
     all_goals (repeat refine Below.setCell ?_ (by simp) _)
     all_goals exact below_drewN (((Below.refl _ _).alloc (Nat.le_refl _) _).alloc (by simp) _) _
   . rw [if_pos rfl]
     go_enter Tryd.func83,Tryd.ntmps83
     go_wp2
     go_quiet (fail)
     go_wp2
     all_goals refine bodyPost_ret (v := .tuple #[.agg #[.int .i32 10, .int .i64 pb, .int .i64 pr, .int .i64 pl, .int .i64 pc, .int .i64 1], .int .i64 0]) (by simp [results,Tryd.results83,go_sem]) rfl ⟨?_,rfl⟩
     all_goals (repeat refine Below.setCell ?_ (by simp) _)
     all_goals exact below_drewN (((Below.refl _ _).alloc (Nat.le_refl _) _).alloc (by simp) _) _
end
end Go.Proofs.YteiiepjegdlbeaaDoor
namespace Go.Proofs.YteiiepjegdlbeaaDoor
open Go.RowKit Go.Lib
section
variable {D B:Nat} {v:Value} {g:Nat -> Nat} {n k wh pb pr pl pc:Nat} {bad ended:Bool} {w:World}
theorem peek_have (h:FeedAt w D B v g n k wh pb pr pl pc bad ended) (r z:Nat) (hr:r ≠ 13) (cN : ∀ W,Below w.heap.size w W -> Calls Tryd.prog 77 #[v, .int .i64 k] W fun e W' => e = .returned (.tuple #[.int .i32 r, .int .i64 z, .int .i64 0, .int .i64 0]) /\ Below W.heap.size W W') :
 Calls Tryd.prog 72 #[.pointer (some ⟨D,0,none⟩)] w fun e w' => e = .returned (.tuple #[.agg #[.int .i32 r, .int .i64 pb, .int .i64 pr, .int .i64 pl, .int .i64 pc, .int .i64 z], .int .i64 0]) /\ Below w.heap.size w w':=by
 have hr':((r:Int) == 13)=false:=by simp; omega
 clear hr
 obtain ⟨c0,c1, -, -, -, -, -, -, -⟩:=h.cell
 have hlt:=h.lt
 have H:=hide' h
 clear h
 have hW:Below w.heap.size w (w.alloc (.cells #[.int .i32 0, .int .i64 0, .int .i64 0, .int .i64 0, .int .i64 0, .int .i64 0] 97)):=(Below.refl _ _).alloc (Nat.le_refl _) _
 have hN:=cN _ hW.drew
 clear cN
 go_enter Tryd.func72,Tryd.ntmps72
 go_wp2
 have g0:(w.alloc (.cells #[.int .i32 0, .int .i64 0, .int .i64 0, .int .i64 0, .int .i64 0, .int .i64 0] 97)).cell? ⟨D,0,none⟩ = some v:=(hW.cell (p:=⟨D,0,none⟩) hlt).trans c0
 have g1:(w.alloc (.cells #[.int .i32 0, .int .i64 0, .int .i64 0, .int .i64 0, .int .i64 0, .int .i64 0] 97)).cell? ⟨D,1,none⟩ = some (.int .i64 k):=(hW.cell (p:=⟨D,1,none⟩) hlt).trans c1
 have gr:(w.alloc (.cells #[.int .i32 0, .int .i64 0, .int .i64 0, .int .i64 0, .int .i64 0, .int .i64 0] 97)).heap[w.heap.size]? = some (.cells #[.int .i32 0, .int .i64 0, .int .i64 0, .int .i64 0, .int .i64 0, .int .i64 0] 97 (0,0)):=by show (w.heap.push _)[w.heap.size]? = _; simp
 have hsz:w.heap.size < (w.alloc (.cells #[.int .i32 0, .int .i64 0, .int .i64 0, .int .i64 0, .int .i64 0, .int .i64 0] 97)).heap.size:=by simp
 generalize w.alloc (.cells #[.int .i32 0, .int .i64 0, .int .i64 0, .int .i64 0, .int .i64 0, .int .i64 0] 97)=W at *
 have HG:=hide' gr
 clear gr c0 c1
 have g0':W.drew.cell? ⟨D,0,none⟩ = some v:=g0
 have g1':W.drew.cell? ⟨D,1,none⟩ = some (.int .i64 k):=g1
 clear g0 g1
 go_region_held3 (fun w' => w'.cell? ⟨D,0,none⟩ = some v /\ w'.cell? ⟨D,1,none⟩ = some (.int .i64 k)) (first | exact ⟨g0',g1'⟩ | exact ⟨q0,q1⟩)
  (first | (go_at_call 77; refine hN.mono ?_; rintro e W1 ⟨rfl,hb1⟩; have q0:W1.cell? ⟨D,0,none⟩ = some v:=(hb1.cell (p:=⟨D,0,none⟩) (show D < W.heap.size by omega)).trans g0'; have q1:W1.cell? ⟨D,1,none⟩ = some (.int .i64 k):=(hb1.cell (p:=⟨D,1,none⟩) (show D < W.heap.size by omega)).trans g1'))
 have hB1:Below w.heap.size w W1:=hW.drew.trans (hb1.mono hW.size)
 have hF1:=H.out.below hB1
 obtain ⟨d0,d1,d2,d3,d4,d5,d6,d7,d8⟩:=hF1.cell
 have hR1:W1.heap[w.heap.size]? = some (.cells #[.int .i32 0, .int .i64 0, .int .i64 0, .int .i64 0, .int .i64 0, .int .i64 0] 97 (0,0)):=(hb1.block w.heap.size (by show w.heap.size < W.heap.size; omega)).trans HG.out
 have hs1:w.heap.size < W1.heap.size:=Nat.lt_of_lt_of_le hsz hb1.size
 clear hN g0' g1' q0 q1 hW HG hsz hb1
 have r0:W1.cell? ⟨w.heap.size,0,none⟩ = some (.int .i32 0):=by rw [Lib.cell_of_heap hR1]; rfl
 have r1:W1.cell? ⟨w.heap.size,1,none⟩ = some (.int .i64 0):=by rw [Lib.cell_of_heap hR1]; rfl
 have r2:W1.cell? ⟨w.heap.size,2,none⟩ = some (.int .i64 0):=by rw [Lib.cell_of_heap hR1]; rfl
 have r3:W1.cell? ⟨w.heap.size,3,none⟩ = some (.int .i64 0):=by rw [Lib.cell_of_heap hR1]; rfl
 have r4:W1.cell? ⟨w.heap.size,4,none⟩ = some (.int .i64 0):=by rw [Lib.cell_of_heap hR1]; rfl
 have r5:W1.cell? ⟨w.heap.size,5,none⟩ = some (.int .i64 0):=by rw [Lib.cell_of_heap hR1]; rfl
 have z0:W1.frozen? ⟨w.heap.size,0,none⟩ = false:=Lib.frozen_of_heap hR1 0
 have z1:W1.frozen? ⟨w.heap.size,1,none⟩ = false:=Lib.frozen_of_heap hR1 1
 have z2:W1.frozen? ⟨w.heap.size,2,none⟩ = false:=Lib.frozen_of_heap hR1 2
 have z3:W1.frozen? ⟨w.heap.size,3,none⟩ = false:=Lib.frozen_of_heap hR1 3
 have z4:W1.frozen? ⟨w.heap.size,4,none⟩ = false:=Lib.frozen_of_heap hR1 4
 have z5:W1.frozen? ⟨w.heap.size,5,none⟩ = false:=Lib.frozen_of_heap hR1 5
 have HB:=hide' hB1
 clear hB1 hF1 hR1 H
 go_wp2
 refine bodyPost_ret (v := .tuple #[.agg #[.int .i32 r, .int .i64 pb, .int .i64 pr, .int .i64 pl, .int .i64 pc, .int .i64 z], .int .i64 0]) (by simp [results,Tryd.results72,go_sem,r0,r1,r2,r3,r4,r5]) rfl ⟨rfl, ?_⟩
 (repeat refine Below.setCell ?_ (by simp) _)
 exact HB.out
theorem peek_cr (h:FeedAt w D B v g n k wh pb pr pl pc bad ended) (z:Nat) (cN : ∀ W,Below w.heap.size w W -> Calls Tryd.prog 77 #[v, .int .i64 k] W fun e W' => e = .returned (.tuple #[.int .i32 13, .int .i64 z, .int .i64 0, .int .i64 0]) /\ Below W.heap.size W W') (y0:Nat) (y1 y2 y3 y4 y5 m:Nat)
 (cL : ∀ W,FeedAt W D B v g n k wh pb pr pl pc bad ended -> Calls Tryd.prog 83 #[.pointer (some ⟨D,0,none⟩)] W fun e W' => Below W.heap.size W W' /\ e = .returned (.tuple #[.agg #[.int .i32 y0, .int .i64 y1, .int .i64 y2, .int .i64 y3, .int .i64 y4, .int .i64 y5], .int .i64 m])) :
 Calls Tryd.prog 72 #[.pointer (some ⟨D,0,none⟩)] w fun e w' => e = .returned (.tuple #[.agg #[.int .i32 y0, .int .i64 y1, .int .i64 y2, .int .i64 y3, .int .i64 y4, .int .i64 y5], .int .i64 m]) /\ Below w.heap.size w w':=by
 obtain ⟨c0,c1, -, -, -, -, -, -, -⟩:=h.cell
 have hlt:=h.lt
 have H:=hide' h
 clear h
 have hW:Below w.heap.size w (w.alloc (.cells #[.int .i32 0, .int .i64 0, .int .i64 0, .int .i64 0, .int .i64 0, .int .i64 0] 97)):=(Below.refl _ _).alloc (Nat.le_refl _) _
 have hN:=cN _ hW.drew
 clear cN
 go_enter Tryd.func72,Tryd.ntmps72
 go_wp2
 have g0:(w.alloc (.cells #[.int .i32 0, .int .i64 0, .int .i64 0, .int .i64 0, .int .i64 0, .int .i64 0] 97)).cell? ⟨D,0,none⟩ = some v:=(hW.cell (p:=⟨D,0,none⟩) hlt).trans c0
 have g1:(w.alloc (.cells #[.int .i32 0, .int .i64 0, .int .i64 0, .int .i64 0, .int .i64 0, .int .i64 0] 97)).cell? ⟨D,1,none⟩ = some (.int .i64 k):=(hW.cell (p:=⟨D,1,none⟩) hlt).trans c1
 have gr:(w.alloc (.cells #[.int .i32 0, .int .i64 0, .int .i64 0, .int .i64 0, .int .i64 0, .int .i64 0] 97)).heap[w.heap.size]? = some (.cells #[.int .i32 0, .int .i64 0, .int .i64 0, .int .i64 0, .int .i64 0, .int .i64 0] 97 (0,0)):=by show (w.heap.push _)[w.heap.size]? = _; simp
 have hsz:w.heap.size < (w.alloc (.cells #[.int .i32 0, .int .i64 0, .int .i64 0, .int .i64 0, .int .i64 0, .int .i64 0] 97)).heap.size:=by simp
 generalize w.alloc (.cells #[.int .i32 0, .int .i64 0, .int .i64 0, .int .i64 0, .int .i64 0, .int .i64 0] 97)=W at *
 have HG:=hide' gr
 clear gr c0 c1
 have g0':W.drew.cell? ⟨D,0,none⟩ = some v:=g0
 have g1':W.drew.cell? ⟨D,1,none⟩ = some (.int .i64 k):=g1
 clear g0 g1
 go_region_held3 (fun w' => w'.cell? ⟨D,0,none⟩ = some v /\ w'.cell? ⟨D,1,none⟩ = some (.int .i64 k)) (first | exact ⟨g0',g1'⟩ | exact ⟨q0,q1⟩)
  (first | (go_at_call 77; refine hN.mono ?_; rintro e W1 ⟨rfl,hb1⟩; have q0:W1.cell? ⟨D,0,none⟩ = some v:=(hb1.cell (p:=⟨D,0,none⟩) (show D < W.heap.size by omega)).trans g0'; have q1:W1.cell? ⟨D,1,none⟩ = some (.int .i64 k):=(hb1.cell (p:=⟨D,1,none⟩) (show D < W.heap.size by omega)).trans g1'))
 have hB1:Below w.heap.size w W1:=hW.drew.trans (hb1.mono hW.size)
 have hF1:=H.out.below hB1
 obtain ⟨d0,d1,d2,d3,d4,d5,d6,d7,d8⟩:=hF1.cell
 have hR1:W1.heap[w.heap.size]? = some (.cells #[.int .i32 0, .int .i64 0, .int .i64 0, .int .i64 0, .int .i64 0, .int .i64 0] 97 (0,0)):=(hb1.block w.heap.size (by show w.heap.size < W.heap.size; omega)).trans HG.out
 have hs1:w.heap.size < W1.heap.size:=Nat.lt_of_lt_of_le hsz hb1.size
 clear hN g0' g1' q0 q1 hW HG hsz hb1
 have cL1:=cL W1 hF1
 clear cL hF1 H
 go_wp2_with fail
 refine cL1.mono ?_
 rintro e W2 ⟨hb2,rfl⟩
 have hB2:=hB1.trans (hb2.mono hB1.size)
 have hR2:=(hb2.block _ hs1).trans hR1
 have r0:W2.cell? ⟨w.heap.size,0,none⟩ = some (.int .i32 0):=by rw [Lib.cell_of_heap hR2]; rfl
 have r1:W2.cell? ⟨w.heap.size,1,none⟩ = some (.int .i64 0):=by rw [Lib.cell_of_heap hR2]; rfl
 have r2:W2.cell? ⟨w.heap.size,2,none⟩ = some (.int .i64 0):=by rw [Lib.cell_of_heap hR2]; rfl
 have r3:W2.cell? ⟨w.heap.size,3,none⟩ = some (.int .i64 0):=by rw [Lib.cell_of_heap hR2]; rfl
 have r4:W2.cell? ⟨w.heap.size,4,none⟩ = some (.int .i64 0):=by rw [Lib.cell_of_heap hR2]; rfl
 have r5:W2.cell? ⟨w.heap.size,5,none⟩ = some (.int .i64 0):=by rw [Lib.cell_of_heap hR2]; rfl
 have z0:W2.frozen? ⟨w.heap.size,0,none⟩ = false:=Lib.frozen_of_heap hR2 0
 have z1:W2.frozen? ⟨w.heap.size,1,none⟩ = false:=Lib.frozen_of_heap hR2 1
 have z2:W2.frozen? ⟨w.heap.size,2,none⟩ = false:=Lib.frozen_of_heap hR2 2
 have z3:W2.frozen? ⟨w.heap.size,3,none⟩ = false:=Lib.frozen_of_heap hR2 3
 have z4:W2.frozen? ⟨w.heap.size,4,none⟩ = false:=Lib.frozen_of_heap hR2 4
 have z5:W2.frozen? ⟨w.heap.size,5,none⟩ = false:=Lib.frozen_of_heap hR2 5
 have HB:=hide' hB2
 clear hB1 hB2 hb2 hR1 hR2 cL1 d0 d1 d2 d3 d4 d5 d6 d7 d8
 go_wp2
 refine bodyPost_ret (v := .tuple #[.agg #[.int .i32 y0, .int .i64 y1, .int .i64 y2, .int .i64 y3, .int .i64 y4, .int .i64 y5], .int .i64 m]) (by simp [results,Tryd.results72,go_sem,r0,r1,r2,r3,r4,r5]) rfl ⟨rfl, ?_⟩
 (repeat refine Below.setCell ?_ (by simp) _)
 exact HB.out
theorem peek_wait (h:FeedAt w D B v g n k wh pb pr pl pc bad false) (z:Nat) (cN : ∀ W,Below w.heap.size w W -> Calls Tryd.prog 77 #[v, .int .i64 k] W fun e W' => e = .returned (.tuple #[.int .i32 0, .int .i64 z, .int .i64 1, .int .i64 0]) /\ Below W.heap.size W W') :
 Calls Tryd.prog 72 #[.pointer (some ⟨D,0,none⟩)] w fun e w' => e = .returned (.tuple #[.agg #[.int .i32 0, .int .i64 0, .int .i64 0, .int .i64 0, .int .i64 0, .int .i64 0], .int .i64 1]) /\ Below w.heap.size w w':=by
 obtain ⟨c0,c1, -, -, -, -, -, -, -⟩:=h.cell
 have hlt:=h.lt
 have H:=hide' h
 clear h
 have hW:Below w.heap.size w (w.alloc (.cells #[.int .i32 0, .int .i64 0, .int .i64 0, .int .i64 0, .int .i64 0, .int .i64 0] 97)):=(Below.refl _ _).alloc (Nat.le_refl _) _
 have hN:=cN _ hW.drew
 clear cN
 go_enter Tryd.func72,Tryd.ntmps72
 go_wp2
 have g0:(w.alloc (.cells #[.int .i32 0, .int .i64 0, .int .i64 0, .int .i64 0, .int .i64 0, .int .i64 0] 97)).cell? ⟨D,0,none⟩ = some v:=(hW.cell (p:=⟨D,0,none⟩) hlt).trans c0
 have g1:(w.alloc (.cells #[.int .i32 0, .int .i64 0, .int .i64 0, .int .i64 0, .int .i64 0, .int .i64 0] 97)).cell? ⟨D,1,none⟩ = some (.int .i64 k):=(hW.cell (p:=⟨D,1,none⟩) hlt).trans c1
 have gr:(w.alloc (.cells #[.int .i32 0, .int .i64 0, .int .i64 0, .int .i64 0, .int .i64 0, .int .i64 0] 97)).heap[w.heap.size]? = some (.cells #[.int .i32 0, .int .i64 0, .int .i64 0, .int .i64 0, .int .i64 0, .int .i64 0] 97 (0,0)):=by show (w.heap.push _)[w.heap.size]? = _; simp
 have hsz:w.heap.size < (w.alloc (.cells #[.int .i32 0, .int .i64 0, .int .i64 0, .int .i64 0, .int .i64 0, .int .i64 0] 97)).heap.size:=by simp
 generalize w.alloc (.cells #[.int .i32 0, .int .i64 0, .int .i64 0, .int .i64 0, .int .i64 0, .int .i64 0] 97)=W at *
 have HG:=hide' gr
 clear gr c0 c1
 have g0':W.drew.cell? ⟨D,0,none⟩ = some v:=g0
 have g1':W.drew.cell? ⟨D,1,none⟩ = some (.int .i64 k):=g1
 clear g0 g1
 go_region_held3 (fun w' => w'.cell? ⟨D,0,none⟩ = some v /\ w'.cell? ⟨D,1,none⟩ = some (.int .i64 k)) (first | exact ⟨g0',g1'⟩ | exact ⟨q0,q1⟩)
  (first | (go_at_call 77; refine hN.mono ?_; rintro e W1 ⟨rfl,hb1⟩; have q0:W1.cell? ⟨D,0,none⟩ = some v:=(hb1.cell (p:=⟨D,0,none⟩) (show D < W.heap.size by omega)).trans g0'; have q1:W1.cell? ⟨D,1,none⟩ = some (.int .i64 k):=(hb1.cell (p:=⟨D,1,none⟩) (show D < W.heap.size by omega)).trans g1'))
 have hB1:Below w.heap.size w W1:=hW.drew.trans (hb1.mono hW.size)
 have hF1:=H.out.below hB1
 obtain ⟨d0,d1,d2,d3,d4,d5,d6,d7,d8⟩:=hF1.cell
 have hR1:W1.heap[w.heap.size]? = some (.cells #[.int .i32 0, .int .i64 0, .int .i64 0, .int .i64 0, .int .i64 0, .int .i64 0] 97 (0,0)):=(hb1.block w.heap.size (by show w.heap.size < W.heap.size; omega)).trans HG.out
 have hs1:w.heap.size < W1.heap.size:=Nat.lt_of_lt_of_le hsz hb1.size
 clear hN g0' g1' q0 q1 hW HG hsz hb1
 have r0:W1.cell? ⟨w.heap.size,0,none⟩ = some (.int .i32 0):=by rw [Lib.cell_of_heap hR1]; rfl
 have r1:W1.cell? ⟨w.heap.size,1,none⟩ = some (.int .i64 0):=by rw [Lib.cell_of_heap hR1]; rfl
 have r2:W1.cell? ⟨w.heap.size,2,none⟩ = some (.int .i64 0):=by rw [Lib.cell_of_heap hR1]; rfl
 have r3:W1.cell? ⟨w.heap.size,3,none⟩ = some (.int .i64 0):=by rw [Lib.cell_of_heap hR1]; rfl
 have r4:W1.cell? ⟨w.heap.size,4,none⟩ = some (.int .i64 0):=by rw [Lib.cell_of_heap hR1]; rfl
 have r5:W1.cell? ⟨w.heap.size,5,none⟩ = some (.int .i64 0):=by rw [Lib.cell_of_heap hR1]; rfl
 have z0:W1.frozen? ⟨w.heap.size,0,none⟩ = false:=Lib.frozen_of_heap hR1 0
 have z1:W1.frozen? ⟨w.heap.size,1,none⟩ = false:=Lib.frozen_of_heap hR1 1
 have z2:W1.frozen? ⟨w.heap.size,2,none⟩ = false:=Lib.frozen_of_heap hR1 2
 have z3:W1.frozen? ⟨w.heap.size,3,none⟩ = false:=Lib.frozen_of_heap hR1 3
 have z4:W1.frozen? ⟨w.heap.size,4,none⟩ = false:=Lib.frozen_of_heap hR1 4
 have z5:W1.frozen? ⟨w.heap.size,5,none⟩ = false:=Lib.frozen_of_heap hR1 5
 have HB:=hide' hB1
 clear hB1 hF1 hR1 H
 go_wp2
 refine bodyPost_ret (v := .tuple #[.agg #[.int .i32 0, .int .i64 0, .int .i64 0, .int .i64 0, .int .i64 0, .int .i64 0], .int .i64 1]) (by simp [results,Tryd.results72,go_sem,r0,r1,r2,r3,r4,r5]) rfl ⟨rfl, ?_⟩
 (repeat refine Below.setCell ?_ (by simp) _)
 exact HB.out
theorem peek_done (h:FeedAt w D B v g n k wh pb pr pl pc bad false) (z:Nat) (cN : ∀ W,Below w.heap.size w W -> Calls Tryd.prog 77 #[v, .int .i64 k] W fun e W' => e = .returned (.tuple #[.int .i32 0, .int .i64 z, .int .i64 3, .int .i64 0]) /\ Below W.heap.size W W') :
 Calls Tryd.prog 72 #[.pointer (some ⟨D,0,none⟩)] w fun e w' => e = .returned (.tuple #[.agg #[.int .i32 0, .int .i64 0, .int .i64 0, .int .i64 0, .int .i64 0, .int .i64 0], .int .i64 1]) /\ Below w.heap.size w w':=by
 obtain ⟨c0,c1, -, -, -, -, -, -, -⟩:=h.cell
 have hlt:=h.lt
 have H:=hide' h
 clear h
 have hW:Below w.heap.size w (w.alloc (.cells #[.int .i32 0, .int .i64 0, .int .i64 0, .int .i64 0, .int .i64 0, .int .i64 0] 97)):=(Below.refl _ _).alloc (Nat.le_refl _) _
 have hN:=cN _ hW.drew
 clear cN
 go_enter Tryd.func72,Tryd.ntmps72
 go_wp2
 have g0:(w.alloc (.cells #[.int .i32 0, .int .i64 0, .int .i64 0, .int .i64 0, .int .i64 0, .int .i64 0] 97)).cell? ⟨D,0,none⟩ = some v:=(hW.cell (p:=⟨D,0,none⟩) hlt).trans c0
 have g1:(w.alloc (.cells #[.int .i32 0, .int .i64 0, .int .i64 0, .int .i64 0, .int .i64 0, .int .i64 0] 97)).cell? ⟨D,1,none⟩ = some (.int .i64 k):=(hW.cell (p:=⟨D,1,none⟩) hlt).trans c1
 have gr:(w.alloc (.cells #[.int .i32 0, .int .i64 0, .int .i64 0, .int .i64 0, .int .i64 0, .int .i64 0] 97)).heap[w.heap.size]? = some (.cells #[.int .i32 0, .int .i64 0, .int .i64 0, .int .i64 0, .int .i64 0, .int .i64 0] 97 (0,0)):=by show (w.heap.push _)[w.heap.size]? = _; simp
 have hsz:w.heap.size < (w.alloc (.cells #[.int .i32 0, .int .i64 0, .int .i64 0, .int .i64 0, .int .i64 0, .int .i64 0] 97)).heap.size:=by simp
 generalize w.alloc (.cells #[.int .i32 0, .int .i64 0, .int .i64 0, .int .i64 0, .int .i64 0, .int .i64 0] 97)=W at *
 have HG:=hide' gr
 clear gr c0 c1
 have g0':W.drew.cell? ⟨D,0,none⟩ = some v:=g0
 have g1':W.drew.cell? ⟨D,1,none⟩ = some (.int .i64 k):=g1
 clear g0 g1
 go_region_held3 (fun w' => w'.cell? ⟨D,0,none⟩ = some v /\ w'.cell? ⟨D,1,none⟩ = some (.int .i64 k)) (first | exact ⟨g0',g1'⟩ | exact ⟨q0,q1⟩)
  (first | (go_at_call 77; refine hN.mono ?_; rintro e W1 ⟨rfl,hb1⟩; have q0:W1.cell? ⟨D,0,none⟩ = some v:=(hb1.cell (p:=⟨D,0,none⟩) (show D < W.heap.size by omega)).trans g0'; have q1:W1.cell? ⟨D,1,none⟩ = some (.int .i64 k):=(hb1.cell (p:=⟨D,1,none⟩) (show D < W.heap.size by omega)).trans g1'))
 have hB1:Below w.heap.size w W1:=hW.drew.trans (hb1.mono hW.size)
 have hF1:=H.out.below hB1
 obtain ⟨d0,d1,d2,d3,d4,d5,d6,d7,d8⟩:=hF1.cell
 have hR1:W1.heap[w.heap.size]? = some (.cells #[.int .i32 0, .int .i64 0, .int .i64 0, .int .i64 0, .int .i64 0, .int .i64 0] 97 (0,0)):=(hb1.block w.heap.size (by show w.heap.size < W.heap.size; omega)).trans HG.out
 have hs1:w.heap.size < W1.heap.size:=Nat.lt_of_lt_of_le hsz hb1.size
 clear hN g0' g1' q0 q1 hW HG hsz hb1
 have r0:W1.cell? ⟨w.heap.size,0,none⟩ = some (.int .i32 0):=by rw [Lib.cell_of_heap hR1]; rfl
 have r1:W1.cell? ⟨w.heap.size,1,none⟩ = some (.int .i64 0):=by rw [Lib.cell_of_heap hR1]; rfl
 have r2:W1.cell? ⟨w.heap.size,2,none⟩ = some (.int .i64 0):=by rw [Lib.cell_of_heap hR1]; rfl
 have r3:W1.cell? ⟨w.heap.size,3,none⟩ = some (.int .i64 0):=by rw [Lib.cell_of_heap hR1]; rfl
 have r4:W1.cell? ⟨w.heap.size,4,none⟩ = some (.int .i64 0):=by rw [Lib.cell_of_heap hR1]; rfl
 have r5:W1.cell? ⟨w.heap.size,5,none⟩ = some (.int .i64 0):=by rw [Lib.cell_of_heap hR1]; rfl
 have z0:W1.frozen? ⟨w.heap.size,0,none⟩ = false:=Lib.frozen_of_heap hR1 0
 have z1:W1.frozen? ⟨w.heap.size,1,none⟩ = false:=Lib.frozen_of_heap hR1 1
 have z2:W1.frozen? ⟨w.heap.size,2,none⟩ = false:=Lib.frozen_of_heap hR1 2
 have z3:W1.frozen? ⟨w.heap.size,3,none⟩ = false:=Lib.frozen_of_heap hR1 3
 have z4:W1.frozen? ⟨w.heap.size,4,none⟩ = false:=Lib.frozen_of_heap hR1 4
 have z5:W1.frozen? ⟨w.heap.size,5,none⟩ = false:=Lib.frozen_of_heap hR1 5
 have HB:=hide' hB1
 clear hB1 hF1 hR1 H
 go_wp2
 refine bodyPost_ret (v := .tuple #[.agg #[.int .i32 0, .int .i64 0, .int .i64 0, .int .i64 0, .int .i64 0, .int .i64 0], .int .i64 1]) (by simp [results,Tryd.results72,go_sem,r0,r1,r2,r3,r4,r5]) rfl ⟨rfl, ?_⟩
 (repeat refine Below.setCell ?_ (by simp) _)
 exact HB.out
theorem peek_donee (h:FeedAt w D B v g n k wh pb pr pl pc bad true) (z:Nat) (cN : ∀ W,Below w.heap.size w W -> Calls Tryd.prog 77 #[v, .int .i64 k] W fun e W' => e = .returned (.tuple #[.int .i32 0, .int .i64 z, .int .i64 3, .int .i64 0]) /\ Below W.heap.size W W') :
 Calls Tryd.prog 72 #[.pointer (some ⟨D,0,none⟩)] w fun e w' => e = .returned (.tuple #[.agg #[.int .i32 0, .int .i64 0, .int .i64 0, .int .i64 0, .int .i64 0, .int .i64 0], .int .i64 3]) /\ Below w.heap.size w w':=by
 obtain ⟨c0,c1, -, -, -, -, -, -, -⟩:=h.cell
 have hlt:=h.lt
 have H:=hide' h
 clear h
 have hW:Below w.heap.size w (w.alloc (.cells #[.int .i32 0, .int .i64 0, .int .i64 0, .int .i64 0, .int .i64 0, .int .i64 0] 97)):=(Below.refl _ _).alloc (Nat.le_refl _) _
 have hN:=cN _ hW.drew
 clear cN
 go_enter Tryd.func72,Tryd.ntmps72
 go_wp2
 have g0:(w.alloc (.cells #[.int .i32 0, .int .i64 0, .int .i64 0, .int .i64 0, .int .i64 0, .int .i64 0] 97)).cell? ⟨D,0,none⟩ = some v:=(hW.cell (p:=⟨D,0,none⟩) hlt).trans c0
 have g1:(w.alloc (.cells #[.int .i32 0, .int .i64 0, .int .i64 0, .int .i64 0, .int .i64 0, .int .i64 0] 97)).cell? ⟨D,1,none⟩ = some (.int .i64 k):=(hW.cell (p:=⟨D,1,none⟩) hlt).trans c1
 have gr:(w.alloc (.cells #[.int .i32 0, .int .i64 0, .int .i64 0, .int .i64 0, .int .i64 0, .int .i64 0] 97)).heap[w.heap.size]? = some (.cells #[.int .i32 0, .int .i64 0, .int .i64 0, .int .i64 0, .int .i64 0, .int .i64 0] 97 (0,0)):=by show (w.heap.push _)[w.heap.size]? = _; simp
 have hsz:w.heap.size < (w.alloc (.cells #[.int .i32 0, .int .i64 0, .int .i64 0, .int .i64 0, .int .i64 0, .int .i64 0] 97)).heap.size:=by simp
 generalize w.alloc (.cells #[.int .i32 0, .int .i64 0, .int .i64 0, .int .i64 0, .int .i64 0, .int .i64 0] 97)=W at *
 have HG:=hide' gr
 clear gr c0 c1
 have g0':W.drew.cell? ⟨D,0,none⟩ = some v:=g0
 have g1':W.drew.cell? ⟨D,1,none⟩ = some (.int .i64 k):=g1
 clear g0 g1
 go_region_held3 (fun w' => w'.cell? ⟨D,0,none⟩ = some v /\ w'.cell? ⟨D,1,none⟩ = some (.int .i64 k)) (first | exact ⟨g0',g1'⟩ | exact ⟨q0,q1⟩)
  (first | (go_at_call 77; refine hN.mono ?_; rintro e W1 ⟨rfl,hb1⟩; have q0:W1.cell? ⟨D,0,none⟩ = some v:=(hb1.cell (p:=⟨D,0,none⟩) (show D < W.heap.size by omega)).trans g0'; have q1:W1.cell? ⟨D,1,none⟩ = some (.int .i64 k):=(hb1.cell (p:=⟨D,1,none⟩) (show D < W.heap.size by omega)).trans g1'))
 have hB1:Below w.heap.size w W1:=hW.drew.trans (hb1.mono hW.size)
 have hF1:=H.out.below hB1
 obtain ⟨d0,d1,d2,d3,d4,d5,d6,d7,d8⟩:=hF1.cell
 have hR1:W1.heap[w.heap.size]? = some (.cells #[.int .i32 0, .int .i64 0, .int .i64 0, .int .i64 0, .int .i64 0, .int .i64 0] 97 (0,0)):=(hb1.block w.heap.size (by show w.heap.size < W.heap.size; omega)).trans HG.out
 have hs1:w.heap.size < W1.heap.size:=Nat.lt_of_lt_of_le hsz hb1.size
 clear hN g0' g1' q0 q1 hW HG hsz hb1
 have r0:W1.cell? ⟨w.heap.size,0,none⟩ = some (.int .i32 0):=by rw [Lib.cell_of_heap hR1]; rfl
 have r1:W1.cell? ⟨w.heap.size,1,none⟩ = some (.int .i64 0):=by rw [Lib.cell_of_heap hR1]; rfl
 have r2:W1.cell? ⟨w.heap.size,2,none⟩ = some (.int .i64 0):=by rw [Lib.cell_of_heap hR1]; rfl
 have r3:W1.cell? ⟨w.heap.size,3,none⟩ = some (.int .i64 0):=by rw [Lib.cell_of_heap hR1]; rfl
 have r4:W1.cell? ⟨w.heap.size,4,none⟩ = some (.int .i64 0):=by rw [Lib.cell_of_heap hR1]; rfl
 have r5:W1.cell? ⟨w.heap.size,5,none⟩ = some (.int .i64 0):=by rw [Lib.cell_of_heap hR1]; rfl
 have z0:W1.frozen? ⟨w.heap.size,0,none⟩ = false:=Lib.frozen_of_heap hR1 0
 have z1:W1.frozen? ⟨w.heap.size,1,none⟩ = false:=Lib.frozen_of_heap hR1 1
 have z2:W1.frozen? ⟨w.heap.size,2,none⟩ = false:=Lib.frozen_of_heap hR1 2
 have z3:W1.frozen? ⟨w.heap.size,3,none⟩ = false:=Lib.frozen_of_heap hR1 3
 have z4:W1.frozen? ⟨w.heap.size,4,none⟩ = false:=Lib.frozen_of_heap hR1 4
 have z5:W1.frozen? ⟨w.heap.size,5,none⟩ = false:=Lib.frozen_of_heap hR1 5
 have HB:=hide' hB1
 clear hB1 hF1 hR1 H
 go_wp2
 refine bodyPost_ret (v := .tuple #[.agg #[.int .i32 0, .int .i64 0, .int .i64 0, .int .i64 0, .int .i64 0, .int .i64 0], .int .i64 3]) (by simp [results,Tryd.results72,go_sem,r0,r1,r2,r3,r4,r5]) rfl ⟨rfl, ?_⟩
 (repeat refine Below.setCell ?_ (by simp) _)
 exact HB.out
theorem peek_short (h:FeedAt w D B v g n k wh pb pr pl pc bad true) (z:Nat) (h1:pb + z < 9223372036854775808) (h2:pr + z < 9223372036854775808) (h3:pc + z < 9223372036854775808) (cN : ∀ W,Below w.heap.size w W -> Calls Tryd.prog 77 #[v, .int .i64 k] W fun e W' => e = .returned (.tuple #[.int .i32 0, .int .i64 z, .int .i64 1, .int .i64 0]) /\ Below W.heap.size W W') :
 Calls Tryd.prog 72 #[.pointer (some ⟨D,0,none⟩)] w fun e w' => e = .returned (.tuple #[.agg #[.int .i32 0, .int .i64 (pb + z:Nat), .int .i64 (pr + z:Nat), .int .i64 pl, .int .i64 (pc + z:Nat), .int .i64 0], .int .i64 2]) /\ Below w.heap.size w w':=by
 obtain ⟨c0,c1, -, -, -, -, -, -, -⟩:=h.cell
 have hlt:=h.lt
 have H:=hide' h
 clear h
 have hW:Below w.heap.size w (w.alloc (.cells #[.int .i32 0, .int .i64 0, .int .i64 0, .int .i64 0, .int .i64 0, .int .i64 0] 97)):=(Below.refl _ _).alloc (Nat.le_refl _) _
 have hN:=cN _ hW.drew
 clear cN
 go_enter Tryd.func72,Tryd.ntmps72
 go_wp2
 have g0:(w.alloc (.cells #[.int .i32 0, .int .i64 0, .int .i64 0, .int .i64 0, .int .i64 0, .int .i64 0] 97)).cell? ⟨D,0,none⟩ = some v:=(hW.cell (p:=⟨D,0,none⟩) hlt).trans c0
 have g1:(w.alloc (.cells #[.int .i32 0, .int .i64 0, .int .i64 0, .int .i64 0, .int .i64 0, .int .i64 0] 97)).cell? ⟨D,1,none⟩ = some (.int .i64 k):=(hW.cell (p:=⟨D,1,none⟩) hlt).trans c1
 have gr:(w.alloc (.cells #[.int .i32 0, .int .i64 0, .int .i64 0, .int .i64 0, .int .i64 0, .int .i64 0] 97)).heap[w.heap.size]? = some (.cells #[.int .i32 0, .int .i64 0, .int .i64 0, .int .i64 0, .int .i64 0, .int .i64 0] 97 (0,0)):=by show (w.heap.push _)[w.heap.size]? = _; simp
 have hsz:w.heap.size < (w.alloc (.cells #[.int .i32 0, .int .i64 0, .int .i64 0, .int .i64 0, .int .i64 0, .int .i64 0] 97)).heap.size:=by simp
 generalize w.alloc (.cells #[.int .i32 0, .int .i64 0, .int .i64 0, .int .i64 0, .int .i64 0, .int .i64 0] 97)=W at *
 have HG:=hide' gr
 clear gr c0 c1
 have g0':W.drew.cell? ⟨D,0,none⟩ = some v:=g0
 have g1':W.drew.cell? ⟨D,1,none⟩ = some (.int .i64 k):=g1
 clear g0 g1
 go_region_held3 (fun w' => w'.cell? ⟨D,0,none⟩ = some v /\ w'.cell? ⟨D,1,none⟩ = some (.int .i64 k)) (first | exact ⟨g0',g1'⟩ | exact ⟨q0,q1⟩)
  (first | (go_at_call 77; refine hN.mono ?_; rintro e W1 ⟨rfl,hb1⟩; have q0:W1.cell? ⟨D,0,none⟩ = some v:=(hb1.cell (p:=⟨D,0,none⟩) (show D < W.heap.size by omega)).trans g0'; have q1:W1.cell? ⟨D,1,none⟩ = some (.int .i64 k):=(hb1.cell (p:=⟨D,1,none⟩) (show D < W.heap.size by omega)).trans g1'))
 have hB1:Below w.heap.size w W1:=hW.drew.trans (hb1.mono hW.size)
 have hF1:=H.out.below hB1
 obtain ⟨d0,d1,d2,d3,d4,d5,d6,d7,d8⟩:=hF1.cell
 have hR1:W1.heap[w.heap.size]? = some (.cells #[.int .i32 0, .int .i64 0, .int .i64 0, .int .i64 0, .int .i64 0, .int .i64 0] 97 (0,0)):=(hb1.block w.heap.size (by show w.heap.size < W.heap.size; omega)).trans HG.out
 have hs1:w.heap.size < W1.heap.size:=Nat.lt_of_lt_of_le hsz hb1.size
 clear hN g0' g1' q0 q1 hW HG hsz hb1
 have cL1:=feedWrong_any hF1 z h1 h2 h3
 clear hF1 H h1 h2 h3
 go_wp2_with fail
 refine cL1.mono ?_
 rintro e W2 ⟨rfl,hb2⟩
 have hB2:=hB1.trans (hb2.mono hB1.size)
 have hR2:=(hb2.block _ hs1).trans hR1
 have r0:W2.cell? ⟨w.heap.size,0,none⟩ = some (.int .i32 0):=by rw [Lib.cell_of_heap hR2]; rfl
 have r1:W2.cell? ⟨w.heap.size,1,none⟩ = some (.int .i64 0):=by rw [Lib.cell_of_heap hR2]; rfl
 have r2:W2.cell? ⟨w.heap.size,2,none⟩ = some (.int .i64 0):=by rw [Lib.cell_of_heap hR2]; rfl
 have r3:W2.cell? ⟨w.heap.size,3,none⟩ = some (.int .i64 0):=by rw [Lib.cell_of_heap hR2]; rfl
 have r4:W2.cell? ⟨w.heap.size,4,none⟩ = some (.int .i64 0):=by rw [Lib.cell_of_heap hR2]; rfl
 have r5:W2.cell? ⟨w.heap.size,5,none⟩ = some (.int .i64 0):=by rw [Lib.cell_of_heap hR2]; rfl
 have z0:W2.frozen? ⟨w.heap.size,0,none⟩ = false:=Lib.frozen_of_heap hR2 0
 have z1:W2.frozen? ⟨w.heap.size,1,none⟩ = false:=Lib.frozen_of_heap hR2 1
 have z2:W2.frozen? ⟨w.heap.size,2,none⟩ = false:=Lib.frozen_of_heap hR2 2
 have z3:W2.frozen? ⟨w.heap.size,3,none⟩ = false:=Lib.frozen_of_heap hR2 3
 have z4:W2.frozen? ⟨w.heap.size,4,none⟩ = false:=Lib.frozen_of_heap hR2 4
 have z5:W2.frozen? ⟨w.heap.size,5,none⟩ = false:=Lib.frozen_of_heap hR2 5
 have HB:=hide' hB2
 clear hB1 hB2 hb2 hR1 hR2 cL1 d0 d1 d2 d3 d4 d5 d6 d7 d8
 go_wp2
 refine bodyPost_ret (v := .tuple #[.agg #[.int .i32 0, .int .i64 (pb + z:Nat), .int .i64 (pr + z:Nat), .int .i64 pl, .int .i64 (pc + z:Nat), .int .i64 0], .int .i64 2]) (by simp [results,Tryd.results72,go_sem,r0,r1,r2,r3,r4,r5]) rfl ⟨rfl, ?_⟩
 (repeat refine Below.setCell ?_ (by simp) _)
 exact HB.out
end
end Go.Proofs.YteiiepjegdlbeaaDoor
namespace Go.Proofs.YteiiepjegdlbeaaDoor
open Go.RowKit Go.Lib
section
variable {D B:Nat} {v:Value} {g:Nat -> Nat} {n k wh pb pr pl pc:Nat} {bad ended:Bool} {w:World}
theorem peek_bad (h:FeedAt w D B v g n k wh pb pr pl pc bad ended) (q cap z:Nat) (hv:v = .slice (some ⟨q,0,none⟩) n cap) (hk:k < n) (hc:n <= cap) (hm:cap <= maxLen) (h1:pb + z < 9223372036854775808) (h2:pr + z < 9223372036854775808) (h3:pc + z < 9223372036854775808) (y:Nat) (cN : ∀ W,Below w.heap.size w W -> Calls Tryd.prog 77 #[v, .int .i64 k] W fun e W' => e = .returned (.tuple #[.int .i32 y, .int .i64 1, .int .i64 2, .int .i64 0]) /\ Below W.heap.size W W')
 (cG : ∀ W,Below w.heap.size w W -> Calls Tryd.prog 85 #[.slice (some ⟨q,k,none⟩) (n - k) (cap - k)] W fun e W' => e = .returned (.int .i64 z) /\ Below W.heap.size W W') :
 Calls Tryd.prog 72 #[.pointer (some ⟨D,0,none⟩)] w fun e w' => e = .returned (.tuple #[.agg #[.int .i32 0, .int .i64 (pb + z:Nat), .int .i64 (pr + z:Nat), .int .i64 pl, .int .i64 (pc + z:Nat), .int .i64 0], .int .i64 2]) /\ Below w.heap.size w w':=by
 subst hv
 have hm':cap <= 9223372036854775807:=by unfold maxLen at hm; omega
 clear hm
 obtain ⟨c0,c1, -, -, -, -, -, -, -⟩:=h.cell
 have hlt:=h.lt
 have H:=hide' h
 clear h
 have hW:Below w.heap.size w (w.alloc (.cells #[.int .i32 0, .int .i64 0, .int .i64 0, .int .i64 0, .int .i64 0, .int .i64 0] 97)):=(Below.refl _ _).alloc (Nat.le_refl _) _
 have hN:=cN _ hW.drew
 clear cN
 go_enter Tryd.func72,Tryd.ntmps72
 go_wp2
 have g0:(w.alloc (.cells #[.int .i32 0, .int .i64 0, .int .i64 0, .int .i64 0, .int .i64 0, .int .i64 0] 97)).cell? ⟨D,0,none⟩ = some (.slice (some ⟨q,0,none⟩) n cap):=(hW.cell (p:=⟨D,0,none⟩) hlt).trans c0
 have g1:(w.alloc (.cells #[.int .i32 0, .int .i64 0, .int .i64 0, .int .i64 0, .int .i64 0, .int .i64 0] 97)).cell? ⟨D,1,none⟩ = some (.int .i64 k):=(hW.cell (p:=⟨D,1,none⟩) hlt).trans c1
 have gr:(w.alloc (.cells #[.int .i32 0, .int .i64 0, .int .i64 0, .int .i64 0, .int .i64 0, .int .i64 0] 97)).heap[w.heap.size]? = some (.cells #[.int .i32 0, .int .i64 0, .int .i64 0, .int .i64 0, .int .i64 0, .int .i64 0] 97 (0,0)):=by show (w.heap.push _)[w.heap.size]? = _; simp
 have hsz:w.heap.size < (w.alloc (.cells #[.int .i32 0, .int .i64 0, .int .i64 0, .int .i64 0, .int .i64 0, .int .i64 0] 97)).heap.size:=by simp
 generalize w.alloc (.cells #[.int .i32 0, .int .i64 0, .int .i64 0, .int .i64 0, .int .i64 0, .int .i64 0] 97)=W at *
 have HG:=hide' gr
 clear gr c0 c1
 have g0':W.drew.cell? ⟨D,0,none⟩ = some (.slice (some ⟨q,0,none⟩) n cap):=g0
 have g1':W.drew.cell? ⟨D,1,none⟩ = some (.int .i64 k):=g1
 clear g0 g1
 go_region_held3 (fun w' => w'.cell? ⟨D,0,none⟩ = some (.slice (some ⟨q,0,none⟩) n cap) /\ w'.cell? ⟨D,1,none⟩ = some (.int .i64 k)) (first | exact ⟨g0',g1'⟩ | exact ⟨q0,q1⟩)
  (first | (go_at_call 77; refine hN.mono ?_; rintro e W1 ⟨rfl,hb1⟩; have q0:W1.cell? ⟨D,0,none⟩ = some (.slice (some ⟨q,0,none⟩) n cap):=(hb1.cell (p:=⟨D,0,none⟩) (show D < W.heap.size by omega)).trans g0'; have q1:W1.cell? ⟨D,1,none⟩ = some (.int .i64 k):=(hb1.cell (p:=⟨D,1,none⟩) (show D < W.heap.size by omega)).trans g1'))
 have hB1:Below w.heap.size w W1:=hW.drew.trans (hb1.mono hW.size)
 have hF1:=H.out.below hB1
 obtain ⟨d0,d1,d2,d3,d4,d5,d6,d7,d8⟩:=hF1.cell
 have hR1:W1.heap[w.heap.size]? = some (.cells #[.int .i32 0, .int .i64 0, .int .i64 0, .int .i64 0, .int .i64 0, .int .i64 0] 97 (0,0)):=(hb1.block w.heap.size (by show w.heap.size < W.heap.size; omega)).trans HG.out
 have hs1:w.heap.size < W1.heap.size:=Nat.lt_of_lt_of_le hsz hb1.size
 clear hN g0' g1' q0 q1 hW HG hsz hb1
 go_wp2
 have i2:(k:Int) <= n:=by omega
 have i3:(0:Int) <= (k:Int):=by omega
 have i4 : ¬ cap - k=0:=by omega
 have i5 : ¬ cap=k:=by omega
 have cG1:=cG W1.drew hB1.drew
 clear cG
 have hw : ∀ W2,Below W1.drew.heap.size W1.drew W2 -> FeedAt W2 D B (.slice (some ⟨q,0,none⟩) n cap) g n k wh pb pr pl pc bad ended:=fun W2 hb => hF1.below ((Below.refl W1.heap.size W1).drew.trans hb)
 have cW:=fun W2 hb => feedWrong_any (hw W2 hb) z h1 h2 h3
 have hcell : ∀ W2,Below W1.drew.heap.size W1.drew W2 -> W2.cell? ⟨D,0,none⟩ = some (.slice (some ⟨q,0,none⟩) n cap) /\ W2.cell? ⟨D,1,none⟩ = some (.int .i64 k):=fun W2 hb => ⟨(hw W2 hb).cell.1,(hw W2 hb).cell.2.1⟩
 have q01:W1.drew.cell? ⟨D,0,none⟩ = some (.slice (some ⟨q,0,none⟩) n cap) /\ W1.drew.cell? ⟨D,1,none⟩ = some (.int .i64 k):=⟨d0,d1⟩
 have HR:=hide' hR1
 have HB1:=hide' hB1
 clear hR1 hB1 hF1 H hw h1 h2 h3 d0 d1 d2 d3 d4 d5 d6 d7 d8
 have hfin : ∀ W2 W3,Below W1.drew.heap.size W1.drew W2 -> Below W2.heap.size W2 W3 -> Below w.heap.size w W3 /\ W3.heap[w.heap.size]? = some (.cells #[.int .i32 0, .int .i64 0, .int .i64 0, .int .i64 0, .int .i64 0, .int .i64 0] 97 (0,0)):=fun W2 W3 ha hb => by
  have h12:Below W1.heap.size W1 W3:=(Below.refl W1.heap.size W1).drew.trans (ha.trans (hb.mono ha.size))
  exact ⟨HB1.out.trans (h12.mono HB1.out.size),(h12.block _ hs1).trans HR.out⟩
 have hne : ¬ w.heap.size=D:=by omega
 have HC:=hide' hcell
 have HF:=hide' hfin
 have HW:=hide' cW
 clear hcell hfin cW
 go_region_held3 (fun w' => w'.cell? ⟨D,0,none⟩ = some (.slice (some ⟨q,0,none⟩) n cap) /\ w'.cell? ⟨D,1,none⟩ = some (.int .i64 k)) (first | (with_reducible exact q01) | (with_reducible exact q02) | (with_reducible exact q03) | (obtain ⟨qa,qb⟩:=q03; simp [World.cell?_setCell_far,hne,qa,qb]))
  (first | (go_at_call 85; refine cG1.mono ?_; rintro e W2 ⟨rfl,hb2⟩; have q02:=HC.out W2 hb2) | (go_at_call 84; refine (HW.out W2 hb2).mono ?_; rintro e W3 ⟨rfl,hb3⟩; have q03:=HC.out W3 (hb2.trans (hb3.mono hb2.size)); obtain ⟨hB3,hR3⟩:=HF.out W2 W3 hb2 hb3; (have r0:W3.cell? ⟨w.heap.size,0,none⟩ = some (.int .i32 0):=(by rw [Lib.cell_of_heap hR3]; rfl); have r1:W3.cell? ⟨w.heap.size,1,none⟩ = some (.int .i64 0):=(by rw [Lib.cell_of_heap hR3]; rfl); have r2:W3.cell? ⟨w.heap.size,2,none⟩ = some (.int .i64 0):=(by rw [Lib.cell_of_heap hR3]; rfl); have r3:W3.cell? ⟨w.heap.size,3,none⟩ = some (.int .i64 0):=(by rw [Lib.cell_of_heap hR3]; rfl); have r4:W3.cell? ⟨w.heap.size,4,none⟩ = some (.int .i64 0):=(by rw [Lib.cell_of_heap hR3]; rfl); have r5:W3.cell? ⟨w.heap.size,5,none⟩ = some (.int .i64 0):=(by rw [Lib.cell_of_heap hR3]; rfl); have z0:W3.frozen? ⟨w.heap.size,0,none⟩ = false:=Lib.frozen_of_heap hR3 0; have z1:W3.frozen? ⟨w.heap.size,1,none⟩ = false:=Lib.frozen_of_heap hR3 1; have z2:W3.frozen? ⟨w.heap.size,2,none⟩ = false:=Lib.frozen_of_heap hR3 2; have z3:W3.frozen? ⟨w.heap.size,3,none⟩ = false:=Lib.frozen_of_heap hR3 3; have z4:W3.frozen? ⟨w.heap.size,4,none⟩ = false:=Lib.frozen_of_heap hR3 4; have z5:W3.frozen? ⟨w.heap.size,5,none⟩ = false:=Lib.frozen_of_heap hR3 5)))
 have HB:=hide' hB3
 clear hB3 hb3 hb2 hR3 q01 q02 q03 cG1
 go_wp2
 refine bodyPost_ret (v := .tuple #[.agg #[.int .i32 0, .int .i64 (pb + z:Nat), .int .i64 (pr + z:Nat), .int .i64 pl, .int .i64 (pc + z:Nat), .int .i64 0], .int .i64 2]) (by simp [results,Tryd.results72,go_sem,r0,r1,r2,r3,r4,r5]) rfl ⟨rfl, ?_⟩
 (repeat refine Below.setCell ?_ (by simp) _)
 exact HB.out
end
end Go.Proofs.YteiiepjegdlbeaaDoor
namespace Go.Proofs.YteiiepjegdlbeaaDoor
open Go.RowKit Go.Lib
namespace Fd
open Rn
def pkV (x:Nat × Nat × Nat × Nat) (pb pr pl pc:Nat) : Value :=
 if x.2.2.2=0 then .tuple #[.agg #[.int .i32 x.1, .int .i64 pb, .int .i64 pr, .int .i64 pl, .int .i64 pc, .int .i64 x.2.2.1], .int .i64 0]
 else if x.2.2.2=2 then .tuple #[.agg #[.int .i32 0, .int .i64 (pb + x.2.1:Nat), .int .i64 (pr + x.2.1:Nat), .int .i64 pl, .int .i64 (pc + x.2.1:Nat), .int .i64 0], .int .i64 2]
 else .tuple #[.agg #[.int .i32 0, .int .i64 0, .int .i64 0, .int .i64 0, .int .i64 0, .int .i64 0], .int .i64 x.2.2.2]
theorem good_bad {f:Nat -> Nat} {n:Nat} (hn:0 < n) (hw:whole f n=false) : good f n=fk f n:=by
 unfold good
 obtain ⟨m,rfl⟩ : ∃ m,n=m + 1:=⟨n - 1,by omega⟩
 unfold goodFrom
 rw [if_neg (by omega),off_zero,Nat.sub_zero,hw]
 simp
end Fd
section
variable {D B:Nat} {v:Value} {g:Nat -> Nat} {n k wh pb pr pl pc:Nat} {bad ended:Bool} {w:World}
theorem feedPeek_any (hT:Lib.Utf8Tabs 2 3 w) (hg : ∀ j,g j < 256) (h:FeedAt w D B v g n k wh pb pr pl pc bad ended) (hk:k <= n) (h1:pb + n < 9223372036854775808) (h2:pr + n < 9223372036854775808) (h3:pc + n < 9223372036854775808) :
 Calls Tryd.prog 72 #[.pointer (some ⟨D,0,none⟩)] w fun e w' => e = .returned (Fd.pkV (Fd.pk g n k ended) pb pr pl pc) /\ Below w.heap.size w w':=by
 rcases owns_row h.2 with ⟨rfl,rfl⟩ | ⟨q,cap,rfl,hq1,hq2,hc,hm,hby⟩
 . obtain rfl:k=0:=by omega
   have e:Fd.pk g 0 0 ended=(0,0,0,if ended then 3 else 1):=by
    unfold Fd.pk
    rw [if_neg (by simp [Rn.whole,Rn.fs]),if_pos (Nat.le_refl _)]
   rw [e]
   cases ended
   . exact peek_done h 0 (fun W _ => (next_nil W).mono fun e w' hh => ⟨hh.1,by rw [hh.2]; exact Below.refl _ _⟩)
   . exact peek_donee h 0 (fun W _ => (next_nil W).mono fun e w' hh => ⟨hh.1,by rw [hh.2]; exact Below.refl _ _⟩)
 . by_cases hkn : k = n
   . subst hkn
     have e:Fd.pk g k k ended=(0,0,0,if ended then 3 else 1):=by
      unfold Fd.pk
      rw [if_neg (by simp [Rn.whole,Rn.fs]),if_pos (Nat.le_refl _)]
     rw [e]
     cases ended
     . exact peek_done h 0 (fun W _ => (next_done q 0 k cap W hc hm).mono fun e w' hh => ⟨hh.1,by rw [hh.2]; exact Below.refl _ _⟩)
     . exact peek_donee h 0 (fun W _ => (next_done q 0 k cap W hc hm).mono fun e w' hh => ⟨hh.1,by rw [hh.2]; exact Below.refl _ _⟩)
   . have hlt:k < n:=by omega
     have cN:=fun W (hb:Below w.heap.size w W) => next_in g n q 0 cap k W (tabs_below hT hb (Nat.le_refl _)) hg hlt hc hm (hby.below hb (Nat.le_refl _))
     unfold Fd.pk
     by_cases hw:Rn.whole (Rn.off g k) (n - k)=true
     . rw [if_pos hw]
       simp only [Rn.nx_whole hw] at cN
       by_cases h13:Rn.fv (Rn.off g k)=13
       . rw [if_pos h13]
         rw [h13] at cN
         have cL:=fun W (hF:FeedAt W D B (.slice (some ⟨q,0,none⟩) n cap) g n k wh pb pr pl pc bad ended) => feedLineEnd_any hF hlt
         by_cases a1:k + 1 < n
         . by_cases a2 : g (k + 1) = 10
           . simp only [if_pos a1,if_pos a2] at cL ⊢
             exact peek_cr h _ cN 10 pb pr pl pc 2 0 cL
           . simp only [if_pos a1,if_neg a2] at cL ⊢
             exact peek_cr h _ cN 10 pb pr pl pc 1 0 cL
         . cases ended
           . simp only [if_neg a1,Bool.false_eq_true,if_false] at cL ⊢
             exact peek_cr h _ cN 0 0 0 0 0 0 1 cL
           . simp only [if_neg a1,if_true] at cL ⊢
             exact peek_cr h _ cN 10 pb pr pl pc 1 0 cL
       . rw [if_neg h13]
         exact peek_have h _ _ h13 cN
     . have hw':Rn.whole (Rn.off g k) (n - k)=false:=by simpa using hw
       rw [if_neg hw,if_neg (show ¬ n <= k by omega)]
       by_cases hwt:Rn.waits (Rn.off g k) (n - k)=true
       . rw [if_pos hwt]
         simp only [(Rn.nx_waits hwt).1] at cN
         cases ended
         . exact peek_wait h _ cN
         . exact peek_short h (n - k) (by omega) (by omega) (by omega) cN
       . have hwt':Rn.waits (Rn.off g k) (n - k)=false:=by simpa using hwt
         rw [if_neg hwt]
         simp only [Rn.nx_bad (show 0 < n - k by omega) hwt' hw'] at cN
         have hle:=Rn.fk_le (Rn.off g k) (n - k)
         refine peek_bad h q cap (Rn.fk (Rn.off g k) (n - k)) rfl hlt hc hm (by omega) (by omega) (by omega) 65533 cN (fun W hb => ?_)
         have cG:=good_any (Rn.off g k) (n - k) q (0 + k) (cap - k) W (tabs_below hT hb (Nat.le_refl _)) (fun j => hg _) (by omega) (by omega) ((hby.below hb (Nat.le_refl _)).off (by omega))
         rw [Fd.good_bad (by omega) hw',Nat.zero_add] at cG
         exact cG
end
end Go.Proofs.YteiiepjegdlbeaaDoor
namespace Go.Proofs.YteiiepjegdlbeaaDoor
open Go.RowKit Go.Lib
theorem But.then {D:Nat} {w a b:World} (h:But D w a) (k:Below w.heap.size a b) : But D w b :=
 ⟨k.os.trans h.os,k.tape.trans h.tape,k.output.trans h.output,Nat.le_trans h.size k.size,fun i hi hn => (k.block i hi).trans (h.block i hi hn)⟩
theorem FeedAt.belowAt {w w':World} {D B:Nat} {v:Value} {g:Nat -> Nat} {n k wh pb pr pl pc:Nat} {bad ended:Bool} {X:Nat} (h:FeedAt w D B v g n k wh pb pr pl pc bad ended) (hb:Below X w w') (hD:D < X) (hr : ∀ q,v.ownBlock=some q -> q < X) : FeedAt w' D B v g n k wh pb pr pl pc bad ended :=
 ⟨(hb.block D hD).trans h.1,kept_grown h.2 fun q hq => hb.block q (hr q hq)⟩
section
variable {D B:Nat} {v:Value} {g:Nat -> Nat} {n k wh pb pr pl pc:Nat} {bad ended:Bool} {w:World}
theorem next_nl (h:FeedAt w D B v g n k wh pb pr pl pc bad ended) (z:Nat) (y1 y2 y3 y4:Nat) (h0:k + z < 9223372036854775808) (h1:pb + z < 9223372036854775808) (h2:pr + z < 9223372036854775808) (h3:pl + 1 < 9223372036854775808)
 (cP : ∀ W,Below w.heap.size w W -> Calls Tryd.prog 72 #[.pointer (some ⟨D,0,none⟩)] W fun e W' => e = .returned (.tuple #[.agg #[.int .i32 10, .int .i64 y1, .int .i64 y2, .int .i64 y3, .int .i64 y4, .int .i64 z], .int .i64 0]) /\ Below W.heap.size W W') :
 Calls Tryd.prog 64 #[.pointer (some ⟨D,0,none⟩)] w fun e w' => e = .returned (.tuple #[.agg #[.int .i32 10, .int .i64 y1, .int .i64 y2, .int .i64 y3, .int .i64 y4, .int .i64 z], .int .i64 0]) /\ FeedAt w' D B v g n (k + z) wh (pb + z) (pr + z) (pl + 1) 1 bad ended /\ But D w w':=by
 have hlt:=h.lt
 have hrow:Hid (∀ q,v.ownBlock=some q -> q < w.heap.size):=fun q hq => (h.2.lt q hq).2
 have H:=hide' h
 clear h
 have hW:Below w.heap.size w (w.alloc (.cells #[.int .i32 0, .int .i64 0, .int .i64 0, .int .i64 0, .int .i64 0, .int .i64 0] 97)):=(Below.refl _ _).alloc (Nat.le_refl _) _
 have hN:=cP _ hW
 clear cP
 go_enter Tryd.func64,Tryd.ntmps64
 go_wp2_with fail
 refine hN.mono ?_
 rintro e W1 ⟨rfl,hb1⟩
 have hB1:Below w.heap.size w W1:=hW.trans (hb1.mono hW.size)
 have hR1:W1.heap[w.heap.size]? = some (.cells #[.int .i32 0, .int .i64 0, .int .i64 0, .int .i64 0, .int .i64 0, .int .i64 0] 97 (0,0)):=(hb1.block w.heap.size (by simp)).trans (by show (w.heap.push _)[w.heap.size]? = _; simp)
 have hs1:w.heap.size < W1.heap.size:=Nat.lt_of_lt_of_le (by simp) hb1.size
 have hne : ¬ w.heap.size=D:=by omega
 have hne2 : ¬ W1.heap.size=w.heap.size:=by omega
 clear hN hb1 hW
 have hF2:FeedAt (W1.alloc (.cells #[.int .i32 10, .int .i64 y1, .int .i64 y2, .int .i64 y3, .int .i64 y4, .int .i64 z] 97)) D B v g n k wh pb pr pl pc bad ended:=(H.out.below hB1).below ((Below.refl _ _).alloc (Nat.le_refl _) _)
 have hB2:Below w.heap.size w (W1.alloc (.cells #[.int .i32 10, .int .i64 y1, .int .i64 y2, .int .i64 y3, .int .i64 y4, .int .i64 z] 97)):=hB1.alloc hB1.size _
 have hR2:(W1.alloc (.cells #[.int .i32 10, .int .i64 y1, .int .i64 y2, .int .i64 y3, .int .i64 y4, .int .i64 z] 97)).heap[w.heap.size]? = some (.cells #[.int .i32 0, .int .i64 0, .int .i64 0, .int .i64 0, .int .i64 0, .int .i64 0] 97 (0,0)):=(Below.heap_alloc _ _ _ hs1).trans hR1
 have cT:=feedTake_nl hF2 z y1 y2 y3 y4 h0 h1 h2 h3
 have hC2:(W1.alloc (.cells #[.int .i32 10, .int .i64 y1, .int .i64 y2, .int .i64 y3, .int .i64 y4, .int .i64 z] 97)).heap[W1.heap.size]? = some (.cells #[.int .i32 10, .int .i64 y1, .int .i64 y2, .int .i64 y3, .int .i64 y4, .int .i64 z] 97 (0,0)):=by show (W1.heap.push _)[W1.heap.size]? = _; simp
 have HF:=hide' hF2
 have HB:=hide' hB2
 have HC:=hide' hC2
 have HR:=hide' hR2
 have hDW:Hid (D ≠ W1.heap.size):=by show D ≠ W1.heap.size; omega
 clear hF2 hB2 hC2 hR2 hB1 hR1 H
 go_wp2_with fail
 refine cT.mono ?_
 rintro e W3 ⟨rfl,hF3,hb3⟩
 have hR3:=(hb3.block w.heap.size (by simp; omega) (by omega)).trans HR.out
 have hC3:=(hb3.block W1.heap.size (by simp) (fun e => hDW.out e.symm)).trans HC.out
 have r0:W3.cell? ⟨w.heap.size,0,none⟩ = some (.int .i32 0):=by rw [Lib.cell_of_heap hR3]; rfl
 have r1:W3.cell? ⟨w.heap.size,1,none⟩ = some (.int .i64 0):=by rw [Lib.cell_of_heap hR3]; rfl
 have r2:W3.cell? ⟨w.heap.size,2,none⟩ = some (.int .i64 0):=by rw [Lib.cell_of_heap hR3]; rfl
 have r3:W3.cell? ⟨w.heap.size,3,none⟩ = some (.int .i64 0):=by rw [Lib.cell_of_heap hR3]; rfl
 have r4:W3.cell? ⟨w.heap.size,4,none⟩ = some (.int .i64 0):=by rw [Lib.cell_of_heap hR3]; rfl
 have r5:W3.cell? ⟨w.heap.size,5,none⟩ = some (.int .i64 0):=by rw [Lib.cell_of_heap hR3]; rfl
 have rz0:W3.frozen? ⟨w.heap.size,0,none⟩ = false:=Lib.frozen_of_heap hR3 0
 have rz1:W3.frozen? ⟨w.heap.size,1,none⟩ = false:=Lib.frozen_of_heap hR3 1
 have rz2:W3.frozen? ⟨w.heap.size,2,none⟩ = false:=Lib.frozen_of_heap hR3 2
 have rz3:W3.frozen? ⟨w.heap.size,3,none⟩ = false:=Lib.frozen_of_heap hR3 3
 have rz4:W3.frozen? ⟨w.heap.size,4,none⟩ = false:=Lib.frozen_of_heap hR3 4
 have rz5:W3.frozen? ⟨w.heap.size,5,none⟩ = false:=Lib.frozen_of_heap hR3 5
 have c0:W3.cell? ⟨W1.heap.size,0,none⟩ = some (.int .i32 10):=by rw [Lib.cell_of_heap hC3]; rfl
 have c1:W3.cell? ⟨W1.heap.size,1,none⟩ = some (.int .i64 y1):=by rw [Lib.cell_of_heap hC3]; rfl
 have c2:W3.cell? ⟨W1.heap.size,2,none⟩ = some (.int .i64 y2):=by rw [Lib.cell_of_heap hC3]; rfl
 have c3:W3.cell? ⟨W1.heap.size,3,none⟩ = some (.int .i64 y3):=by rw [Lib.cell_of_heap hC3]; rfl
 have c4:W3.cell? ⟨W1.heap.size,4,none⟩ = some (.int .i64 y4):=by rw [Lib.cell_of_heap hC3]; rfl
 have c5:W3.cell? ⟨W1.heap.size,5,none⟩ = some (.int .i64 z):=by rw [Lib.cell_of_heap hC3]; rfl
 have hB3:But D w W3:=(But.of_below HB.out).trans hb3
 have HF3:=hide' hF3
 have HB3:=hide' hB3
 clear hF3 hB3 hb3 hR3 hC3 HF HB HC HR cT
 go_wp2
 refine bodyPost_ret (v := .tuple #[.agg #[.int .i32 10, .int .i64 y1, .int .i64 y2, .int .i64 y3, .int .i64 y4, .int .i64 z], .int .i64 0]) (by simp [results,Tryd.results64,go_sem,r0,r1,r2,r3,r4,r5]) rfl ⟨rfl, ?_, ?_⟩
 . refine HF3.out.belowAt (X:=w.heap.size) ?_ hlt hrow.out
   (repeat refine Below.setCell ?_ (by simp) _)
   exact Below.refl _ _
 . refine HB3.out.then ?_
   (repeat refine Below.setCell ?_ (by simp) _)
   exact Below.refl _ _
theorem next_ch (h:FeedAt w D B v g n k wh pb pr pl pc bad ended) (r z:Nat) (y1 y2 y3 y4:Nat) (hr:r ≠ 10) (h0:k + z < 9223372036854775808) (h1:pb + z < 9223372036854775808) (h2:pr + 1 < 9223372036854775808) (h3:pc + 1 < 9223372036854775808)
 (cP : ∀ W,Below w.heap.size w W -> Calls Tryd.prog 72 #[.pointer (some ⟨D,0,none⟩)] W fun e W' => e = .returned (.tuple #[.agg #[.int .i32 r, .int .i64 y1, .int .i64 y2, .int .i64 y3, .int .i64 y4, .int .i64 z], .int .i64 0]) /\ Below W.heap.size W W') :
 Calls Tryd.prog 64 #[.pointer (some ⟨D,0,none⟩)] w fun e w' => e = .returned (.tuple #[.agg #[.int .i32 r, .int .i64 y1, .int .i64 y2, .int .i64 y3, .int .i64 y4, .int .i64 z], .int .i64 0]) /\ FeedAt w' D B v g n (k + z) wh (pb + z) (pr + 1) pl (pc + 1) bad ended /\ But D w w':=by
 have hlt:=h.lt
 have hrow:Hid (∀ q,v.ownBlock=some q -> q < w.heap.size):=fun q hq => (h.2.lt q hq).2
 have H:=hide' h
 clear h
 have hW:Below w.heap.size w (w.alloc (.cells #[.int .i32 0, .int .i64 0, .int .i64 0, .int .i64 0, .int .i64 0, .int .i64 0] 97)):=(Below.refl _ _).alloc (Nat.le_refl _) _
 have hN:=cP _ hW
 clear cP
 go_enter Tryd.func64,Tryd.ntmps64
 go_wp2_with fail
 refine hN.mono ?_
 rintro e W1 ⟨rfl,hb1⟩
 have hB1:Below w.heap.size w W1:=hW.trans (hb1.mono hW.size)
 have hR1:W1.heap[w.heap.size]? = some (.cells #[.int .i32 0, .int .i64 0, .int .i64 0, .int .i64 0, .int .i64 0, .int .i64 0] 97 (0,0)):=(hb1.block w.heap.size (by simp)).trans (by show (w.heap.push _)[w.heap.size]? = _; simp)
 have hs1:w.heap.size < W1.heap.size:=Nat.lt_of_lt_of_le (by simp) hb1.size
 have hne : ¬ w.heap.size=D:=by omega
 have hne2 : ¬ W1.heap.size=w.heap.size:=by omega
 clear hN hb1 hW
 have hF2:FeedAt (W1.alloc (.cells #[.int .i32 r, .int .i64 y1, .int .i64 y2, .int .i64 y3, .int .i64 y4, .int .i64 z] 97)) D B v g n k wh pb pr pl pc bad ended:=(H.out.below hB1).below ((Below.refl _ _).alloc (Nat.le_refl _) _)
 have hB2:Below w.heap.size w (W1.alloc (.cells #[.int .i32 r, .int .i64 y1, .int .i64 y2, .int .i64 y3, .int .i64 y4, .int .i64 z] 97)):=hB1.alloc hB1.size _
 have hR2:(W1.alloc (.cells #[.int .i32 r, .int .i64 y1, .int .i64 y2, .int .i64 y3, .int .i64 y4, .int .i64 z] 97)).heap[w.heap.size]? = some (.cells #[.int .i32 0, .int .i64 0, .int .i64 0, .int .i64 0, .int .i64 0, .int .i64 0] 97 (0,0)):=(Below.heap_alloc _ _ _ hs1).trans hR1
 have cT:=feedTake_ch hF2 r z y1 y2 y3 y4 hr h0 h1 h2 h3
 have hC2:(W1.alloc (.cells #[.int .i32 r, .int .i64 y1, .int .i64 y2, .int .i64 y3, .int .i64 y4, .int .i64 z] 97)).heap[W1.heap.size]? = some (.cells #[.int .i32 r, .int .i64 y1, .int .i64 y2, .int .i64 y3, .int .i64 y4, .int .i64 z] 97 (0,0)):=by show (W1.heap.push _)[W1.heap.size]? = _; simp
 have HF:=hide' hF2
 have HB:=hide' hB2
 have HC:=hide' hC2
 have HR:=hide' hR2
 have hDW:Hid (D ≠ W1.heap.size):=by show D ≠ W1.heap.size; omega
 clear hF2 hB2 hC2 hR2 hB1 hR1 H
 go_wp2_with fail
 refine cT.mono ?_
 rintro e W3 ⟨rfl,hF3,hb3⟩
 have hR3:=(hb3.block w.heap.size (by simp; omega) (by omega)).trans HR.out
 have hC3:=(hb3.block W1.heap.size (by simp) (fun e => hDW.out e.symm)).trans HC.out
 have r0:W3.cell? ⟨w.heap.size,0,none⟩ = some (.int .i32 0):=by rw [Lib.cell_of_heap hR3]; rfl
 have r1:W3.cell? ⟨w.heap.size,1,none⟩ = some (.int .i64 0):=by rw [Lib.cell_of_heap hR3]; rfl
 have r2:W3.cell? ⟨w.heap.size,2,none⟩ = some (.int .i64 0):=by rw [Lib.cell_of_heap hR3]; rfl
 have r3:W3.cell? ⟨w.heap.size,3,none⟩ = some (.int .i64 0):=by rw [Lib.cell_of_heap hR3]; rfl
 have r4:W3.cell? ⟨w.heap.size,4,none⟩ = some (.int .i64 0):=by rw [Lib.cell_of_heap hR3]; rfl
 have r5:W3.cell? ⟨w.heap.size,5,none⟩ = some (.int .i64 0):=by rw [Lib.cell_of_heap hR3]; rfl
 have rz0:W3.frozen? ⟨w.heap.size,0,none⟩ = false:=Lib.frozen_of_heap hR3 0
 have rz1:W3.frozen? ⟨w.heap.size,1,none⟩ = false:=Lib.frozen_of_heap hR3 1
 have rz2:W3.frozen? ⟨w.heap.size,2,none⟩ = false:=Lib.frozen_of_heap hR3 2
 have rz3:W3.frozen? ⟨w.heap.size,3,none⟩ = false:=Lib.frozen_of_heap hR3 3
 have rz4:W3.frozen? ⟨w.heap.size,4,none⟩ = false:=Lib.frozen_of_heap hR3 4
 have rz5:W3.frozen? ⟨w.heap.size,5,none⟩ = false:=Lib.frozen_of_heap hR3 5
 have c0:W3.cell? ⟨W1.heap.size,0,none⟩ = some (.int .i32 r):=by rw [Lib.cell_of_heap hC3]; rfl
 have c1:W3.cell? ⟨W1.heap.size,1,none⟩ = some (.int .i64 y1):=by rw [Lib.cell_of_heap hC3]; rfl
 have c2:W3.cell? ⟨W1.heap.size,2,none⟩ = some (.int .i64 y2):=by rw [Lib.cell_of_heap hC3]; rfl
 have c3:W3.cell? ⟨W1.heap.size,3,none⟩ = some (.int .i64 y3):=by rw [Lib.cell_of_heap hC3]; rfl
 have c4:W3.cell? ⟨W1.heap.size,4,none⟩ = some (.int .i64 y4):=by rw [Lib.cell_of_heap hC3]; rfl
 have c5:W3.cell? ⟨W1.heap.size,5,none⟩ = some (.int .i64 z):=by rw [Lib.cell_of_heap hC3]; rfl
 have hB3:But D w W3:=(But.of_below HB.out).trans hb3
 have HF3:=hide' hF3
 have HB3:=hide' hB3
 clear hF3 hB3 hb3 hR3 hC3 HF HB HC HR cT
 go_wp2
 refine bodyPost_ret (v := .tuple #[.agg #[.int .i32 r, .int .i64 y1, .int .i64 y2, .int .i64 y3, .int .i64 y4, .int .i64 z], .int .i64 0]) (by simp [results,Tryd.results64,go_sem,r0,r1,r2,r3,r4,r5]) rfl ⟨rfl, ?_, ?_⟩
 . refine HF3.out.belowAt (X:=w.heap.size) ?_ hlt hrow.out
   (repeat refine Below.setCell ?_ (by simp) _)
   exact Below.refl _ _
 . refine HB3.out.then ?_
   (repeat refine Below.setCell ?_ (by simp) _)
   exact Below.refl _ _
theorem next_no (h:FeedAt w D B v g n k wh pb pr pl pc bad ended) (r z m:Nat) (y1 y2 y3 y4:Nat) (hm:m ≠ 0)
 (cP : ∀ W,Below w.heap.size w W -> Calls Tryd.prog 72 #[.pointer (some ⟨D,0,none⟩)] W fun e W' => e = .returned (.tuple #[.agg #[.int .i32 r, .int .i64 y1, .int .i64 y2, .int .i64 y3, .int .i64 y4, .int .i64 z], .int .i64 m]) /\ Below W.heap.size W W') :
 Calls Tryd.prog 64 #[.pointer (some ⟨D,0,none⟩)] w fun e w' => e = .returned (.tuple #[.agg #[.int .i32 r, .int .i64 y1, .int .i64 y2, .int .i64 y3, .int .i64 y4, .int .i64 z], .int .i64 m]) /\ FeedAt w' D B v g n k wh pb pr pl pc bad ended /\ But D w w':=by
 have hm':((m:Int) == 0)=false:=by simp; omega
 clear hm
 have hlt:=h.lt
 have hrow:Hid (∀ q,v.ownBlock=some q -> q < w.heap.size):=fun q hq => (h.2.lt q hq).2
 have H:=hide' h
 clear h
 have hW:Below w.heap.size w (w.alloc (.cells #[.int .i32 0, .int .i64 0, .int .i64 0, .int .i64 0, .int .i64 0, .int .i64 0] 97)):=(Below.refl _ _).alloc (Nat.le_refl _) _
 have hN:=cP _ hW
 clear cP
 go_enter Tryd.func64,Tryd.ntmps64
 go_wp2_with fail
 refine hN.mono ?_
 rintro e W1 ⟨rfl,hb1⟩
 have hB1:Below w.heap.size w W1:=hW.trans (hb1.mono hW.size)
 have hR1:W1.heap[w.heap.size]? = some (.cells #[.int .i32 0, .int .i64 0, .int .i64 0, .int .i64 0, .int .i64 0, .int .i64 0] 97 (0,0)):=(hb1.block w.heap.size (by simp)).trans (by show (w.heap.push _)[w.heap.size]? = _; simp)
 have hs1:w.heap.size < W1.heap.size:=Nat.lt_of_lt_of_le (by simp) hb1.size
 have hne : ¬ w.heap.size=D:=by omega
 have hne2 : ¬ W1.heap.size=w.heap.size:=by omega
 clear hN hb1 hW
 have hF2:FeedAt (W1.alloc (.cells #[.int .i32 r, .int .i64 y1, .int .i64 y2, .int .i64 y3, .int .i64 y4, .int .i64 z] 97)) D B v g n k wh pb pr pl pc bad ended:=(H.out.below hB1).below ((Below.refl _ _).alloc (Nat.le_refl _) _)
 have hB2:Below w.heap.size w (W1.alloc (.cells #[.int .i32 r, .int .i64 y1, .int .i64 y2, .int .i64 y3, .int .i64 y4, .int .i64 z] 97)):=hB1.alloc hB1.size _
 have hR2:(W1.alloc (.cells #[.int .i32 r, .int .i64 y1, .int .i64 y2, .int .i64 y3, .int .i64 y4, .int .i64 z] 97)).heap[w.heap.size]? = some (.cells #[.int .i32 0, .int .i64 0, .int .i64 0, .int .i64 0, .int .i64 0, .int .i64 0] 97 (0,0)):=(Below.heap_alloc _ _ _ hs1).trans hR1
 have HF3:=hide' (H.out.below hB1)
 have HB3:Hid (But D w _):=But.of_below hB1
 have r0:W1.cell? ⟨w.heap.size,0,none⟩ = some (.int .i32 0):=by rw [Lib.cell_of_heap hR1]; rfl
 have r1:W1.cell? ⟨w.heap.size,1,none⟩ = some (.int .i64 0):=by rw [Lib.cell_of_heap hR1]; rfl
 have r2:W1.cell? ⟨w.heap.size,2,none⟩ = some (.int .i64 0):=by rw [Lib.cell_of_heap hR1]; rfl
 have r3:W1.cell? ⟨w.heap.size,3,none⟩ = some (.int .i64 0):=by rw [Lib.cell_of_heap hR1]; rfl
 have r4:W1.cell? ⟨w.heap.size,4,none⟩ = some (.int .i64 0):=by rw [Lib.cell_of_heap hR1]; rfl
 have r5:W1.cell? ⟨w.heap.size,5,none⟩ = some (.int .i64 0):=by rw [Lib.cell_of_heap hR1]; rfl
 have rz0:W1.frozen? ⟨w.heap.size,0,none⟩ = false:=Lib.frozen_of_heap hR1 0
 have rz1:W1.frozen? ⟨w.heap.size,1,none⟩ = false:=Lib.frozen_of_heap hR1 1
 have rz2:W1.frozen? ⟨w.heap.size,2,none⟩ = false:=Lib.frozen_of_heap hR1 2
 have rz3:W1.frozen? ⟨w.heap.size,3,none⟩ = false:=Lib.frozen_of_heap hR1 3
 have rz4:W1.frozen? ⟨w.heap.size,4,none⟩ = false:=Lib.frozen_of_heap hR1 4
 have rz5:W1.frozen? ⟨w.heap.size,5,none⟩ = false:=Lib.frozen_of_heap hR1 5
 clear hF2 hB2 hR2 hB1 hR1 H
 go_wp2
 refine bodyPost_ret (v := .tuple #[.agg #[.int .i32 r, .int .i64 y1, .int .i64 y2, .int .i64 y3, .int .i64 y4, .int .i64 z], .int .i64 m]) (by simp [results,Tryd.results64,go_sem,World.cell?_alloc_lt,hs1,r0,r1,r2,r3,r4,r5]) rfl ⟨rfl, ?_, ?_⟩
 . refine HF3.out.belowAt (X:=w.heap.size) ?_ hlt hrow.out
   refine Below.alloc ?_ (by simp; omega) _
   (repeat refine Below.setCell ?_ (by simp) _)
   exact Below.refl _ _
 . refine HB3.out.then ?_
   refine Below.alloc ?_ (by simp; omega) _
   (repeat refine Below.setCell ?_ (by simp) _)
   exact Below.refl _ _
end
end Go.Proofs.YteiiepjegdlbeaaDoor
namespace Go.Proofs.YteiiepjegdlbeaaDoor
open Go.RowKit Go.Lib
structure ButF (D:Nat) (v:Value) (w w':World) : Prop where
 os:w'.os=w.os
 tape:w'.tape=w.tape
 output:w'.output=w.output
 size:w.heap.size <= w'.heap.size
 block : ∀ k,k < w.heap.size -> k ≠ D -> v.ownBlock ≠ some k -> w'.heap[k]? = w.heap[k]?
theorem ButF.of_but {D:Nat} {v:Value} {w w':World} (h:But D w w') : ButF D v w w':=⟨h.os,h.tape,h.output,h.size,fun k hk hn _ => h.block k hk hn⟩
theorem ButF.of_below {D:Nat} {v:Value} {w w':World} (h:Below w.heap.size w w') : ButF D v w w' := .of_but (.of_below h)
theorem ButF.refl (D:Nat) (v:Value) (w:World) : ButF D v w w := .of_below (Below.refl _ _)
theorem ButF.trans {D:Nat} {v:Value} {a b c:World} (h:ButF D v a b) (k:ButF D v b c) : ButF D v a c :=
 ⟨k.os.trans h.os,k.tape.trans h.tape,k.output.trans h.output,Nat.le_trans h.size k.size,fun i hi hn hv => (k.block i (Nat.lt_of_lt_of_le hi h.size) hn hv).trans (h.block i hi hn hv)⟩
theorem ButF.trans_new {D:Nat} {v v':Value} {a b c:World} (h:ButF D v a b) (k:ButF D v' b c) (hv' : ∀ q,v'.ownBlock=some q -> v.ownBlock=some q \/ a.heap.size <= q) : ButF D v a c :=
 ⟨k.os.trans h.os,k.tape.trans h.tape,k.output.trans h.output,Nat.le_trans h.size k.size,fun i hi hn hv => (k.block i (Nat.lt_of_lt_of_le hi h.size) hn (fun e => by rcases hv' i e with e1 | e1; exact hv e1; omega)).trans (h.block i hi hn hv)⟩
theorem ButF.setRow {D:Nat} {v:Value} {w w':World} (h:ButF D v w w') {q:Nat} (hq:v.ownBlock=some q) (cs:Array Value) : ButF D v w (w'.setRow q cs) :=
 h.trans ⟨rfl,rfl,rfl,by simp [World.setRow],fun k _ _ hv => setRow_other w' q k cs (fun e => hv (by rw [e]; exact hq))⟩
theorem ButF.setCell {D:Nat} {v:Value} {w w':World} {p:Addr} (h:ButF D v w w') (hp:p.block=D) (u:Value) : ButF D v w (w'.setCell p u) :=
 h.trans (.of_but ((But.of_below (Below.refl _ _)).setCell hp u))
theorem ButF.drew {D:Nat} {v:Value} {w w':World} (h:ButF D v w w') : ButF D v w w'.drew:=⟨h.os,h.tape,h.output,h.size,h.block⟩
theorem ButF.drewN {D:Nat} {v:Value} {w w':World} (h:ButF D v w w') (m:Nat) : ButF D v w (w'.drewN m):=⟨h.os,h.tape,h.output,h.size,h.block⟩
theorem step_copy_row {P:Program} {ops:Array Oper} {o:Oper} {a:Act} {w:World} {K:Act -> World -> Prop} {Q:Exit -> Act -> World -> Prop} {E:Prop} (hgd:o.guard=none) (d s:Operand) (dT sT:TypeId)
 (ho:o.op = .call { callee := .builtin .copy,args := #[d,s],argTypes := #[dT,sT] }) (elem:TypeId) (hu:P.underlying dT=some (.slice elem)) (hsz:(P.info? elem).map (·.size)=some 1)
 (g off dLen dCap:Nat) (ad:Addr) (sLen sCap:Nat) (hd:a.eval d = .slice (some ⟨g,off,none⟩) dLen dCap) (hs:a.eval s = .slice (some ad) sLen sCap)
 (cur:Array Value) (t:TypeId) (hg:w.heap[g]? = some (.cells cur t (0,0))) (cs:List Value) (hn:cs.length=Nat.min sLen dLen)
 (hsrc : ∀ j v,cs[j]? = some v -> w.cell? (ad.add j)=some v) (hfit:off + cs.length <= cur.size) (h1 : ∀ v ∈ cs,v.oneCell'=true)
 (h : ∀ w',Hid (w'=w.setRow g (cur.toList.take off ++ (cs ++ cur.toList.drop (off + cs.length))).toArray) -> K (a.put o.dst (goInt cs.length)) w') :
 if Region.wanted o (yielded ops a.tmps)=true then Oper.wp P o a w K Q else E:=by
 have hw:Region.wanted o (yielded ops a.tmps)=true:=by simp [Region.wanted,hgd]
 rw [if_pos hw]
 have hrun:=run_copy_row (P:=P) w dT sT o.type elem g off dLen dCap ad sLen sCap cur t cs hu hsz hg hn hsrc hfit h1
 unfold Oper.wp
 simp [execOp,ho,resolve,invoke,builtin,hd,hs,hrun,Result.andThen]
 exact h _ (show _=_ from rfl)
section
variable {D B:Nat} {v:Value} {g:Nat -> Nat} {n k wh pb pr pl pc:Nat} {bad ended:Bool} {w:World}
theorem feedDrop_few (h:FeedAt w D B v g n k wh pb pr pl pc bad ended) (hk:k <= n) (hm:n <= 4611686018427387904) (hlt:k < n - k) :
 Calls Tryd.prog 86 #[.pointer (some ⟨D,0,none⟩)] w fun e w' => e = .returned (.tuple #[]) /\ Below w.heap.size w w':=by
 rcases owns_row h.2 with ⟨rfl,rfl⟩ | ⟨q,cap,rfl,hq1,hq2,hc,hm,hby⟩
 . omega
 obtain ⟨c0,c1, -, -, -, -, -, -, -⟩:=h.cell
 have i1:(k:Int) < (n:Int) - (k:Int):=by omega
 clear h hby
 go_enter Tryd.func86,Tryd.ntmps86
 go_wp2
 go_quiet (fail)
 go_wp2
 first | go_end0 | (simp only [Exit.inBlock,Exit.then]; refine bodyPost_ret (results_none rfl _ _ _) rfl ?_) | refine bodyPost_ret (results_none rfl _ _ _) rfl ?_
 exact ⟨rfl,below_drewN (Below.refl _ _) _⟩
theorem feedDrop_nil (h:FeedAt w D B (.slice none 0 0) g 0 0 0 pb pr pl pc bad ended) :
 Calls Tryd.prog 86 #[.pointer (some ⟨D,0,none⟩)] w fun e w' => e = .returned (.tuple #[]) /\ FeedAt w' D B (.slice none 0 0) g 0 0 0 pb pr pl pc bad ended /\ But D w w':=by
 obtain ⟨c0,c1,c2, -, -, -, -, -, -⟩:=h.cell
 have f0:=h.fz 0
 have f1:=h.fz 1
 have f2:=h.fz 2
 have H:=hide' h
 clear h
 have hcp:=fun W:World => run_copy_none (P:=Tryd.prog) W 22 22 3 5 none none 0 0 0 0 Tryd.underlying22 (by kernel_rfl) rfl
 go_enter Tryd.func86,Tryd.ntmps86
 go_wp2
 go_quiet (fail)
 go_wp2
 go_region
 go_wp2
 go_region
 go_wp2
 go_end0
 exact ⟨rfl,⟨Go.Joins.block_setCell (i:=1) (Go.Joins.block_setCell (i:=2) (Go.Joins.block_setCell (i:=0) (w:=w.drewN (nq + 1)) H.out.1 _) _) _,World.ownsRow_nil _ _ _ _⟩,
  ((((But.of_below (below_drewN (Below.refl _ _) _)).setCell (p:=⟨D,0,none⟩) rfl _).setCell (p:=⟨D,2,none⟩) rfl _).setCell (p:=⟨D,1,none⟩) rfl _).then (Below.refl _ _).drew⟩
theorem drop_end {W:World} {q cap m x:Nat} {y:Int} {v0:Value} {cur:Array Value} (hD:W.heap[D]? = some (.cells #[v0, .int .i64 k, .int .i64 wh, .int .i64 pb, .int .i64 pr, .int .i64 pl, .int .i64 pc, .bool bad, .bool ended] 95 (0,0)))
 (hq:W.heap[q]? = some (.cells cur 5 (0,0))) (hcur:cur.size=cap) (ht:cur.toList.take m=xs g m) (hmc:m <= cap) (hcm:cap <= maxLen) (hB:B <= q) (hDq : ¬ D=q) (hy:y=(x:Int)) :
 FeedAt (((W.setCell ⟨D,0,none⟩ (.slice (some ⟨q,0,none⟩) m cap)).setCell ⟨D,2,none⟩ (.int .i64 y)).setCell ⟨D,1,none⟩ (.int .i64 0)).drew D B (.slice (some ⟨q,0,none⟩) m cap) g m 0 x pb pr pl pc bad ended:=by
 subst hy
 have hr:W.ownsRow B 5 1 (.slice (some ⟨q,0,none⟩) m cap) m (xs g m):=⟨by rw [xs_length,Nat.mul_one], .inr ⟨q,cap,cur,rfl,hB,hq,hmc,hcm,by omega,by rw [Nat.mul_one]; exact ht⟩⟩
 have hn:(Value.slice (some ⟨q,0,none⟩) m cap).ownBlock ≠ some D:=fun e => hDq (Option.some.inj e).symm
 exact FeedAt.below ⟨Go.Joins.block_setCell (i:=1) (Go.Joins.block_setCell (i:=2) (Go.Joins.block_setCell (i:=0) hD _) _) _,((hr.setOther hn _).setOther hn _).setOther hn _⟩ (Below.refl _ _).drew
theorem feedDrop_row (q cap:Nat) (h:FeedAt w D B (.slice (some ⟨q,0,none⟩) n cap) g n k wh pb pr pl pc bad ended) (hk:k <= wh) (hwh:wh <= n) (hc:n <= cap) (hm:cap <= maxLen) (hge:n - k <= k) :
 Calls Tryd.prog 86 #[.pointer (some ⟨D,0,none⟩)] w fun e w' => e = .returned (.tuple #[]) /\ FeedAt w' D B (.slice (some ⟨q,0,none⟩) (n - k) cap) (Rn.off g k) (n - k) 0 (wh - k) pb pr pl pc bad ended /\ ButF D (.slice (some ⟨q,0,none⟩) n cap) w w':=by
 have hby:=bytes_of_owns h.2
 have hm':cap <= 9223372036854775807:=by unfold maxLen at hm; omega
 obtain ⟨cur,hq,hcur,htk⟩ : ∃ cur:Array Value,w.heap[q]? = some (.cells cur 5 (0,0)) /\ cur.size=cap /\ B <= q:=by
  rcases h.2.2 with ⟨h1,_⟩ | ⟨q',cap',cur,hv,hb,hg,h2,h3,h4,h5⟩
  . cases h1
  . cases hv
    exact ⟨cur,hg,by omega,hb⟩
 have hDq : ¬ D=q:=fun e => h.block_ne (by rw [e]; rfl)
 obtain ⟨c0,c1,c2, -, -, -, -, -, -⟩:=h.cell
 have f0:=h.fz 0
 have f1:=h.fz 1
 have f2:=h.fz 2
 have H:=hide' h
 clear h
 obtain ⟨cs,hcs⟩ : ∃ cs,cs=xs (Rn.off g k) (n - k):=⟨_,rfl⟩
 have hl:cs.length=n - k:=by rw [hcs,xs_length]
 have h1 : ∀ u ∈ cs,u.oneCell'=true:=by rw [hcs]; exact one_cell _ _
 have hsrc : ∀ W:World,W.heap[q]? = w.heap[q]? -> ∀ j u,cs[j]? = some u -> W.cell? (Addr.add ⟨q,k,none⟩ j)=some u:=by
  intro W hW j u hu
  rw [hcs] at hu
  obtain ⟨hj,rfl⟩:=xs_get _ _ _ _ hu
  have:=hby (k + j) (by omega)
  rw [show Addr.add ⟨q,k,none⟩ j=⟨q,k + j,none⟩ by simp [Addr.add],World.cell?_of_block (w:=w) hW]
  rw [Nat.zero_add] at this
  exact this
 have HCS:=hide' hcs
 clear hcs hby
 have i1 : ¬ (k:Int) < (n:Int) - (k:Int):=by omega
 have i2:(k:Int) <= n:=by omega
 have i3:(0:Int) <= (k:Int):=by omega
 have hnil : ∀ (W:World) (a:Option Addr) (m:Nat),Sem.run Tryd.prog (Builtin.copy_ #[22,22] 3 #[.slice (some ⟨q,0,none⟩) n cap, .slice a 0 m]) W = .ok (goInt 0) W:=fun W a m => run_copy_none (P:=Tryd.prog) W 22 22 3 5 (some ⟨q,0,none⟩) a n cap 0 m Tryd.underlying22 (by kernel_rfl) (by simp)
 by_cases hkn:k=n
 . subst hkn
   have hd0:decide ((k:Int) < 0)=false:=by simp
   have hwk:wh=k:=by omega
   subst hwk
   clear hl hsrc h1 HCS cs
   by_cases hck:cap=wh
   . subst hck
     go_enter Tryd.func86,Tryd.ntmps86
     go_wp2
     go_quiet (fail)
     go_wp2
     go_region
     go_wp2
     go_region
     go_wp2
     go_end0
     refine ⟨rfl, ?_,((((ButF.refl _ _ _).drewN _).setCell (p:=⟨D,0,none⟩) rfl _).setCell (p:=⟨D,2,none⟩) rfl _).setCell (p:=⟨D,1,none⟩) rfl _ |>.drew⟩
     rw [Nat.sub_self]
     exact drop_end (W:=w.drewN (nq + 1)) (x:=0) H.out.1 hq hcur (by simp [xs]) (by omega) hm htk hDq rfl
   . have i4 : ¬ cap - wh=0:=by omega
     go_enter Tryd.func86,Tryd.ntmps86
     go_wp2
     go_quiet (fail)
     go_wp2
     go_region
     go_wp2
     go_region
     go_wp2
     go_end0
     refine ⟨rfl, ?_,((((ButF.refl _ _ _).drewN _).setCell (p:=⟨D,0,none⟩) rfl _).setCell (p:=⟨D,2,none⟩) rfl _).setCell (p:=⟨D,1,none⟩) rfl _ |>.drew⟩
     rw [Nat.sub_self]
     exact drop_end (W:=w.drewN (nq + 1)) (x:=0) H.out.1 hq hcur (by simp [xs]) (by omega) hm htk hDq rfl
 . have i4 : ¬ cap - k=0:=by omega
   have i5 : ¬ cap=k:=by omega
   have hq' : ∀ m,(w.drewN m).drew.heap[q]? = some (.cells cur 5 (0,0)):=fun m => hq
   go_enter Tryd.func86,Tryd.ntmps86
   go_wp2
   go_quiet (fail)
   go_wp2
   have g0:(w.drewN nq).drew.cell? ⟨D,0,none⟩ = some (.slice (some ⟨q,0,none⟩) n cap) /\ (w.drewN nq).drew.cell? ⟨D,1,none⟩ = some (.int .i64 k):=⟨c0,c1⟩
   go_region_held3 (fun w' => w'.cell? ⟨D,0,none⟩ = some (.slice (some ⟨q,0,none⟩) n cap) /\ w'.cell? ⟨D,1,none⟩ = some (.int .i64 k)) (first | (with_reducible exact g0) | (with_reducible exact g1))
    (first | (refine step_copy_row rfl (.tmp 21) (.tmp 30) 22 22 rfl 5 Tryd.underlying22 (by kernel_rfl) q 0 n cap ⟨q,k,none⟩ (n - k) (cap - k) rfl rfl cur 5 (hq' _) cs (by rw [hl]; exact (Nat.min_eq_left (by omega)).symm) (hsrc _ rfl) (by omega) h1 ?_; intro W2 hW2; have g1:W2.cell? ⟨D,0,none⟩ = some (.slice (some ⟨q,0,none⟩) n cap) /\ W2.cell? ⟨D,1,none⟩ = some (.int .i64 k):=(by rw [hW2.out]; exact ⟨(World.cell?_of_block (setRow_other _ q D _ hDq)).trans c0,(World.cell?_of_block (setRow_other _ q D _ hDq)).trans c1⟩)))
   have hD2:W2.heap[D]? = some (.cells #[.slice (some ⟨q,0,none⟩) n cap, .int .i64 k, .int .i64 wh, .int .i64 pb, .int .i64 pr, .int .i64 pl, .int .i64 pc, .bool bad, .bool ended] 95 (0,0)):=by rw [hW2.out]; exact (setRow_other _ q D _ hDq).trans H.out.1
   have x0:W2.cell? ⟨D,0,none⟩ = some (.slice (some ⟨q,0,none⟩) n cap):=by rw [Lib.cell_of_heap hD2]; rfl
   have x1:W2.cell? ⟨D,1,none⟩ = some (.int .i64 k):=by rw [Lib.cell_of_heap hD2]; rfl
   have x2:W2.cell? ⟨D,2,none⟩ = some (.int .i64 wh):=by rw [Lib.cell_of_heap hD2]; rfl
   have z0:W2.frozen? ⟨D,0,none⟩ = false:=Lib.frozen_of_heap hD2 0
   have z1:W2.frozen? ⟨D,1,none⟩ = false:=Lib.frozen_of_heap hD2 1
   have z2:W2.frozen? ⟨D,2,none⟩ = false:=Lib.frozen_of_heap hD2 2
   have HD2:=hide' hD2
   have j1:(0:Int) <= ((n - k:Nat) : Int):=by omega
   have j2:((n - k:Nat) : Int) <= cap:=by omega
   have j3:IntKind.i64.wrap ((wh:Int) - (k:Int))=(wh:Int) - (k:Int):=by rw [IntKind.wrap_i64]; omega
   clear hD2 g0 g1 hsrc h1 hq' c0 c1 c2 f0 f1 f2
   go_wp2
   go_region
   go_wp2
   go_end0
   have hb2:ButF D (.slice (some ⟨q,0,none⟩) n cap) w W2:=by
    rw [hW2.out]
    exact (((ButF.refl _ _ _).drewN nq).drew).setRow rfl _
   refine ⟨rfl, ?_,(((hb2.setCell (p:=⟨D,0,none⟩) rfl _).setCell (p:=⟨D,2,none⟩) rfl _).setCell (p:=⟨D,1,none⟩) rfl _).drew⟩
   have hq2:W2.heap[q]? = some (.cells (cur.toList.take 0 ++ (cs ++ cur.toList.drop (0 + cs.length))).toArray 5 (0,0)):=by
    rw [hW2.out]
    exact setRow_heap _ q cur _ _ _ hq
   refine drop_end (x:=wh - k) HD2.out hq2 (by simp; omega) ?_ (by omega) hm htk hDq (by omega)
   rw [<- HCS.out]
   simp [<- hl]
end
end Go.Proofs.YteiiepjegdlbeaaDoor
