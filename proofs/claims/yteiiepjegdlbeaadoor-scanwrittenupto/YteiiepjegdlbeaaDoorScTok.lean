import Derived.Test.YteiiepjegdlbeaaDoorScGo
import Derived.Test.YteiiepjegdlbeaaDoorScAdd
import Derived.Test.YteiiepjegdlbeaaDoorScSigns
import Derived.Test.YteiiepjegdlbeaaDoorScShelfB
import Derived.Deep.MidRow
import Derived.Deep.RegionHeld
set_option maxHeartbeats 4000000
set_option maxRecDepth 10000
namespace Go.Proofs.YteiiepjegdlbeaaDoor
open Go.RowKit Go.Lib
namespace Sc
theorem crs:CRs:=by
 intro sg r hs hr
 by_cases h:r < 128
 . exact cr_low sg r h
 . intro W
   refine (containsRune_none sg r hr hs (by omega) W).mono ?_
   rintro e w' ⟨rfl,hb⟩
   refine ⟨ret_bool ?_,hb⟩
   symm
   rw [decide_eq_false_iff_not]
   intro hm
   simp only [sgn,List.mem_map] at hm
   obtain ⟨b,hb1,hb2⟩:=hm
   have:=hs b hb1
   omega
theorem twices:Twices:=fun _ _ _ _ _ _ _ _ h hy ok => twice_any h hy ok
theorem adds:Adds:=fun _ _ _ _ _ _ _ _ h hy ok => add_attr h hy ok
theorem clone_any (l:List UInt8) (w:World) (hl:l.length <= 70368744177664) : Calls Tryd.prog 30 #[.string ⟨l.toArray⟩] w fun e w' => e = .returned (.string ⟨l.toArray⟩) /\ Below w.heap.size w w':=by
 have cC:=Tryd.stringslite_Clone ⟨l.toArray⟩ w (by simp [ByteArray.size]; omega)
 go_enter Tryd.func30,Tryd.ntmps30
 go_wp2_with fail
 refine cC.mono ?_
 rintro e w1 ⟨rfl,hb⟩
 clear cC
 go_wp2_with fail
 go_ret
 exact ⟨rfl,hb⟩
def walkA (inn:Nat) (nm:List UInt8) (d:Nat) : Array Value :=
 #[.int .i64 (inn:Nat), .string ⟨nm.toArray⟩, .int .i64 0, .int .i64 1, .int .i64 0, .int .i64 0, .int .i64 0, .int .i64 0, .pointer (some ⟨d,0,none⟩), .int .i64 0, .int .i64 0, .int .i64 0, .slice none 0 0, .int .i64 0, .int .i64 0, .slice none 0 0, .int .i64 0, .int .i64 0, .slice none 0 0, .slice none 0 0, .map none, .slice none 0 0, .slice none 0 0, .int .i32 0]
theorem walkInfo:(Tryd.prog.info? 57).map (·.size)=some 24:=by kernel_rfl
theorem walkOne (inn:Nat) (nm:List UInt8) (d:Nat) : (walkA inn nm d).all (·.oneCell')=true:=by simp [walkA,Value.oneCell']
def setAll (cur:Array Value) : Nat -> List Value -> Array Value
 | _, [] => cur
 | o,v :: r => setAll (cur.setIfInBounds o v) (o + 1) r
theorem heap_setCells {b:Nat} {t:TypeId} : ∀ (vs:List Value) (o:Nat) (cur:Array Value) (w:World),w.heap[b]? = some (.cells cur t (0,0)) -> (w.setCells b o vs).heap[b]? = some (.cells (setAll cur o vs) t (0,0))
 | [],_,_,_,h => h
 | v :: r,o,cur,w,h => heap_setCells r (o + 1) (cur.setIfInBounds o v) (w.setCell ⟨b,o,none⟩ v) (Go.Joins.block_setCell (i:=o) h v)
theorem heap_setCells_far {b q:Nat} (hq:q ≠ b) : ∀ (vs:List Value) (o:Nat) (w:World),(w.setCells b o vs).heap[q]? = w.heap[q]?
 | [],_,_ => rfl
 | v :: r,o,w => (heap_setCells_far hq r (o + 1) (w.setCell ⟨b,o,none⟩ v)).trans (RowKit.Below.heap_setCell _ _ _ _ hq)
theorem size_setCells {b:Nat} : ∀ (vs:List Value) (o:Nat) (w:World),(w.setCells b o vs).heap.size=w.heap.size
 | [],_,_ => rfl
 | v :: r,o,w => (size_setCells r (o + 1) (w.setCell ⟨b,o,none⟩ v)).trans (by simp [World.setCell])
theorem below_cells {B b:Nat} {a:World} (hb:B <= b) : ∀ (vs:List Value) (o:Nat) (w:World),Below B a w -> Below B a (w.setCells b o vs)
 | [],_,_,h => h
 | v :: r,o,_,h => below_cells hb r (o + 1) _ (h.setCell (p:=⟨b,o,none⟩) hb v)
theorem there_of {w:World} {b:Nat} {cur:Array Value} {t:TypeId} (h:w.heap[b]? = some (.cells cur t (0,0))) (o n:Nat) (hn:o + n <= cur.size) : w.there b o n:=fun j hj =>
 ⟨by rw [Lib.cell_of_heap h,Array.getElem?_eq_getElem (by omega)]; rfl,Lib.frozen_of_heap h _⟩
theorem results_cell {P:Program} {fn:Func} {a:Nat} {t:TypeId} (hr:fn.results = #[.cell a t]) (tmps:Array Value) (p:Addr) (hp:tmps[a]?.getD undef = .pointer (some p)) (v:Value) (w:World) (h:(loadVar t p).run P w = .ok v w) : (results fn tmps).run P w = .ok v w:=by
 unfold results
 rw [hr]
 simp [asAddr,hp,h]
theorem newWalk_any (inn:Nat) (nm:List UInt8) (w:World) (B:Nat) (f:Nat -> Nat) :
 Calls Tryd.prog 29 #[.int .i64 inn, .string ⟨nm.toArray⟩] w fun e w' => ∃ d,e = .returned (.agg (walkA inn nm d)) /\ w.heap.size < d /\ Feed w' d B f 0 0 false (.slice none 0 0) (0,1,1) /\ Below w.heap.size w w':=by
 have cF:=fun W => feedNew_abs W f B
 go_enter Tryd.func29,Tryd.ntmps29
 go_wp2_with fail
 refine (cF _).mono ?_
 rintro e w1 ⟨rfl,hF,hb,hlt⟩
 clear cF
 have hcell:w1.heap[w.heap.size]? = some (.cells #[.int .i64 0, .string ⟨#[]⟩, .int .i64 0, .int .i64 0, .int .i64 0, .int .i64 0, .int .i64 0, .int .i64 0, .pointer none, .int .i64 0, .int .i64 0, .int .i64 0, .slice none 0 0, .int .i64 0, .int .i64 0, .slice none 0 0, .int .i64 0, .int .i64 0, .slice none 0 0, .slice none 0 0, .map none, .slice none 0 0, .slice none 0 0, .int .i32 0] 57 (0,0)):=(hb.block _ (by simp)).trans (heap_alloc_new w _)
 have ht:=there_of hcell 0 24 (Nat.le_refl _)
 have hres:(loadVar 57 ⟨w.heap.size,0,none⟩).run Tryd.prog (w1.setCells w.heap.size 0 (walkA inn nm (w.heap.size + 1)).toList) = .ok (.agg (walkA inn nm (w.heap.size + 1))) (w1.setCells w.heap.size 0 (walkA inn nm (w.heap.size + 1)).toList) :=
  run_loadVar_mid _ w.heap.size 0 57 (walkA inn nm (w.heap.size + 1)).toList _ (World.rangeAt_setCells_same _ _ _ _ ht) Tryd.underlying57 rfl walkInfo
 have HT:=hide' ht
 have HF:=hide' hF
 have HB:=hide' hb
 have HRES:=hide' hres
 have HLT:=hide' hlt
 clear hF hb hcell ht hres hlt
 go_wp2_with (refine wpList_store_mid rfl 57 (.tmp 4) (.tmp 8) rfl w.heap.size 0 (walkA inn nm (w.heap.size + 1)) rfl rfl HT.out walkInfo (walkOne _ _ _) ?_)
 have hres:=HRES.out
 refine bodyPost_ret (v := .agg (walkA inn nm (w.heap.size + 1))) (results_cell Tryd.results29 _ ⟨w.heap.size,0,none⟩ rfl _ _ hres) rfl ⟨w.heap.size + 1,rfl,by omega, ?_, ?_⟩
 . have hF:=HF.out
   rw [show (w.alloc (.cells #[.int .i64 0, .string ⟨#[]⟩, .int .i64 0, .int .i64 0, .int .i64 0, .int .i64 0, .int .i64 0, .int .i64 0, .pointer none, .int .i64 0, .int .i64 0, .int .i64 0, .slice none 0 0, .int .i64 0, .int .i64 0, .slice none 0 0, .int .i64 0, .int .i64 0, .slice none 0 0, .slice none 0 0, .map none, .slice none 0 0, .slice none 0 0, .int .i32 0] 57)).heap.size=w.heap.size + 1 by simp] at hF
   exact hF.keep (heap_setCells_far (by omega) _ _ _) fun q e => by cases e
 . exact below_cells (Nat.le_refl _) _ _ _ (((Below.refl w.heap.size w).alloc (Nat.le_refl _) _).trans (HB.out.mono (by simp)))
section
variable {w:World} {D B n:Nat} {f:Nat -> Nat} {S:St} {R:Raw} {d:Nat}
theorem finish_done (h:SC w D B f n S R) (h2:S.inn=2) (h0:S.k.st=0) :
 Calls Tryd.prog 23 #[.pointer (some ⟨D,0,none⟩)] w fun e w' => e = .returned (.tuple #[]) /\ SC w' D B f n (S.wk { S.k with how:=3 }) R /\ To D R w R w':=by
 have c6:=h.c6
 have c8:=h.c8
 have c9:=h.c9
 have f9:=h.fz 9
 rw [h2] at c6
 rw [h0] at c8
 have H:=hide' h
 clear h h2 h0
 go_enter Tryd.func23,Tryd.ntmps23
 go_wp2_with fail
 first | go_end0 | (simp only [Exit.inBlock,Exit.then]; refine bodyPost_ret (results_none rfl _ _ _) rfl ?_) | refine bodyPost_ret (results_none rfl _ _ _) rfl ?_
 exact ⟨rfl,H.out.put 9 _ _ rfl ⟨rfl,rfl,rfl,rfl,rfl,rfl,rfl,rfl⟩,(To.refl _ _ _).setCell 9 _ rfl⟩
theorem finish_bad (h:SC w D B f n S R) (hy:Rdy w B n f S R d) (hb : ¬ (S.inn=2 /\ S.k.st=0)) :
 Calls Tryd.prog 23 #[.pointer (some ⟨D,0,none⟩)] w fun e w' => e = .returned (.tuple #[]) /\ SC w' D B f n (S.wk (S.k.fails n)) { R with bp:=pla S.pl f n n } /\ To D R w { R with bp:=pla S.pl f n n } w':=by
 have c6:=h.c6
 have c8:=h.c8
 have c0:=h.c0
 have hbig:=hy.big
 obtain ⟨pa,cap,er⟩:=h.rest.form
 rw [er] at c0
 have cF:=fail_any h n hy.lt (Nat.le_refl _) (by omega) hy.pl60
 have CF:=hide' cF
 by_cases h2:S.inn=2
 . have i0:((S.k.st:Int) == 0)=false:=by simp; omega
   rw [h2] at c6
   clear h hy cF er h2 hb
   go_enter Tryd.func23,Tryd.ntmps23
   go_wp2_with fail
   refine CF.out.mono ?_
   rintro e W ⟨rfl,s1,s2⟩
   have HS:=hide' s1
   have HT:=hide' s2
   clear s1 s2 CF
   go_wp2_with fail
   first | go_end0 | (simp only [Exit.inBlock,Exit.then]; refine bodyPost_ret (results_none rfl _ _ _) rfl ?_) | refine bodyPost_ret (results_none rfl _ _ _) rfl ?_
   exact ⟨rfl,HS.out,HT.out⟩
 . have i0:((S.inn:Int) == 2)=false:=by simp; omega
   clear h hy cF er h2 hb
   go_enter Tryd.func23,Tryd.ntmps23
   go_wp2_with fail
   refine CF.out.mono ?_
   rintro e W ⟨rfl,s1,s2⟩
   have HS:=hide' s1
   have HT:=hide' s2
   clear s1 s2 CF
   go_wp2_with fail
   first | go_end0 | (simp only [Exit.inBlock,Exit.then]; refine bodyPost_ret (results_none rfl _ _ _) rfl ?_) | refine bodyPost_ret (results_none rfl _ _ _) rfl ?_
   exact ⟨rfl,HS.out,HT.out⟩
theorem end_any (h:SCe w D B f n S R) :
 Calls Tryd.prog 13 #[.pointer (some ⟨D,0,none⟩)] w fun e w' => e = .returned (.int .i64 (if S.ended=true then 5 else 0)) /\ w'=if S.ended=true then w else w.setCell ⟨D,5,none⟩ (.bool true):=by
 have c5:=h.c5
 have f5:=h.fz 5
 clear h
 cases e:S.ended
 . rw [e] at c5
   simp only [Bool.false_eq_true,if_false]
   go_enter Tryd.func13,Tryd.ntmps13
   go_wp2
   go_ret
   exact ⟨rfl,rfl⟩
 . rw [e] at c5
   simp only [if_true]
   go_enter Tryd.func13,Tryd.ntmps13
   go_wp2
   go_ret
   exact ⟨rfl,rfl⟩
def noRaw (v:Value) : Raw:=⟨v, .slice none 0 0, .slice none 0 0, .slice none 0 0, .slice none 0 0,none, .slice none 0 0, .slice none 0 0,(0,0,0,0),none, .slice none 0 0⟩
def noSt (pl:Nat × Nat × Nat × Nat) (e:Bool) : St:=⟨pl,e,0, [],0,0,0, { how:=0 }⟩
theorem foot_no (D:Nat) (v:Value) : foot D (noRaw v) = [some D,none,none,v.ownBlock,none,none,none,none,none,none,none]:=rfl
theorem apart_no {D:Nat} {v:Value} (h:v.ownBlock ≠ some D) : Apart (foot D (noRaw v)):=by
 rw [foot_no]
 intro i j q hi hj
 match i,j with
 | 0,0 => rfl
 | 3,3 => rfl
 | 0,3 => simp at hi hj; exact absurd (hj.trans (by rw [hi])) h
 | 3,0 => simp at hi hj; exact absurd (hi.trans (by rw [hj])) h
 | 1,_ => simp at hi
 | 2,_ => simp at hi
 | 4,_ => simp at hi
 | 5,_ => simp at hi
 | 6,_ => simp at hi
 | 7,_ => simp at hi
 | 8,_ => simp at hi
 | 9,_ => simp at hi
 | 10,_ => simp at hi
 | _ + 11,_ => simp at hi
 | _,1 => simp at hj
 | _,2 => simp at hj
 | _,4 => simp at hj
 | _,5 => simp at hj
 | _,6 => simp at hj
 | _,7 => simp at hj
 | _,8 => simp at hj
 | _,9 => simp at hj
 | _,10 => simp at hj
 | _,_ + 11 => simp at hj
theorem SC.none_of {pl:Nat × Nat × Nat × Nat} {e:Bool} {v:Value} (hc:w.heap[D]? = some (.cells (cells (noSt pl e) (noRaw v)) 59 (0,0))) (hB:B <= D) (hr:RowF w B v n f) (hv:v.ownBlock ≠ some D) : SC w D B f n (noSt pl e) (noRaw v) :=
 ⟨hc,hB,hr,World.ownsRow_nil _ _ _ _,World.ownsRow_nil _ _ _ _,World.ownsRow_nil _ _ _ _,World.ownsRow_nil _ _ _ _, .inl ⟨rfl,rfl⟩,World.ownsRow_nil _ _ _ _,World.ownsRow_nil _ _ _ _, .inl ⟨rfl,rfl⟩,apart_no hv⟩
theorem scNew_any (w:World) (B:Nat) (hB:B <= w.heap.size) (f:Nat -> Nat) :
 Calls Tryd.prog 10 #[] w fun e w' => e = .returned (.pointer (some ⟨w.heap.size,0,none⟩)) /\ SC w' w.heap.size B f 0 (noSt (0,0,1,1) false) (noRaw (.slice none 0 0)) /\ Below w.heap.size w w' /\ w.heap.size < w'.heap.size:=by
 go_enter Tryd.func10,Tryd.ntmps10
 go_wp2
 go_ret
 refine ⟨rfl,SC.none_of ?_ hB (.inl ⟨rfl,rfl⟩) (by simp [Value.ownBlock]),(Below.refl _ _).alloc (Nat.le_refl _) _,by simp⟩
 exact heap_alloc_new w _
end
def inOf (i:Int) : Nat:=if i=0 then 0 else if i=1 then 1 else 2
def nmOf (i:Int) (l:List UInt8) : List UInt8:=if i=1 then l else []
def newSt (S:St) (i:Nat) (m:List UInt8) : St:=⟨S.pl,S.ended,i,m,0,0,0, {}⟩
def newRaw (R:Raw) (d:Nat) : Raw:=⟨R.rest, .slice none 0 0, .slice none 0 0, .slice none 0 0, .slice none 0 0,none, .slice none 0 0, .slice none 0 0,(0,0,0,0),some d, .slice none 0 0⟩
section
variable {w:World} {D B n:Nat} {f:Nat -> Nat} {S:St} {R:Raw} {d:Nat}
theorem cells_new (S:St) (R:Raw) (i:Nat) (m:List UInt8) (d:Nat) : setAll (cells S R) 6 (walkA i m d).toList=cells (newSt S i m) (newRaw R d):=by kernel_rfl
theorem apart_new {D d:Nat} (h0:D ≠ d) (hr1:R.rest.ownBlock ≠ some D) (hr2:R.rest.ownBlock ≠ some d) : Apart (foot D (newRaw R d)):=by
 have e:foot D (newRaw R d) = [some D,some d,none,R.rest.ownBlock,none,none,none,none,none,none,none]:=rfl
 rw [e]
 intro i j q hi hj
 match i,j with
 | 0,0 => rfl
 | 1,1 => rfl
 | 3,3 => rfl
 | 0,1 => simp at hi hj; omega
 | 1,0 => simp at hi hj; omega
 | 0,3 => simp at hi hj; exact absurd (hj.trans (by rw [hi])) hr1
 | 3,0 => simp at hi hj; exact absurd (hi.trans (by rw [hj])) hr1
 | 1,3 => simp at hi hj; exact absurd (hj.trans (by rw [hi])) hr2
 | 3,1 => simp at hi hj; exact absurd (hi.trans (by rw [hj])) hr2
 | 2,_ => simp at hi
 | 4,_ => simp at hi
 | 5,_ => simp at hi
 | 6,_ => simp at hi
 | 7,_ => simp at hi
 | 8,_ => simp at hi
 | 9,_ => simp at hi
 | 10,_ => simp at hi
 | _ + 11,_ => simp at hi
 | _,2 => simp at hj
 | _,4 => simp at hj
 | _,5 => simp at hj
 | _,6 => simp at hj
 | _,7 => simp at hj
 | _,8 => simp at hj
 | _,9 => simp at hj
 | _,10 => simp at hj
 | _,_ + 11 => simp at hj
theorem new_fin (h:SCe w D B f n S R) {w2:World} {i d:Nat} {m:List UInt8} (hb:Below w.heap.size w w2) (hd:w.heap.size <= d) (hF:Feed w2 d B f 0 0 false (.slice none 0 0) (0,1,1)) (hf : ∀ j,f j < 256) :
 SC (w2.setCells D 6 (walkA i m d).toList) D B f n (newSt S i m) (newRaw R d) /\ To D R w (newRaw R d) (w2.setCells D 6 (walkA i m d).toList):=by
 have hlt:=h.lt0
 have hrl:=h.rest.lt
 have hr1:R.rest.ownBlock ≠ some D:=fun e => by have:=h.apart 0 3 D rfl (by rw [<- e]; rfl); omega
 have hr2:R.rest.ownBlock ≠ some d:=fun e => by have:=(hrl d e).2; omega
 have hdl:d < w2.heap.size:=hF.lt
 refine ⟨⟨?_,h.low, ?_,World.ownsRow_nil _ _ _ _,World.ownsRow_nil _ _ _ _,World.ownsRow_nil _ _ _ _,World.ownsRow_nil _ _ _ _, .inl ⟨rfl,rfl⟩,World.ownsRow_nil _ _ _ _,World.ownsRow_nil _ _ _ _, ?_,apart_new (by omega) hr1 hr2⟩, ?_⟩
 . rw [<- cells_new]
   exact heap_setCells _ 6 _ _ ((hb.block D hlt).trans h.cell)
 . exact h.rest.keep fun q e => (heap_setCells_far (fun e2 => hr1 (by rw [<- e2]; exact e)) _ _ _).trans (hb.block q (hrl q e).2)
 . refine .inr ⟨d,f,0,0,(0,1,1),rfl,by have:=h.low; omega,hF.keep (heap_setCells_far (by omega) _ _ _) (fun q e => by cases e),Nat.zero_le _,rfl,Nat.le_refl _,hf,fun j hj => by have:(newSt S i m).e - (newSt S i m).q=0:=rfl; omega⟩
 . refine ⟨⟨?_, ?_, ?_, ?_,fun k hk hn => ?_⟩,fun q hq => ?_⟩
   . exact (below_cells (B:=0) (Nat.zero_le _) _ _ _ (hb.mono (Nat.zero_le _))).os
   . exact (below_cells (B:=0) (Nat.zero_le _) _ _ _ (hb.mono (Nat.zero_le _))).tape
   . exact (below_cells (B:=0) (Nat.zero_le _) _ _ _ (hb.mono (Nat.zero_le _))).output
   . rw [size_setCells]; exact hb.size
   . exact (heap_setCells_far (fun e => hn (by rw [e]; simp [foot])) _ _ _).trans (hb.block k hk)
   . have e:foot D (newRaw R d) = [some D,some d,none,R.rest.ownBlock,none,none,none,none,none,none,none]:=rfl
     rw [e] at hq
     simp only [List.mem_cons,List.not_mem_nil,or_false,Option.some.injEq,reduceCtorEq] at hq
     rcases hq with e | e | e | e
     . left; rw [e]; simp [foot]
     . right; omega
     . cases e
     . left; rw [e]; simp [foot]
theorem choose_same (h:SCe w D B f n S R) (hfp:R.fp=some d) (iv:Int) (l:List UInt8) (hi:S.inn=inOf iv) (hm:S.nm=nmOf iv l) :
 Calls Tryd.prog 21 #[.pointer (some ⟨D,0,none⟩), .int .i64 iv, .string ⟨l.toArray⟩] w fun e w' => e = .returned (.tuple #[]) /\ w'=w:=by
 have c6:=h.c6
 have c7:=h.c7
 have c14:=h.c14
 rw [hfp] at c14
 rw [hi] at c6
 rw [hm] at c7
 clear h hfp hi hm
 unfold inOf at c6
 unfold nmOf at c7
 simp only [Option.map_some] at c14
 by_cases e0:iv=0
 . subst e0
   simp only [if_true,show ¬ (0:Int)=1 by decide,if_false] at c6 c7
   go_enter Tryd.func21,Tryd.ntmps21
   go_wp2_with fail
   first | go_end0 | (simp only [Exit.inBlock,Exit.then]; refine bodyPost_ret (results_none rfl _ _ _) rfl ?_) | refine bodyPost_ret (results_none rfl _ _ _) rfl ?_
   exact ⟨rfl,rfl⟩
 . by_cases e1 : iv = 1
   . subst e1
     simp only [show ¬ (1:Int)=0 by decide,if_true,if_false] at c6 c7
     go_enter Tryd.func21,Tryd.ntmps21
     go_wp2_with fail
     first | go_end0 | (simp only [Exit.inBlock,Exit.then]; refine bodyPost_ret (results_none rfl _ _ _) rfl ?_) | refine bodyPost_ret (results_none rfl _ _ _) rfl ?_
     exact ⟨rfl,rfl⟩
   . rw [if_neg e0,if_neg e1] at c6
     rw [if_neg e1] at c7
     have i0:(iv == 0)=false:=by simpa using e0
     have i1:(iv == 1)=false:=by simpa using e1
     have j0:(iv != 0)=true:=by simpa using e0
     have j1:(iv != 1)=true:=by simpa using e1
     go_enter Tryd.func21,Tryd.ntmps21
     go_wp2_with fail
     first | go_end0 | (simp only [Exit.inBlock,Exit.then]; refine bodyPost_ret (results_none rfl _ _ _) rfl ?_) | refine bodyPost_ret (results_none rfl _ _ _) rfl ?_
     exact ⟨rfl,rfl⟩
theorem choose_new (h:SCe w D B f n S R) (hlt : ∀ j,f j < 256) (iv:Int) (l:List UInt8) (hl:l.length <= 70368744177664) (hne:R.fp=none \/ S.inn ≠ inOf iv \/ S.nm ≠ nmOf iv l) :
 Calls Tryd.prog 21 #[.pointer (some ⟨D,0,none⟩), .int .i64 iv, .string ⟨l.toArray⟩] w fun e w' => e = .returned (.tuple #[]) /\ ∃ d,w.heap.size <= d /\ SC w' D B f n (newSt S (inOf iv) (nmOf iv l)) (newRaw R d) /\ To D R w (newRaw R d) w':=by
 have c6:=h.c6
 have c7:=h.c7
 have c14:=h.c14
 have CC : ∀ m:List UInt8,m.length <= 70368744177664 -> Hid (∀ W,Calls Tryd.prog 30 #[.string ⟨m.toArray⟩] W fun e w' => e = .returned (.string ⟨m.toArray⟩) /\ Below W.heap.size W w'):=fun m hm W => clone_any m W hm
 have H:=hide' h
 have HLT:=hide' hlt
 clear h hlt
 obtain ⟨c14',hc14⟩ : ∃ p,R.fp=p:=⟨_,rfl⟩
 rw [hc14] at c14 hne
 clear hc14
 rcases c14' with _ | d0
 . -- there was none
   clear hne
   simp only [Option.map_none] at c14
   by_cases e0:iv=0
   . subst e0
     have CC:=CC [] (by simp)
     rw [show inOf 0=0 from rfl,show nmOf 0 l = [] from rfl]
     go_enter Tryd.func21,Tryd.ntmps21
     go_wp2_with fail
     refine (CC.out _).mono ?_
     rintro e w1 ⟨rfl,hb1⟩
     have cW:=newWalk_any 0 [] w1 B f
     have CW:=hide' cW
     have HB1:=hide' hb1
     clear cW hb1
     go_wp2_with fail
     refine CW.out.mono ?_
     rintro e w2 ⟨d2,rfl,hd2,hF2,hb2⟩
     have hbb:=HB1.out.trans (hb2.mono HB1.out.size)
     have hcell2:=(hbb.block D H.out.lt0).trans H.out.cell
     have ht:=there_of hcell2 6 24 (by simp [cells])
     have HFIN:=hide' (new_fin (i:=0) (m := []) (d:=d2) H.out hbb (by have:=HB1.out.size; omega) hF2 HLT.out)
     have HT:=hide' ht
     have HBB:=hide' hbb
     have HD2:=hide' hd2
     clear hF2 hb2 hbb hcell2 ht hd2 CW
     go_wp2_with (refine wpList_store_mid rfl 57 (.tmp 44) (.tmp 42) rfl D 6 (walkA 0 [] d2) rfl rfl HT.out walkInfo (walkOne _ _ _) ?_)
     first | go_end0 | (simp only [Exit.inBlock,Exit.then]; refine bodyPost_ret (results_none rfl _ _ _) rfl ?_) | refine bodyPost_ret (results_none rfl _ _ _) rfl ?_
     exact ⟨rfl,d2,by have:=HB1.out.size; have:=HD2.out; omega,HFIN.out⟩
   . by_cases e1 : iv = 1
     . subst e1
       have CC:=CC l hl
       rw [show inOf 1=1 from rfl,show nmOf 1 l=l from rfl]
       go_enter Tryd.func21,Tryd.ntmps21
       go_wp2_with fail
       refine (CC.out _).mono ?_
       rintro e w1 ⟨rfl,hb1⟩
       have cW:=newWalk_any 1 l w1 B f
       have CW:=hide' cW
       have HB1:=hide' hb1
       clear cW hb1
       go_wp2_with fail
       refine CW.out.mono ?_
       rintro e w2 ⟨d2,rfl,hd2,hF2,hb2⟩
       have hbb:=HB1.out.trans (hb2.mono HB1.out.size)
       have hcell2:=(hbb.block D H.out.lt0).trans H.out.cell
       have ht:=there_of hcell2 6 24 (by simp [cells])
       have HFIN:=hide' (new_fin (i:=1) (m:=l) (d:=d2) H.out hbb (by have:=HB1.out.size; omega) hF2 HLT.out)
       have HT:=hide' ht
       have HBB:=hide' hbb
       have HD2:=hide' hd2
       clear hF2 hb2 hbb hcell2 ht hd2 CW
       go_wp2_with (refine wpList_store_mid rfl 57 (.tmp 44) (.tmp 42) rfl D 6 (walkA 1 l d2) rfl rfl HT.out walkInfo (walkOne _ _ _) ?_)
       first | go_end0 | (simp only [Exit.inBlock,Exit.then]; refine bodyPost_ret (results_none rfl _ _ _) rfl ?_) | refine bodyPost_ret (results_none rfl _ _ _) rfl ?_
       exact ⟨rfl,d2,by have:=HB1.out.size; have:=HD2.out; omega,HFIN.out⟩
     . have CC:=CC [] (by simp)
       rw [show inOf iv=2 by unfold inOf; rw [if_neg e0,if_neg e1],show nmOf iv l = [] by unfold nmOf; rw [if_neg e1]]
       have i0:(iv == 0)=false:=by simpa using e0
       have i1:(iv == 1)=false:=by simpa using e1
       have j0:(iv != 0)=true:=by simpa using e0
       have j1:(iv != 1)=true:=by simpa using e1
       go_enter Tryd.func21,Tryd.ntmps21
       go_wp2_with fail
       refine (CC.out _).mono ?_
       rintro e w1 ⟨rfl,hb1⟩
       have cW:=newWalk_any 2 [] w1 B f
       have CW:=hide' cW
       have HB1:=hide' hb1
       clear cW hb1
       go_wp2_with fail
       refine CW.out.mono ?_
       rintro e w2 ⟨d2,rfl,hd2,hF2,hb2⟩
       have hbb:=HB1.out.trans (hb2.mono HB1.out.size)
       have hcell2:=(hbb.block D H.out.lt0).trans H.out.cell
       have ht:=there_of hcell2 6 24 (by simp [cells])
       have HFIN:=hide' (new_fin (i:=2) (m := []) (d:=d2) H.out hbb (by have:=HB1.out.size; omega) hF2 HLT.out)
       have HT:=hide' ht
       have HBB:=hide' hbb
       have HD2:=hide' hd2
       clear hF2 hb2 hbb hcell2 ht hd2 CW
       go_wp2_with (refine wpList_store_mid rfl 57 (.tmp 44) (.tmp 42) rfl D 6 (walkA 2 [] d2) rfl rfl HT.out walkInfo (walkOne _ _ _) ?_)
       first | go_end0 | (simp only [Exit.inBlock,Exit.then]; refine bodyPost_ret (results_none rfl _ _ _) rfl ?_) | refine bodyPost_ret (results_none rfl _ _ _) rfl ?_
       exact ⟨rfl,d2,by have:=HB1.out.size; have:=HD2.out; omega,HFIN.out⟩
 . simp only [Option.map_some] at c14
   have hne':S.inn ≠ inOf iv \/ (S.inn=inOf iv /\ S.nm ≠ nmOf iv l):=by
    rcases hne with e | e | e
    . cases e
    . exact .inl e
    . by_cases k:S.inn=inOf iv
      . exact .inr ⟨k,e⟩
      . exact .inl k
   clear hne
   by_cases e0:iv=0
   . subst e0
     have CC:=CC [] (by simp)
     rw [show inOf 0=0 from rfl,show nmOf 0 l = [] from rfl] at hne' ⊢
     rcases hne' with e | ⟨ei,e⟩
     . have k0:((S.inn:Int) == 0)=false:=by simp; omega
       have k1:((S.inn:Int) != 0)=true:=by simp; omega
       clear e
       go_enter Tryd.func21,Tryd.ntmps21
       go_wp2_with fail
       refine (CC.out _).mono ?_
       rintro e w1 ⟨rfl,hb1⟩
       have cW:=newWalk_any 0 [] w1 B f
       have CW:=hide' cW
       have HB1:=hide' hb1
       clear cW hb1
       go_wp2_with fail
       refine CW.out.mono ?_
       rintro e w2 ⟨d2,rfl,hd2,hF2,hb2⟩
       have hbb:=HB1.out.trans (hb2.mono HB1.out.size)
       have hcell2:=(hbb.block D H.out.lt0).trans H.out.cell
       have ht:=there_of hcell2 6 24 (by simp [cells])
       have HFIN:=hide' (new_fin (i:=0) (m := []) (d:=d2) H.out hbb (by have:=HB1.out.size; omega) hF2 HLT.out)
       have HT:=hide' ht
       have HBB:=hide' hbb
       have HD2:=hide' hd2
       clear hF2 hb2 hbb hcell2 ht hd2 CW
       go_wp2_with (refine wpList_store_mid rfl 57 (.tmp 44) (.tmp 42) rfl D 6 (walkA 0 [] d2) rfl rfl HT.out walkInfo (walkOne _ _ _) ?_)
       first | go_end0 | (simp only [Exit.inBlock,Exit.then]; refine bodyPost_ret (results_none rfl _ _ _) rfl ?_) | refine bodyPost_ret (results_none rfl _ _ _) rfl ?_
       exact ⟨rfl,d2,by have:=HB1.out.size; have:=HD2.out; omega,HFIN.out⟩
     . rw [ei] at c6
       have n1:(S.nm == [])=false:=by simpa using e
       have n2:(S.nm != [])=true:=by simpa using e
       have n3 : ¬ (⟨S.nm.toArray⟩ : ByteArray).toList=(⟨([] : List UInt8).toArray⟩ : ByteArray).toList:=by rw [ByteArray.toList_mk,ByteArray.toList_mk]; exact e
       go_enter Tryd.func21,Tryd.ntmps21
       go_wp2_with fail
       refine (CC.out _).mono ?_
       rintro e w1 ⟨rfl,hb1⟩
       have cW:=newWalk_any 0 [] w1 B f
       have CW:=hide' cW
       have HB1:=hide' hb1
       clear cW hb1
       go_wp2_with fail
       refine CW.out.mono ?_
       rintro e w2 ⟨d2,rfl,hd2,hF2,hb2⟩
       have hbb:=HB1.out.trans (hb2.mono HB1.out.size)
       have hcell2:=(hbb.block D H.out.lt0).trans H.out.cell
       have ht:=there_of hcell2 6 24 (by simp [cells])
       have HFIN:=hide' (new_fin (i:=0) (m := []) (d:=d2) H.out hbb (by have:=HB1.out.size; omega) hF2 HLT.out)
       have HT:=hide' ht
       have HBB:=hide' hbb
       have HD2:=hide' hd2
       clear hF2 hb2 hbb hcell2 ht hd2 CW
       go_wp2_with (refine wpList_store_mid rfl 57 (.tmp 44) (.tmp 42) rfl D 6 (walkA 0 [] d2) rfl rfl HT.out walkInfo (walkOne _ _ _) ?_)
       first | go_end0 | (simp only [Exit.inBlock,Exit.then]; refine bodyPost_ret (results_none rfl _ _ _) rfl ?_) | refine bodyPost_ret (results_none rfl _ _ _) rfl ?_
       exact ⟨rfl,d2,by have:=HB1.out.size; have:=HD2.out; omega,HFIN.out⟩
   . by_cases e1 : iv = 1
     . subst e1
       have CC:=CC l hl
       rw [show inOf 1=1 from rfl,show nmOf 1 l=l from rfl] at hne' ⊢
       rcases hne' with e | ⟨ei,e⟩
       . have k0:((S.inn:Int) == 1)=false:=by simp; omega
         have k1:((S.inn:Int) != 1)=true:=by simp; omega
         clear e
         go_enter Tryd.func21,Tryd.ntmps21
         go_wp2_with fail
         refine (CC.out _).mono ?_
         rintro e w1 ⟨rfl,hb1⟩
         have cW:=newWalk_any 1 l w1 B f
         have CW:=hide' cW
         have HB1:=hide' hb1
         clear cW hb1
         go_wp2_with fail
         refine CW.out.mono ?_
         rintro e w2 ⟨d2,rfl,hd2,hF2,hb2⟩
         have hbb:=HB1.out.trans (hb2.mono HB1.out.size)
         have hcell2:=(hbb.block D H.out.lt0).trans H.out.cell
         have ht:=there_of hcell2 6 24 (by simp [cells])
         have HFIN:=hide' (new_fin (i:=1) (m:=l) (d:=d2) H.out hbb (by have:=HB1.out.size; omega) hF2 HLT.out)
         have HT:=hide' ht
         have HBB:=hide' hbb
         have HD2:=hide' hd2
         clear hF2 hb2 hbb hcell2 ht hd2 CW
         go_wp2_with (refine wpList_store_mid rfl 57 (.tmp 44) (.tmp 42) rfl D 6 (walkA 1 l d2) rfl rfl HT.out walkInfo (walkOne _ _ _) ?_)
         first | go_end0 | (simp only [Exit.inBlock,Exit.then]; refine bodyPost_ret (results_none rfl _ _ _) rfl ?_) | refine bodyPost_ret (results_none rfl _ _ _) rfl ?_
         exact ⟨rfl,d2,by have:=HB1.out.size; have:=HD2.out; omega,HFIN.out⟩
       . rw [ei] at c6
         have n1:(S.nm == l)=false:=by simpa using e
         have n2:(S.nm != l)=true:=by simpa using e
         have n3 : ¬ (⟨S.nm.toArray⟩ : ByteArray).toList=(⟨(l:List UInt8).toArray⟩ : ByteArray).toList:=by rw [ByteArray.toList_mk,ByteArray.toList_mk]; exact e
         go_enter Tryd.func21,Tryd.ntmps21
         go_wp2_with fail
         refine (CC.out _).mono ?_
         rintro e w1 ⟨rfl,hb1⟩
         have cW:=newWalk_any 1 l w1 B f
         have CW:=hide' cW
         have HB1:=hide' hb1
         clear cW hb1
         go_wp2_with fail
         refine CW.out.mono ?_
         rintro e w2 ⟨d2,rfl,hd2,hF2,hb2⟩
         have hbb:=HB1.out.trans (hb2.mono HB1.out.size)
         have hcell2:=(hbb.block D H.out.lt0).trans H.out.cell
         have ht:=there_of hcell2 6 24 (by simp [cells])
         have HFIN:=hide' (new_fin (i:=1) (m:=l) (d:=d2) H.out hbb (by have:=HB1.out.size; omega) hF2 HLT.out)
         have HT:=hide' ht
         have HBB:=hide' hbb
         have HD2:=hide' hd2
         clear hF2 hb2 hbb hcell2 ht hd2 CW
         go_wp2_with (refine wpList_store_mid rfl 57 (.tmp 44) (.tmp 42) rfl D 6 (walkA 1 l d2) rfl rfl HT.out walkInfo (walkOne _ _ _) ?_)
         first | go_end0 | (simp only [Exit.inBlock,Exit.then]; refine bodyPost_ret (results_none rfl _ _ _) rfl ?_) | refine bodyPost_ret (results_none rfl _ _ _) rfl ?_
         exact ⟨rfl,d2,by have:=HB1.out.size; have:=HD2.out; omega,HFIN.out⟩
     . have CC:=CC [] (by simp)
       have q1:inOf iv=2:=by unfold inOf; rw [if_neg e0,if_neg e1]
       have q2:nmOf iv l = []:=by unfold nmOf; rw [if_neg e1]
       rw [q1,q2] at hne' ⊢
       have i0:(iv == 0)=false:=by simpa using e0
       have i1:(iv == 1)=false:=by simpa using e1
       have j0:(iv != 0)=true:=by simpa using e0
       have j1:(iv != 1)=true:=by simpa using e1
       clear q1 q2
       rcases hne' with e | ⟨ei,e⟩
       . have k0:((S.inn:Int) == 2)=false:=by simp; omega
         have k1:((S.inn:Int) != 2)=true:=by simp; omega
         clear e
         go_enter Tryd.func21,Tryd.ntmps21
         go_wp2_with fail
         refine (CC.out _).mono ?_
         rintro e w1 ⟨rfl,hb1⟩
         have cW:=newWalk_any 2 [] w1 B f
         have CW:=hide' cW
         have HB1:=hide' hb1
         clear cW hb1
         go_wp2_with fail
         refine CW.out.mono ?_
         rintro e w2 ⟨d2,rfl,hd2,hF2,hb2⟩
         have hbb:=HB1.out.trans (hb2.mono HB1.out.size)
         have hcell2:=(hbb.block D H.out.lt0).trans H.out.cell
         have ht:=there_of hcell2 6 24 (by simp [cells])
         have HFIN:=hide' (new_fin (i:=2) (m := []) (d:=d2) H.out hbb (by have:=HB1.out.size; omega) hF2 HLT.out)
         have HT:=hide' ht
         have HBB:=hide' hbb
         have HD2:=hide' hd2
         clear hF2 hb2 hbb hcell2 ht hd2 CW
         go_wp2_with (refine wpList_store_mid rfl 57 (.tmp 44) (.tmp 42) rfl D 6 (walkA 2 [] d2) rfl rfl HT.out walkInfo (walkOne _ _ _) ?_)
         first | go_end0 | (simp only [Exit.inBlock,Exit.then]; refine bodyPost_ret (results_none rfl _ _ _) rfl ?_) | refine bodyPost_ret (results_none rfl _ _ _) rfl ?_
         exact ⟨rfl,d2,by have:=HB1.out.size; have:=HD2.out; omega,HFIN.out⟩
       . rw [ei] at c6
         have n1:(S.nm == [])=false:=by simpa using e
         have n2:(S.nm != [])=true:=by simpa using e
         have n3 : ¬ (⟨S.nm.toArray⟩ : ByteArray).toList=(⟨([] : List UInt8).toArray⟩ : ByteArray).toList:=by rw [ByteArray.toList_mk,ByteArray.toList_mk]; exact e
         go_enter Tryd.func21,Tryd.ntmps21
         go_wp2_with fail
         refine (CC.out _).mono ?_
         rintro e w1 ⟨rfl,hb1⟩
         have cW:=newWalk_any 2 [] w1 B f
         have CW:=hide' cW
         have HB1:=hide' hb1
         clear cW hb1
         go_wp2_with fail
         refine CW.out.mono ?_
         rintro e w2 ⟨d2,rfl,hd2,hF2,hb2⟩
         have hbb:=HB1.out.trans (hb2.mono HB1.out.size)
         have hcell2:=(hbb.block D H.out.lt0).trans H.out.cell
         have ht:=there_of hcell2 6 24 (by simp [cells])
         have HFIN:=hide' (new_fin (i:=2) (m := []) (d:=d2) H.out hbb (by have:=HB1.out.size; omega) hF2 HLT.out)
         have HT:=hide' ht
         have HBB:=hide' hbb
         have HD2:=hide' hd2
         clear hF2 hb2 hbb hcell2 ht hd2 CW
         go_wp2_with (refine wpList_store_mid rfl 57 (.tmp 44) (.tmp 42) rfl D 6 (walkA 2 [] d2) rfl rfl HT.out walkInfo (walkOne _ _ _) ?_)
         first | go_end0 | (simp only [Exit.inBlock,Exit.then]; refine bodyPost_ret (results_none rfl _ _ _) rfl ?_) | refine bodyPost_ret (results_none rfl _ _ _) rfl ?_
         exact ⟨rfl,d2,by have:=HB1.out.size; have:=HD2.out; omega,HFIN.out⟩
end
theorem frame49 {C:Array Value -> Prop} (h : ∀ u0 u1 u2 u3 u4 u5 u6 u7 u8 u9 u10 u11 u12 u13 u14 u15 u16 u17 u18 u19 u20 u21 u22 u23 u24 u25 u26 u27 u28 u29 u30 u31 u32 u33 u34 u35 u36 u37 u38 u39 u40 u41 u42 u43 u44 u45 u46 u47 u48:Value,C (List.toArray (u0 :: u1 :: u2 :: u3 :: u4 :: u5 :: u6 :: u7 :: u8 :: u9 :: u10 :: u11 :: u12 :: u13 :: u14 :: u15 :: u16 :: u17 :: u18 :: u19 :: u20 :: u21 :: u22 :: u23 :: u24 :: u25 :: u26 :: u27 :: u28 :: u29 :: u30 :: u31 :: u32 :: u33 :: u34 :: u35 :: u36 :: u37 :: u38 :: u39 :: u40 :: u41 :: u42 :: u43 :: u44 :: u45 :: u46 :: u47 :: u48 :: []))) (t:Array Value) (hs:t.size=49) : C t:=cur_all 49 (fun l => C l.toArray) h t.toList hs
theorem frame57 {C:Array Value -> Prop} (h : ∀ u0 u1 u2 u3 u4 u5 u6 u7 u8 u9 u10 u11 u12 u13 u14 u15 u16 u17 u18 u19 u20 u21 u22 u23 u24 u25 u26 u27 u28 u29 u30 u31 u32 u33 u34 u35 u36 u37 u38 u39 u40 u41 u42 u43 u44 u45 u46 u47 u48 u49 u50 u51 u52 u53 u54 u55 u56:Value,C (List.toArray (u0 :: u1 :: u2 :: u3 :: u4 :: u5 :: u6 :: u7 :: u8 :: u9 :: u10 :: u11 :: u12 :: u13 :: u14 :: u15 :: u16 :: u17 :: u18 :: u19 :: u20 :: u21 :: u22 :: u23 :: u24 :: u25 :: u26 :: u27 :: u28 :: u29 :: u30 :: u31 :: u32 :: u33 :: u34 :: u35 :: u36 :: u37 :: u38 :: u39 :: u40 :: u41 :: u42 :: u43 :: u44 :: u45 :: u46 :: u47 :: u48 :: u49 :: u50 :: u51 :: u52 :: u53 :: u54 :: u55 :: u56 :: []))) (t:Array Value) (hs:t.size=57) : C t:=cur_all 57 (fun l => C l.toArray) h t.toList hs
def tokA (kind:Nat) (nm:List UInt8) (at_:Value) (tx:List UInt8) (p q:Nat × Nat × Nat × Nat) : Array Value :=
 #[.int .i64 (kind:Nat), .string ⟨nm.toArray⟩,at_, .string ⟨tx.toArray⟩, .int .i64 (p.1:Nat), .int .i64 (p.2.1:Nat), .int .i64 (p.2.2.1:Nat), .int .i64 (p.2.2.2:Nat), .int .i64 (q.1:Nat), .int .i64 (q.2.1:Nat), .int .i64 (q.2.2.1:Nat), .int .i64 (q.2.2.2:Nat)]
def tok0:Array Value := #[.int .i64 0, .string ⟨#[]⟩, .slice none 0 0, .string ⟨#[]⟩, .int .i64 0, .int .i64 0, .int .i64 0, .int .i64 0, .int .i64 0, .int .i64 0, .int .i64 0, .int .i64 0]
theorem tokInfo:(Tryd.prog.info? 43).map (·.size)=some 12:=by kernel_rfl
theorem tokOne (kind:Nat) (nm:List UInt8) (pa:Option Addr) (m c:Nat) (tx:List UInt8) (p q:Nat × Nat × Nat × Nat) : (tokA kind nm (.slice pa m c) tx p q).all (·.oneCell')=true:=by simp [tokA,Value.oneCell']
theorem tok_set (kind:Nat) (nm:List UInt8) (v:Value) (tx:List UInt8) (p q:Nat × Nat × Nat × Nat) : setAll tok0 0 (tokA kind nm v tx p q).toList=tokA kind nm v tx p q:=by kernel_rfl
def walk0:Array Value := #[.int .i64 0, .string ⟨#[]⟩, .int .i64 0, .int .i64 0, .int .i64 0, .int .i64 0, .int .i64 0, .int .i64 0, .pointer none, .int .i64 0, .int .i64 0, .int .i64 0, .slice none 0 0, .int .i64 0, .int .i64 0, .slice none 0 0, .int .i64 0, .int .i64 0, .slice none 0 0, .slice none 0 0, .map none, .slice none 0 0, .slice none 0 0, .int .i32 0]
theorem walk0One:walk0.all (·.oneCell')=true:=by simp [walk0,Value.oneCell']
theorem cells_none (S:St) (R:Raw) : setAll (cells S R) 6 walk0.toList=cells (noSt S.pl S.ended) (noRaw R.rest):=by kernel_rfl
section
variable {w:World} {D B n:Nat} {f:Nat -> Nat} {S:St} {R:Raw}
theorem SCe.text0 (h:SCe w D B f n S R) : SCe (w.setCell ⟨D,18,none⟩ (.slice none 0 0)) D B f n { S with k := { S.k with text := [] } } { R with text := .slice none 0 0 }:=by
 have hne : ∀ j q,0 < j -> (foot D R)[j]? = some (some q) -> (w.setCell ⟨D,18,none⟩ (.slice none 0 0)).heap[q]? = w.heap[q]? := by
  intro j q hj hq
  refine RowKit.Below.heap_setCell _ _ _ _ fun e => ?_
  have:=h.apart 0 j q (by rw [e]; rfl) hq
  omega
 exact ⟨Go.Joins.block_setCell (i:=18) h.cell _,h.low,h.rest.keep fun q e => hne 3 q (by omega) (by rw [<- e]; rfl),World.ownsRow_nil _ _ _ _,
  own_keep h.ref fun q e => hne 5 q (by omega) (by rw [<- e]; rfl),RowT.keep h.tag fun q e => hne 6 q (by omega) (by rw [<- e]; rfl),own_keep h.attrs fun q e => hne 7 q (by omega) (by rw [<- e]; rfl),h.seen.keep fun q e => hne 8 q (by omega) (by rw [<- e]; rfl),
  own_keep h.attr fun q e => hne 9 q (by omega) (by rw [<- e]; rfl),own_keep h.val fun q e => hne 10 q (by omega) (by rw [<- e]; rfl),h.feed.keep (fun q e => hne 1 q (by omega) (by rw [<- e]; rfl)) (fun q e => hne 2 q (by omega) (by rw [<- e]; rfl)),
  h.apart.set 4 none fun q e => by cases e⟩
theorem To.cells {R1:Raw} {w1:World} (h:To D R w R1 w1) {b:Nat} (hb:w.heap.size <= b) {o:Nat} {vs:List Value} : To D R w R1 (w1.setCells b o vs) :=
 ⟨⟨((below_cells (B:=0) (a:=w1) (Nat.zero_le b) vs o w1 (Below.refl _ _)).os).trans h.mv.os,((below_cells (B:=0) (a:=w1) (Nat.zero_le b) vs o w1 (Below.refl _ _)).tape).trans h.mv.tape,((below_cells (B:=0) (a:=w1) (Nat.zero_le b) vs o w1 (Below.refl _ _)).output).trans h.mv.output,by rw [size_setCells]; exact h.mv.size,fun k hk hn => (heap_setCells_far (by omega) _ _ _).trans (h.mv.block k hk hn)⟩,h.own⟩
theorem To.text0:To D R w { R with text := .slice none 0 0 } (w.setCell ⟨D,18,none⟩ (.slice none 0 0)):=by
 refine ⟨⟨rfl,rfl,rfl,by simp [World.setCell],fun k _ hn => RowKit.Below.heap_setCell _ _ _ _ fun e => hn (by rw [e]; simp [foot])⟩,fun q hq => .inl ?_⟩
 simp only [foot,List.mem_cons,List.not_mem_nil,or_false] at hq ⊢
 rcases hq with e | e | e | e | e | e | e | e | e | e | e
 all_goals first | (simp [e]; done) | cases e
end
end Sc
end Go.Proofs.YteiiepjegdlbeaaDoor
