import Derived.Test.YteiiepjegdlbeaaDoorScBadM
import Derived.Test.YteiiepjegdlbeaaDoorScAwake
import Derived.Test.YteiiepjegdlbeaaDoorScNxtC
import Derived.Deep.AppendSrc
import Derived.Laws.AppendOwn
import Derived.Test.YteiiepjegdlbeaaDoorScLS
import Derived.BigQuiet
import Derived.Test.YteiiepjegdlbeaaDoorScTold
set_option maxHeartbeats 2000000
set_option maxRecDepth 10000
namespace Go.Proofs.YteiiepjegdlbeaaDoor
open Go.RowKit Go.Lib
namespace Sc
theorem xs_cat {f g F:Nat -> Nat} {n m:Nat} (h1 : ∀ j,j < n -> F j=f j) (h2 : ∀ j,j < m -> F (n + j)=g j) : xs f n ++ xs g m=xs F (n + m):=by
 apply List.ext_getElem?
 intro i
 by_cases c:i < n
 . rw [List.getElem?_append_left (by simp [xs]; exact c)]
   simp [xs,c,show i < n + m by omega,h1 i c]
 . rw [List.getElem?_append_right (by simp [xs]; omega)]
   by_cases c2:i - n < m
   . have:=h2 (i - n) c2
     rw [show n + (i - n)=i by omega] at this
     simp [xs,c2,show i < n + m by omega,this]
   . rw [List.getElem?_eq_none (by simp [xs]; omega),List.getElem?_eq_none (by simp [xs]; omega)]
theorem size_setAll : ∀ (vs:List Value) (o:Nat) (cur:Array Value),(setAll cur o vs).size=cur.size
 | [],_,_ => rfl
 | v :: r,o,cur => by
   rw [setAll,size_setAll r (o + 1) (cur.setIfInBounds o v),Array.size_setIfInBounds]
theorem byInfo:(Tryd.prog.info? 5).map (fun i => (i.zero,i.size,i.bytes))=some (some (.int .u8 0),1,1):=by kernel_rfl
theorem zeroCells_len (k:Nat) : (Builtin.zeroCells (Value.int .u8 0).cells k).size=k:=by
 rw [size_zeroCells]
 exact Nat.mul_one k
theorem append_rowF {w:World} {B n m:Nat} {v x:Value} {f g F:Nat -> Nat} (ty:TypeId) (h:RowF w B v n f) (hB:B <= w.heap.size) (hx:SlAt w x m g) (hnm:n + m <= 1099511627776) (h1 : ∀ j,j < n -> F j=f j) (h2 : ∀ j,j < m -> F (n + j)=g j) :
 ∃ v' w2,(Builtin.append_ #[22,22] ty #[v,x]).run Tryd.prog w = .ok v' w2 /\ RowF w2 B v' (n + m) F /\ Grew w v w2 v':=by
 obtain ⟨i0,hi,hz0,hz1,hz2⟩:=info_parts byInfo
 have hs:Src Tryd.prog i0.size 22 x m (xs g m) w:=by
  rw [hz1]
  rcases hx with ⟨rfl,rfl⟩ | ⟨b,o,c,rfl,_,_,hby⟩
  . have:=Src.ofNil (P:=Tryd.prog) w (size:=1) (tx:=22) Tryd.underlying22 0
    simpa [xs] using this
  . refine Src.ofSlice (P:=Tryd.prog) w Tryd.underlying22 ⟨b,o,none⟩ m c (xs g m) (by simp [xs]) (fun j u hu => ?_) (by intro u hu; simp [xs] at hu; obtain ⟨_,_,rfl⟩:=hu; rfl)
    rw [Addr.add_mid]
    have hj:j < m:=by
     rcases Nat.lt_or_ge j m with k | k
     . exact k
     . rw [List.getElem?_eq_none (by simp [xs]; omega)] at hu; cases hu
    rw [hby j hj]
    simpa [xs,hj] using hu
 have grow : ∀ (base:Option Addr) (cap:Nat),v = .slice base n cap -> cap < n + m -> (Builtin.firstCells i0.size n (.slice base n cap)).run Tryd.prog w.drew = .ok (xs f n).toArray w.drew ->
  ∃ v' w2,(Builtin.append_ #[22,22] ty #[v,x]).run Tryd.prog w = .ok v' w2 /\ RowF w2 B v' (n + m) F /\ Grew w v w2 v':=by
  intro base cap ev hc hold
  subst ev
  have hr:=run_append_grow_src (P:=Tryd.prog) w 22 22 ty 5 i0 (.int .u8 0) Tryd.underlying22 hi hz0 base n cap (xs f n) hold x m (xs g m) hs hc (by omega) (by rw [hz2]; exact growslice_fits hc (by omega))
  refine ⟨_,_,hr, .inr ⟨w.heap.size,0,_,_,rfl,hB,heap_alloc_new w.drew _,grownCap_ge _ _ _ _,grownCap_le_maxLen _ _ _ _ (by unfold maxLen; omega), ?_, ?_⟩, ?_⟩
  . simp [zeroCells_len,xs]
    have:=grownCap_ge w (n + m) cap 5
    omega
  . rw [List.drop_zero,Array.toList_append,List.toList_toArray,xs_cat h1 h2,List.take_append_of_le_length (by simp [xs]),List.take_of_length_le (by simp [xs])]
  . refine ⟨rfl,rfl,rfl,by simp,fun k hk _ => ?_, .inr fun q e => ?_⟩
    . exact ((Below.refl w.drew.heap.size w.drew).alloc (Nat.le_refl _) _).block k hk
    . cases e
      exact Nat.le_refl _
 have hold : ∀ q o cap,(∀ j,j < n -> w.cell? ⟨q,o + j,none⟩ = some (.int .u8 (f j))) -> (Builtin.firstCells i0.size n (.slice (some ⟨q,o,none⟩) n cap)).run Tryd.prog w.drew = .ok (xs f n).toArray w.drew:=fun q o cap hc => by
  rw [hz1]
  refine run_firstCells_some w.drew 1 n ⟨q,o,none⟩ n cap (xs f n) (by simp [xs]) (fun j u hu => ?_)
  rw [Addr.add_mid]
  have hj:j < n:=by
   rcases Nat.lt_or_ge j n with k | k
   . exact k
   . rw [List.getElem?_eq_none (by simp [xs]; omega)] at hu; cases hu
  have:=hc j hj
  simp [xs,hj] at hu
  rw [<- hu]
  exact this
 have hsl:=h.sl
 rcases h with ⟨rfl,rfl⟩ | ⟨q,o,cap,cur,rfl,hb,hg,c1,c2,c3,c4⟩
 . by_cases hm : m = 0
   . subst hm
     refine ⟨.slice none 0 0,w, ?_, .inl ⟨rfl,rfl⟩,⟨rfl,rfl,rfl,Nat.le_refl _,fun _ _ _ => rfl, .inl rfl⟩⟩
     simp [Builtin.append_,run_underlying Tryd.underlying22,sizeOf,typeInfo,hi,hs.len,hs.cells]
   . refine grow none 0 rfl (by omega) ?_
     have:=run_firstCells_none (P:=Tryd.prog) w.drew i0.size 0 0 0
     simpa [xs] using this
 . by_cases hr : n + m ≤ cap
   . have hrun:=run_append_room_src (P:=Tryd.prog) w 22 22 ty 5 i0 Tryd.underlying22 hi q o n cap x m (xs g m) hs hr (fun j hj => ?_) (fun j hj => ?_)
     . rw [hz1, Nat.mul_one] at hrun
       have hg2:=heap_setCells (xs g m) (o + n) _ _ hg
       have r1:w.rangeAt q o (xs f n):=fun j u hu => by
        have hj:j < n:=by
         rcases Nat.lt_or_ge j n with k | k
         . exact k
         . rw [List.getElem?_eq_none (by simp [xs]; omega)] at hu; cases hu
        rcases hsl with ⟨e,_⟩ | ⟨b',o',cap',e,_,_,hby⟩
        . cases e
        . cases e
          rw [hby j hj]
          simpa [xs,hj] using hu
       have r2:=World.rangeAt_setCells_apart r1 q (o + n) (xs g m) (.inr (.inl (by simp [xs])))
       have r3:(w.setCells q (o + n) (xs g m)).rangeAt q (o + n) (xs g m):=World.rangeAt_setCells_same _ _ _ _ (fun j hj => by
        have hj':j < m:=by simpa [xs] using hj
        refine ⟨?_,Lib.frozen_of_heap hg _⟩
        rw [Lib.cell_of_heap hg,Array.getElem?_eq_getElem (by omega)]
        rfl)
       refine ⟨_,_,hrun, .inr ⟨q,o,cap,_,rfl,hb,hg2,hr,c2,by rw [size_setAll]; exact c3, ?_⟩,⟨?_, ?_, ?_,by rw [size_setCells]; exact Nat.le_refl _,fun k _ hn => heap_setCells_far (fun e => hn (by rw [e]; rfl)) _ _ _, .inl rfl⟩⟩
       . rw [← xs_cat h1 h2]
         apply List.ext_getElem?
         intro i
         by_cases ci:i < n + m
         . rw [List.getElem?_take,if_pos ci,List.getElem?_drop,Array.getElem?_toList, <- Lib.cell_of_heap hg2]
           by_cases cn:i < n
           . rw [List.getElem?_append_left (by simp [xs]; exact cn)]
             have:=r2 i (.int .u8 (f i)) (by simp [xs,cn])
             rw [this]
             simp [xs,cn]
           . rw [List.getElem?_append_right (by simp [xs]; omega)]
             have:=r3 (i - n) (.int .u8 (g (i - n))) (by simp [xs,show i - n < m by omega])
             rw [show o + n + (i - n)=o + i by omega] at this
             rw [this]
             simp [xs,show i - n < m by omega]
         . rw [List.getElem?_eq_none (by simp; omega),List.getElem?_eq_none (by simp [xs]; omega)]
       . exact (below_cells (B:=0) (Nat.zero_le _) _ _ _ (Below.refl _ _)).os
       . exact (below_cells (B:=0) (Nat.zero_le _) _ _ _ (Below.refl _ _)).tape
       . exact (below_cells (B:=0) (Nat.zero_le _) _ _ _ (Below.refl _ _)).output
     . have hj':j < m:=by simpa [xs] using hj
       rw [hz1,Nat.mul_one,Lib.cell_of_heap hg,Array.getElem?_eq_getElem (by omega)]
       rfl
     . exact Lib.frozen_of_heap hg _
   . refine grow (some ⟨q,o,none⟩) cap rfl (by omega) (hold q o cap fun j hj => ?_)
     rcases hsl with ⟨e,_⟩ | ⟨b',o',cap',e,_,_,hby⟩
     . cases e
     . cases e
       exact hby j hj
section
variable {w:World} {D B n:Nat} {f:Nat -> Nat} {S:St} {R:Raw}
theorem SCe.grow (h:SCe w D B f n S R) {w1:World} {v':Value} {F:Nat -> Nat} {N:Nat} (hg:Grew w R.rest w1 v') (hrow:RowF w1 B v' N F) : SCe (w1.setCell ⟨D,0,none⟩ v') D B F N S { R with rest:=v' }:=by
 have hne : ∀ j q,0 < j -> j ≠ 3 -> (foot D R)[j]? = some (some q) -> (w1.setCell ⟨D,0,none⟩ v').heap[q]? = w.heap[q]? := by
  intro j q hj hj2 hq
  refine (RowKit.Below.heap_setCell _ _ _ _ fun e => ?_).trans (hg.block q (h.lt q (List.mem_of_getElem? hq)).2 fun e => ?_)
  . have:=h.apart 0 j q (by rw [e]; rfl) hq
    omega
  . exact hj2 (h.apart j 3 q hq (by rw [<- e]; rfl))
 have hD:w1.heap[D]? = w.heap[D]? := hg.block D h.lt0 fun e => by have:=h.apart 0 3 D rfl (by rw [<- e]; rfl); omega
 refine ⟨Go.Joins.block_setCell (i:=0) (hD.trans h.cell) _,h.low,hrow.keep fun q e => RowKit.Below.heap_setCell _ _ _ _ fun e1 => ?_,own_keep h.text fun q e => hne 4 q (by omega) (by omega) (by rw [<- e]; rfl),
  own_keep h.ref fun q e => hne 5 q (by omega) (by omega) (by rw [<- e]; rfl),RowT.keep h.tag fun q e => hne 6 q (by omega) (by omega) (by rw [<- e]; rfl),
  own_keep h.attrs fun q e => hne 7 q (by omega) (by omega) (by rw [<- e]; rfl),h.seen.keep fun q e => hne 8 q (by omega) (by omega) (by rw [<- e]; rfl),own_keep h.attr fun q e => hne 9 q (by omega) (by omega) (by rw [<- e]; rfl),own_keep h.val fun q e => hne 10 q (by omega) (by omega) (by rw [<- e]; rfl),
  h.feed.keep (fun q e => hne 1 q (by omega) (by omega) (by rw [<- e]; rfl)) (fun q e => hne 2 q (by omega) (by omega) (by rw [<- e]; rfl)), ?_⟩
 . have e2:v'.ownBlock=some D:=e.trans (congrArg some (show q=D from e1))
   rcases hg.own with k1 | k1
   . have:=h.apart 0 3 D rfl (by rw [<- e2,k1]; rfl)
     omega
   . have:=k1 D e2
     have:=h.lt0
     omega
 . refine h.apart.set 3 v'.ownBlock fun q e j hq => ?_
   rcases hg.own with k1 | k1
   . exact h.apart j 3 q hq (by rw [<- e,k1]; rfl)
   . have:=(h.lt q (List.mem_of_getElem? hq)).2
     have:=k1 q e
     omega
theorem SC.grow (h:SC w D B f n S R) {w1:World} {v':Value} {F:Nat -> Nat} {N:Nat} (hg:Grew w R.rest w1 v') (hrow:RowF w1 B v' N F) (hn:n <= N) (hF : ∀ j,j < n -> F j=f j) : SC (w1.setCell ⟨D,0,none⟩ v') D B F N S { R with rest:=v' }:=by
 have hne : ∀ j q,0 < j -> j ≠ 3 -> (foot D R)[j]? = some (some q) -> (w1.setCell ⟨D,0,none⟩ v').heap[q]? = w.heap[q]? := by
  intro j q hj hj2 hq
  refine (RowKit.Below.heap_setCell _ _ _ _ fun e => ?_).trans (hg.block q (h.lt q (List.mem_of_getElem? hq)).2 fun e => ?_)
  . have:=h.apart 0 j q (by rw [e]; rfl) hq
    omega
  . exact hj2 (h.apart j 3 q hq (by rw [<- e]; rfl))
 have g:=h.toE.grow hg hrow
 have hfd:=h.feed.keep (fun q e => hne 1 q (by omega) (by omega) (by rw [<- e]; rfl)) (fun q e => hne 2 q (by omega) (by omega) (by rw [<- e]; rfl))
 refine ⟨g.cell,g.low,g.rest,g.text,g.ref,own_keep h.tag fun q e => hne 6 q (by omega) (by omega) (by rw [<- e]; rfl),g.attrs,g.seen,g.attr,g.val, ?_,g.apart⟩
 rcases hfd with k | ⟨d,G,N',T,p,a1,a2,a3,a4,a5,a6,a7,a8⟩
 . exact .inl k
 . exact .inr ⟨d,G,N',T,p,a1,a2,a3,by omega,a5,a6,a7,fun j hj => (a8 j hj).trans (hF _ (by omega)).symm⟩
theorem To.grow {w1:World} {v':Value} (hg:Grew w R.rest w1 v') : To D R w { R with rest:=v' } (w1.setCell ⟨D,0,none⟩ v'):=by
 refine ⟨⟨hg.os,hg.tape,hg.output,by simpa [World.setCell] using hg.size,fun k hk hn => ?_⟩,fun q hq => ?_⟩
 . exact (RowKit.Below.heap_setCell _ _ _ _ fun e => hn (by rw [e]; simp [foot])).trans (hg.block k hk fun e => hn (by simp [foot,e]))
 . simp only [foot,List.mem_cons,List.not_mem_nil,or_false] at hq ⊢
   rcases hq with e | e | e | e | e | e | e | e | e | e | e
   all_goals first
    | (left; simp [e]; done)
    | (rcases hg.own with k1 | k1
       . left; rw [<- k1]; simp [e]
       . right; exact k1 q e.symm)
end
theorem plcFrom_more {f F:Nat -> Nat} {n N a:Nat} (ha:a < n) (hn:n <= N) (hF : ∀ j,j < n -> F j=f j) : ∀ (x p rn ln co:Nat),Rn.plcFrom F N a x p rn ln co=Rn.plcFrom f n a x p rn ln co
 | 0,_,_,_,_ => rfl
 | x + 1,p,rn,ln,co => by
   unfold Rn.plcFrom
   by_cases c:a <= p
   . rw [if_pos c,if_pos c]
   . have e1:Rn.dec (Rn.off F p) (a - p)=Rn.dec (Rn.off f p) (a - p):=by
      unfold Rn.dec
      exact Rn.decodeN_congr (fun h => hF _ (by show p + 0 < n; omega)) (fun h => hF _ (by show p + 1 < n; omega)) (fun h => hF _ (by show p + 2 < n; omega)) (fun h => hF _ (by show p + 3 < n; omega)) (by omega)
     have e2 : ∀ r,Rn.lineEnd F N p r=Rn.lineEnd f n p r:=fun r => by
      unfold Rn.lineEnd
      rw [hF (p + 1) (by omega)]
      simp [show ¬ p + 1=n by omega,show ¬ p + 1=N by omega]
     rw [if_neg c,if_neg c,e1,e2,plcFrom_more ha hn hF,plcFrom_more ha hn hF]
theorem pla_more {f F:Nat -> Nat} {n N a:Nat} (pl:Nat × Nat × Nat × Nat) (ha:a < n) (hn:n <= N) (hF : ∀ j,j < n -> F j=f j) : pla pl F N a=pla pl f n a:=by
 unfold pla
 rw [plcFrom_more ha hn hF]
theorem wpList_append_run {w:World} {ops:Array Oper} {rest:List Oper} {o:Oper} {a:Act} {Q:Exit -> Act -> World -> Prop} (hgd:o.guard=none) (s x:Operand) (t:TypeId) (ho:o.op = .call { callee := .builtin .append,args := #[s,x],argTypes := #[t,t] }) (vs vx v':Value) (w2:World) (hs:a.eval s=vs) (hx:a.eval x=vx)
 (hrun:(Builtin.append_ #[t,t] o.type #[vs,vx]).run Tryd.prog w = .ok v' w2) (h:wpList Tryd.prog ops Q rest (a.put o.dst v') w2) : wpList Tryd.prog ops Q (o :: rest) a w:=by
 refine wpList_plain hgd fun K hK => ?_
 unfold Oper.wp
 simp [execOp,ho,resolve,invoke,builtin,hs,hx,hrun,Result.andThen]
 exact hK _ _ h
theorem push_sce {w:World} {D B n:Nat} {f:Nat -> Nat} {S:St} {R:Raw} (h:SCe w D B f n S R) (hen:S.ended=false) (hB:B <= w.heap.size) (x:Value) (m:Nat) (g F:Nat -> Nat) (hx:SlAt w x m g) (hnm:n + m <= 1099511627776) (h1 : ∀ j,j < n -> F j=f j) (h2 : ∀ j,j < m -> F (n + j)=g j) :
 Calls Tryd.prog 11 #[.pointer (some ⟨D,0,none⟩),x] w fun e w' => e = .returned (.int .i64 0) /\ ∃ v' w2,Grew w R.rest w2 v' /\ RowF w2 B v' (n + m) F /\ w'=w2.setCell ⟨D,0,none⟩ v':=by
 have c0:=h.c0
 have c5:=h.c5
 have f0:=h.fz 0
 rw [hen] at c5
 obtain ⟨v',w2,hrun,hrow,hgr⟩:=append_rowF 22 h.rest hB hx hnm h1 h2
 have hD:w2.heap[D]? = w.heap[D]? := hgr.block D h.lt0 fun e => by have:=h.apart 0 3 D rfl (by rw [<- e]; rfl); omega
 have t0:w2.cell? ⟨D,0,none⟩ = some R.rest:=(World.cell?_of_block (a:=⟨D,0,none⟩) hD).trans c0
 have t0f:w2.frozen? ⟨D,0,none⟩ = false:=(World.frozen?_of_block (a:=⟨D,0,none⟩) hD).trans f0
 obtain ⟨pr,cr,er⟩:=h.rest.form
 obtain ⟨pv,cv,ev⟩:=hrow.form
 subst ev
 obtain ⟨px,cx,ex⟩ : ∃ px cx,x = .slice px m cx:=by
  rcases hx with ⟨rfl,rfl⟩ | ⟨b,o,c,rfl,_⟩
  . exact ⟨_,_,rfl⟩
  . exact ⟨_,_,rfl⟩
 subst ex
 rw [er] at c0 t0 hrun
 have HRUN:=hide' hrun
 have HROW:=hide' hrow
 have HGR:=hide' hgr
 clear h hrun hrow hgr hx hD h1 h2 er hen
 go_enter Tryd.func11,Tryd.ntmps11
 go_wp2_with (refine wpList_append_run rfl (.tmp 15) (.tmp 16) 22 rfl (.slice pr n cr) (.slice px m cx) _ w2 rfl rfl HRUN.out ?_)
 go_ret
 exact ⟨rfl,_,w2,HGR.out,HROW.out,rfl⟩
theorem push_scn {w:World} {D B n:Nat} {f:Nat -> Nat} {R:Raw} {pl:Nat × Nat × Nat × Nat} {ph:Option (Nat × List UInt8 × Wk)} (h:Scn w D B f n pl false ph R) (hT:Tb B w) (hB:B <= w.heap.size) (hbad : ∀ i m k,ph=some (i,m,k) -> k.how=2 -> k.bad < n) (x:Value) (m:Nat) (g F:Nat -> Nat) (hx:SlAt w x m g) (hnm:n + m <= 1099511627776) (h1 : ∀ j,j < n -> F j=f j) (h2 : ∀ j,j < m -> F (n + j)=g j) (hF : ∀ j,F j < 256) :
 Calls Tryd.prog 11 #[.pointer (some ⟨D,0,none⟩),x] w fun e w' => e = .returned (.int .i64 0) /\ ∃ R',Scn w' D B F (n + m) pl false ph R' /\ To D R w R' w' /\ Tb B w':=by
 obtain ⟨S,s1,rfl,s3,s4⟩:=h
 refine (push_sce s1 s3 hB x m g F hx hnm h1 h2).mono ?_
 rintro e w' ⟨rfl,v',w2,hg,hr,rfl⟩
 have hTo:To D R w { R with rest:=v' } (w2.setCell ⟨D,0,none⟩ v'):=To.grow hg
 have hT2:=hT.to (s1.to_below hTo)
 refine ⟨rfl,_,⟨S,s1.grow hg hr,rfl,s3, ?_⟩,hTo,hT2⟩
 match ph,s4,hbad with
 | none,s4,_ => exact s4
 | some (i,m',k),⟨d,q1,q2,q3,q4,q5,q6⟩,hbad =>
   refine ⟨d,q1,q2,q3,q4,fun e => ?_,fun e => ?_⟩
   . rw [pla_more S.pl (hbad i m' k rfl e) (Nat.le_add_right _ _) h1]
     exact q5 e
   . obtain ⟨r1,r2,r3,r4⟩:=q6 e
     have hfn:=r2.fn
     exact ⟨r1.grow hg hr (Nat.le_add_right _ _) h1,⟨hT2,Nat.le_trans hB hTo.mv.size,r2.fp,r2.q,r2.e,r2.qe,by omega,fun j a b => (congrArg (fun z:Nat × Nat × Nat × Nat => z.2.2.2) (Fd.pk_congr (fun i hi => h1 i (by omega)))).trans (r2.mn j a b),hF,hnm,r2.pl⟩,r3,r4⟩
theorem dec_cr {f:Nat -> Nat} {m:Nat} (hf : ∀ j,f j < 256) (hm:0 < m) (h:(Rn.dec f m).1=13) : f 0=13:=by
 rw [Rn.dec_whole f m hf hm] at h
 split at h
 . next hw =>
   by_cases c:f 0 < 128
   . have:=(fv_one hw c).1
     have h':Rn.fv f=13:=h
     omega
   . have:=fv_first hw (by omega)
     have h':Rn.fv f=13:=h
     omega
 . cases h
theorem plcFrom_last {f F:Nat -> Nat} {n N:Nat} (hf : ∀ j,f j < 256) (hn:n <= N) (hF : ∀ j,j < n -> F j=f j) (hl:n=0 \/ f (n - 1) ≠ 13) : ∀ (x p rn ln co:Nat),Rn.plcFrom F N n x p rn ln co=Rn.plcFrom f n n x p rn ln co
 | 0,_,_,_,_ => rfl
 | x + 1,p,rn,ln,co => by
   unfold Rn.plcFrom
   by_cases c:n <= p
   . rw [if_pos c,if_pos c]
   . have e1:Rn.dec (Rn.off F p) (n - p)=Rn.dec (Rn.off f p) (n - p):=by
      unfold Rn.dec
      exact Rn.decodeN_congr (fun h => hF _ (by show p + 0 < n; omega)) (fun h => hF _ (by show p + 1 < n; omega)) (fun h => hF _ (by show p + 2 < n; omega)) (fun h => hF _ (by show p + 3 < n; omega)) (by omega)
     have e2:Rn.lineEnd F N p (Rn.dec (Rn.off f p) (n - p)).1=Rn.lineEnd f n p (Rn.dec (Rn.off f p) (n - p)).1:=by
      unfold Rn.lineEnd
      by_cases c13:(Rn.dec (Rn.off f p) (n - p)).1=13
      . have h13:f (p + 0)=13:=dec_cr (f:=Rn.off f p) (fun _ => hf _) (by omega) c13
        rw [Nat.add_zero] at h13
        have hp:p + 1 < n:=by
         rcases Nat.lt_or_ge (p + 1) n with k | k
         . exact k
         . exfalso
           rcases hl with e | e
           . omega
           . exact e (by rw [show n - 1=p by omega]; exact h13)
        rw [if_pos c13,if_pos c13,hF (p + 1) hp]
        simp [show ¬ p + 1=n by omega,show ¬ p + 1=N by omega]
      . rw [if_neg c13,if_neg c13]
     rw [if_neg c,if_neg c,e1,e2,plcFrom_last hf hn hF hl,plcFrom_last hf hn hF hl]
theorem plw_more {f F:Nat -> Nat} {n N x:Nat} (hf : ∀ j,f j < 256) (hn:n <= N) (hF : ∀ j,j < n -> F j=f j) (hx:x < n \/ (x=n /\ (n=0 \/ f (n - 1) ≠ 13))) : plw F N x=plw f n x:=by
 unfold plw
 rcases hx with h | ⟨rfl,h⟩
 . exact pla_more _ h hn hF
 . unfold pla
   rw [plcFrom_last hf hn hF h]
theorem tks_more {f F:Nat -> Nat} {n N a inn:Nat} {nm:List UInt8} {k:Wk} (hf : ∀ j,f j < 256) (hn:n <= N) (hF : ∀ j,j < n -> F j=f j) (h:Steps inn nm (Rn.off f a) (n - a) {} k) (h0:k.how=0) (ha:a <= n) : tks F N a k=tks f n a k /\ f (a + k.ps - 1)=62 /\ plw F N (a + k.ps)=plw f n (a + k.ps):=by
 have q3:=tks_len (f:=f) (n:=n) (a:=a) h h0
 have q4:=h.within (Nat.zero_le _)
 obtain ⟨g1,g2,g3⟩:=(h.lg (lg_new _)).gt h0
 have e2:f (a + k.fr)=62:=g2
 have e3:f (a + k.ps - 1)=62:=by rw [show a + k.ps - 1=a + k.fr by omega]; exact e2
 have p1:plw F N (a + k.tg)=plw f n (a + k.tg):=plw_more hf hn hF (.inl (by omega))
 have p2:plw F N (a + k.ps)=plw f n (a + k.ps):=by
  rcases Nat.lt_or_ge (a + k.ps) n with c | c
  . exact plw_more hf hn hF (.inl c)
  . have e:a + k.ps=n:=by omega
    refine plw_more hf hn hF (.inr ⟨e, .inr ?_⟩)
    rw [<- e,e3]
    decide
 refine ⟨?_,e3,p2⟩
 unfold tks tkG tkT
 by_cases c:k.text = []
 . rw [if_pos c,if_pos c,p1,p2]
 . have p3:plw F N (a + k.tf)=plw f n (a + k.tf):=plw_more hf hn hF (.inl (by have:=(q3.2.1 c).2.2; omega))
   rw [if_neg c,if_neg c,p1,p2,p3]
theorem Told.more {f F:Nat -> Nat} {n N a b:Nat} {s u:Dr} {T:List Tk} (hf : ∀ j,f j < 256) (hn:n <= N) (hF : ∀ j,j < n -> F j=f j) (h:Told f n a s T b u) : a <= n -> (a=0 \/ plw F N a=plw f n a) -> Told F N a s T b u /\ (b=0 \/ plw F N b=plw f n b):=by
 induction h with
 | refl => exact fun _ hp => ⟨.refl _ _,hp⟩
 | @cons a b s u T k h h0 r ih =>
   intro ha _
   obtain ⟨q1,q2,q3⟩:=tks_more hf hn hF h h0 ha
   have q4:=h.within (Nat.zero_le _)
   obtain ⟨r1,r2⟩:=ih (by omega) (.inr q3)
   refine ⟨?_,r2⟩
   rw [<- q1]
   exact .cons (h.more (fun j hj => (hF _ (by omega)).symm) (by omega)) h0 r1
theorem plw_zero (f:Nat -> Nat) (n:Nat) : plw f n 0=(0,0,1,1):=by simp [plw,pla,Rn.plcFrom]
theorem one_more {f:Nat -> Nat} {n b b':Nat} {u u':Dr} {k:Wk} {T:List Tk} (hb:b <= n) (hF:Fin f n b u k) (h:Told f (n + 1) b u T b' u') : (T = [] /\ b'=b /\ u'=u) \/ (∃ k',Steps u.inn u.nm (Rn.off f b) (n + 1 - b) {} k' /\ k'.how=0 /\ T=tks f (n + 1) b k' /\ b + k'.ps=n + 1 /\ b'=n + 1 /\ u'=u.next k'):=by
 cases h with
 | refl => exact .inl ⟨rfl,rfl,rfl⟩
 | @cons _ _ _ _ T2 k' g h0 r =>
   have e:=hF.byte hb g h0
   right
   refine ⟨k',g,h0, ?_⟩
   cases r with
   | refl => exact ⟨by rw [List.append_nil],e,e,rfl⟩
   | @cons _ _ _ _ _ k2 g2 h2 r2 =>
     exfalso
     have q:=g2.within (Nat.zero_le _)
     have q2:=g2.psn rfl h2
     have:k2.ps <= n + 1 - (b + k'.ps):=q
     omega
section
variable {f:Nat -> Nat} {n:Nat} {D B:Nat} {T:List Tk} {u:Dr} {R:Raw} {w:World} {how:Nat} {p:Nat × Nat × Nat × Nat}
theorem stop_push (h:StopE f n false 0 {} D B T u R w how p) (hT:Tb B w) (hB:B <= w.heap.size) (hf : ∀ j,f j < 256) (hn:n + 1 <= 1073741824) (x:Value) (g:Nat -> Nat) (hx:SlAt w x 1 g) (hg:g 0=f n) :
 Calls Tryd.prog 11 #[.pointer (some ⟨D,0,none⟩),x] w fun e w' => e = .returned (.int .i64 0) /\ ∃ R' b k,Told f (n + 1) 0 {} T b u /\ Fin f n b u k /\ Stop f n false b u k how p /\ b <= n /\ u.opn.length <= b /\ LS f (n + 1) false b u D B [] u R' w' /\ To D R w R' w' /\ Tb B w':=by
 obtain ⟨b,k,a1,a2,a3,a4,a5,a6,a7,a8,a9,a10,k',hs,hk'⟩:=h
 obtain rfl:=hk' rfl
 have hop:=a1.opl
 have ho:u.opn.length <= b:=by
  have:({} : Dr).opn.length=0:=rfl
  omega
 obtain ⟨t1,t2⟩:=a1.more (N:=n + 1) hf (Nat.le_succ _) (fun _ _ => rfl) (Nat.zero_le _) (.inl rfl)
 have hpl:plw f (n + 1) b=plw f n b:=by
  rcases t2 with e | e
  . rw [e,plw_zero,plw_zero]
  . exact e
 refine (push_scn hs hT hB ?_ x 1 g (Rn.off f b) hx (by omega) (fun _ _ => rfl) ?_ (fun _ => hf _)).mono ?_
 . intro i m k2 e h2
   cases e
   exact (a2.go.bad rfl h2).1
 . intro j hj
   obtain rfl:j=0:=by omega
   rw [hg]
   show f (b + (n - b + 0))=f n
   rw [show b + (n - b + 0)=n by omega]
 . rintro e w' ⟨rfl,R',hs',hTo,hTb⟩
   refine ⟨rfl,R',b,k',t1,a2,a10,a7,ho, ?_,hTo,hTb⟩
   rw [show n - b + 1=n + 1 - b by omega, <- hpl] at hs'
   refine ⟨b, [], .refl _ _,a3,a4,fun l hl => Nat.le_trans (a5 l hl) (by omega),a6.up (Nat.le_succ _),by omega, .inl ⟨rfl,_,hs', .inr ⟨k',rfl,a2.how,a2.go.more (fun _ _ => rfl) (by omega)⟩⟩⟩
theorem most_one {b:Nat} {k:Wk} (hb:b <= n) (hF:Fin f n b u k) {T2:List Tk} {u2:Dr} {R2:Raw} {w2:World} (h:LS f (n + 1) false b u D B T2 u2 R2 w2) : T2.length <= 2:=by
 have two : ∀ (k':Wk),(tks f (n + 1) b k').length <= 2:=fun k' => by
  unfold tks
  split <;> simp
 obtain ⟨b2,T',h1,_,_,_,_,h6,hc⟩:=h
 rcases hc with ⟨rfl,_⟩ | ⟨k2,q1,q2,q3,rfl,_⟩
 . rcases one_more hb hF h1 with ⟨e,_⟩ | ⟨k',_,_,e,_⟩
   . rw [e]; simp
   . rw [e]; exact two k'
 . rcases one_more hb hF h1 with ⟨e,_⟩ | ⟨k',g1,g2,e,g4,g5,g6⟩
   . rw [e]; simp
   . exfalso
     have e1:=q1.within (Nat.zero_le _)
     have e2:=q1.psn rfl q2
     have:k2.ps <= n + 1 - b2:=e1
     omega
theorem stop_end (h:StopE f n false 0 {} D B T u R w how p) (hT:Tb B w) (hB:B <= w.heap.size) :
 Calls Tryd.prog 13 #[.pointer (some ⟨D,0,none⟩)] w fun e w' => e = .returned (.int .i64 0) /\ ∃ b k,Told f n 0 {} T b u /\ Fin f n b u k /\ b <= n /\ u.opn.length <= b /\ LS f n true b u D B [] u R w' /\ To D R w R w' /\ Tb B w':=by
 obtain ⟨b,k,a1,a2,a3,a4,a5,a6,a7,a8,a9,a10,k',⟨S,s1,s2,s3,d,q1,q2,q3,q4,q5,q6⟩,hk'⟩:=h
 obtain rfl:=hk' rfl
 have hop:=a1.opl
 have ho:u.opn.length <= b:=by
  have:({} : Dr).opn.length=0:=rfl
  omega
 refine (end_any s1).mono ?_
 rintro e w' ⟨rfl,rfl⟩
 rw [s3,if_neg (by decide),if_neg (by decide)]
 have hc:cells { S with ended:=true } R=(cells S R).setIfInBounds 5 (.bool true):=rfl
 have hTo:To D R w R (w.setCell ⟨D,5,none⟩ (.bool true)):=(To.refl _ _ _).setCell 5 _ rfl
 have hT2:=hT.to (s1.to_below hTo)
 have e1:SCe (w.setCell ⟨D,5,none⟩ (.bool true)) D B (Rn.off f b) (n - b) { S with ended:=true } R:=s1.set 5 _ _ hc rfl ⟨rfl,rfl,rfl,rfl,rfl,rfl,rfl,rfl,rfl,rfl⟩ ⟨rfl,rfl,rfl,rfl,rfl,rfl⟩ s1.feed
 refine ⟨rfl,b,k',a1,a2,a7,ho,⟨b, [], .refl _ _,a3,a4,a5,a6,a7, .inl ⟨rfl,some (u.inn,u.nm,k'),⟨{ S with ended:=true },e1,s2,rfl,d,q1,q2,q3,q4,q5,fun e => ?_⟩, .inr ⟨k',rfl,a2.how,a2.go⟩⟩⟩,hTo,hT2⟩
 obtain ⟨r1,r2,r3,r4⟩:=q6 e
 exact ⟨r1.put 5 _ _ hc ⟨rfl,rfl,rfl,rfl,rfl,rfl,rfl,rfl⟩,⟨hT2,Nat.le_trans hB hTo.mv.size,r2.fp,r2.q,r2.e,r2.qe,r2.fn,r2.mn,r2.lt,r2.big,r2.pl⟩,r3,r4⟩
end
theorem Told.only {f:Nat -> Nat} {n a b b':Nat} {s u u':Dr} {T T':List Tk} {k k':Wk} (h:Told f n a s T b u) (hk:Fin f n b u k) (g:Told f n a s T' b' u') (gk:Fin f n b' u' k') : T=T' /\ b=b' /\ u=u' /\ k=k':=by
 induction h generalizing T' with
 | refl a s =>
   cases g with
   | refl => exact ⟨rfl,rfl,rfl,hk.only gk⟩
   | cons h h0 r => exact (hk.none h h0).elim
 | @cons a b s u T m h h0 r ih =>
   cases g with
   | refl => exact (gk.none h h0).elim
   | @cons _ _ _ _ _ m' h' h0' r' =>
     have e:=h.one_end h' (.inl (by omega)) (.inl (by omega))
     subst e
     obtain ⟨e1,e2⟩:=ih hk r'
     rw [e1]
     exact ⟨rfl,e2⟩
theorem Stop.only {f:Nat -> Nat} {n:Nat} {en:Bool} {b:Nat} {u:Dr} {k:Wk} {how how':Nat} {p p':Nat × Nat × Nat × Nat} (hF:Fin f n b u k) (h:Stop f n en b u k how p) (g:Stop f n en b u k how' p') : how=how' /\ p=p':=by
 rcases hF.how with e | e
 . cases en
   . obtain ⟨a1,a2⟩:=h.wait e rfl
     obtain ⟨b1,b2⟩:=g.wait e rfl
     exact ⟨a1.trans b1.symm,a2.trans b2.symm⟩
   . by_cases c : u.inn = 2 ∧ k.st = 0
     . obtain ⟨a1,a2⟩:=h.done e rfl c
       obtain ⟨b1,b2⟩:=g.done e rfl c
       exact ⟨a1.trans b1.symm,a2.trans b2.symm⟩
     . obtain ⟨a1,a2⟩:=h.over e rfl c
       obtain ⟨b1,b2⟩:=g.over e rfl c
       exact ⟨a1.trans b1.symm,a2.trans b2.symm⟩
 . obtain ⟨a1,a2⟩:=h.bad e
   obtain ⟨b1,b2⟩:=g.bad e
   exact ⟨a1.trans b1.symm,a2.trans b2.symm⟩
def StopT (f:Nat -> Nat) (n:Nat) (en:Bool) (T:List Tk) (how:Nat) (p:Nat × Nat × Nat × Nat) : Prop := ∃ b k u,Told f n 0 {} T b u /\ Fin f n b u k /\ Stop f n en b u k how p
theorem StopT.math {f:Nat -> Nat} {n:Nat} {en:Bool} {T:List Tk} {how:Nat} {p:Nat × Nat × Nat × Nat} (h:StopT f n en T how p) : StopM f n en how p:=by
 obtain ⟨b,k,u,h1,h2,h3⟩:=h
 exact ⟨b,k,T,u,h1,h2,h3⟩
theorem StopT.only {f:Nat -> Nat} {n:Nat} {en:Bool} {T T':List Tk} {how how':Nat} {p p':Nat × Nat × Nat × Nat} (h:StopT f n en T how p) (g:StopT f n en T' how' p') : T=T' /\ how=how' /\ p=p':=by
 obtain ⟨b,k,u,h1,h2,h3⟩:=h
 obtain ⟨b',k',u',g1,g2,g3⟩:=g
 obtain ⟨rfl,rfl,rfl,rfl⟩:=h1.only h2 g1 g2
 exact ⟨rfl,h3.only h2 g3⟩
theorem cut_bad {f:Nat -> Nat} {i N:Nat} {how how':Nat} {p p':Nat × Nat × Nat × Nat} (hf : ∀ j,f j < 256) (hi:i <= N) (h:StopM f i false how p) (h2:how=2) (g:StopM f N true how' p') : p.1 < i /\ how'=2 /\ p'=p:=by
 obtain ⟨b,k,T,u,h1,hF,hS⟩:=h
 have e:k.how=2:=by
  rcases hF.how with e | e
  . have:=(hS.wait e rfl).1; omega
  . exact e
 obtain ⟨_,s2⟩:=hS.bad e
 obtain ⟨q1,_,q3⟩:=h1.tags.bad hF e
 obtain ⟨b',k',T',u',g1,gF,gS⟩:=g
 obtain ⟨r1,r2⟩:=q3 f N (by omega) (fun _ _ => rfl)
 obtain ⟨rfl,rfl,rfl⟩:=r1.only r2 g1.tags gF
 obtain ⟨t1,t2⟩:=gS.bad e
 refine ⟨by rw [s2]; show 0 + (b + k.bad) < i; omega,t1, ?_⟩
 rw [t2,s2]
 exact plw_more hf hi (fun _ _ => rfl) (.inl q1)
theorem cut_wait {f:Nat -> Nat} {i N:Nat} {how:Nat} {p p':Nat × Nat × Nat × Nat} (hi:i <= N) (h:StopM f i false how p) (h1:how=1) (g:StopM f N true 2 p') : ¬ p'.1 < i:=by
 intro hlt
 rcases stop_how g with e | ⟨_,_,_,e⟩
 . cases e
 . have:=(e (by omega) f i hlt (fun _ _ => rfl) _ _ h).1
   omega
theorem cut_new {f:Nat -> Nat} {n b b':Nat} {u u':Dr} {k:Wk} {T:List Tk} (hb:b <= n) (hF:Fin f n b u k) (h:Told f (n + 1) b u T b' u') : T = [] \/ (∃ t,T = [t] /\ t.kind ≠ 0 /\ t.til.1=n + 1) \/ (∃ t t2,T = [t,t2] /\ t.kind=0 /\ t2.kind ≠ 0 /\ t2.til.1=n + 1):=by
 rcases one_more hb hF h with ⟨e,_⟩ | ⟨k',g1,g2,e,g4,_⟩
 . exact .inl e
 . have hk:k'.kind ≠ 0:=by
    rcases (g1.kd (kd_new _)).kd g2 with e | e | e
    . omega
    . omega
    . have:=e.1; omega
   have ht:(tkG f (n + 1) b k').til.1=n + 1:=by show 0 + (b + k'.ps)=n + 1; omega
   rw [e]
   unfold tks
   by_cases c:k'.text = []
   . rw [if_pos c]
     exact .inr (.inl ⟨_,rfl,hk,ht⟩)
   . rw [if_neg c]
     exact .inr (.inr ⟨_,_,rfl,rfl,hk,ht⟩)
theorem fin_zero (f:Nat -> Nat) : Fin f 0 0 {} {}:=⟨.refl _,by decide, .inr (by kernel_rfl)⟩
def Btw (f:Nat -> Nat) (n D B:Nat) (T:List Tk) (u:Dr) (R:Raw) (w:World) (how:Nat) (p:Nat × Nat × Nat × Nat) : Prop :=
 StopE f n false 0 {} D B T u R w how p \/ (n=0 /\ T = [] /\ u = {} /\ R=noRaw (.slice none 0 0) /\ SC w D B f 0 (noSt (0,0,1,1) false) R)
section
variable {f:Nat -> Nat} {n D B:Nat} {T:List Tk} {u:Dr} {R:Raw} {w:World} {how:Nat} {p:Nat × Nat × Nat × Nat}
theorem Btw.len (h:Btw f n D B T u R w how p) : T.length <= n:=by
 rcases h with h | ⟨_,rfl,_⟩
 . obtain ⟨b,k,a1,_,_,_,_,_,a7,_⟩:=h
   have:=a1.len
   omega
 . simp
theorem Btw.lt (h:Btw f n D B T u R w how p) : ∀ q,some q ∈ foot D R -> B <= q /\ q < w.heap.size:=by
 rcases h with h | ⟨_,_,_,rfl,h⟩
 . exact h.lt
 . exact h.lt
theorem Btw.keep {w':World} (h:Btw f n D B T u R w how p) (hT:Tb B w') (hk : ∀ q,some q ∈ foot D R -> w'.heap[q]? = w.heap[q]?) (hB:B <= w'.heap.size) : Btw f n D B T u R w' how p:=by
 rcases h with h | ⟨e1,e2,e3,e4,h⟩
 . exact .inl (h.keep hT hk hB)
 . exact .inr ⟨e1,e2,e3,e4,h.keep hk⟩
theorem off_zero (f:Nat -> Nat) : Rn.off f 0=f:=by funext j; simp [Rn.off]
theorem btw_push (h:Btw f n D B T u R w how p) (hT:Tb B w) (hB:B <= w.heap.size) (hf : ∀ j,f j < 256) (hn:n + 1 <= 1073741824) (x:Value) (g:Nat -> Nat) (hx:SlAt w x 1 g) (hg:g 0=f n) :
 Calls Tryd.prog 11 #[.pointer (some ⟨D,0,none⟩),x] w fun e w' => e = .returned (.int .i64 0) /\ ∃ R' b k,Told f (n + 1) 0 {} T b u /\ Fin f n b u k /\ b <= n /\ u.opn.length <= b /\ LS f (n + 1) false b u D B [] u R' w' /\ To D R w R' w' /\ Tb B w':=by
 rcases h with h | ⟨rfl,rfl,rfl,rfl,h⟩
 . refine (stop_push h hT hB hf hn x g hx hg).mono ?_
   rintro e w' ⟨e1,R',b,k,a1,a2,a3,a4,a5,a6⟩
   exact ⟨e1,R',b,k,a1,a2,a4,a5,a6⟩
 . have hs:Scn w D B f 0 (0,0,1,1) false none (noRaw (.slice none 0 0)):=⟨_,h.toE,rfl,rfl,rfl⟩
   refine (push_scn hs hT hB (fun i m k e => by cases e) x 1 g f hx (by omega) (fun _ _ => rfl) ?_ hf).mono ?_
   . intro j hj
     obtain rfl:j=0:=by omega
     exact hg.symm
   . rintro e w' ⟨rfl,R',hs',hTo,hTb⟩
     obtain ⟨d1,d2,d3⟩:=dr_new 1
     refine ⟨rfl,R',0, {}, .refl _ _,fin_zero f,Nat.le_refl _,Nat.le_refl _,⟨0, [], .refl _ _,d1,d2,d3, .refl _,Nat.zero_le _, .inl ⟨rfl,none, ?_, .inl rfl⟩⟩,hTo,hTb⟩
     have e2:plw f (0 + 1) 0=(0,0,1,1):=by simp [plw,pla,Rn.plcFrom]
     rw [off_zero,e2]
     exact hs'
theorem btw_end (h:Btw f n D B T u R w how p) (hT:Tb B w) (hB:B <= w.heap.size) :
 Calls Tryd.prog 13 #[.pointer (some ⟨D,0,none⟩)] w fun e w' => e = .returned (.int .i64 0) /\ ∃ b k,Told f n 0 {} T b u /\ Fin f n b u k /\ b <= n /\ u.opn.length <= b /\ LS f n true b u D B [] u R w' /\ To D R w R w' /\ Tb B w':=by
 rcases h with h | ⟨rfl,rfl,rfl,rfl,h⟩
 . exact stop_end h hT hB
 . refine (end_any h.toE).mono ?_
   rintro e w' ⟨rfl,rfl⟩
   obtain ⟨d1,d2,d3⟩:=dr_new 0
   have hTo:To D (noRaw (.slice none 0 0)) w (noRaw (.slice none 0 0)) (w.setCell ⟨D,5,none⟩ (.bool true)):=(To.refl _ _ _).setCell 5 _ rfl
   refine ⟨rfl,0, {}, .refl _ _,fin_zero f,Nat.le_refl _,Nat.le_refl _,⟨0, [], .refl _ _,d1,d2,d3, .refl _,Nat.le_refl _, .inl ⟨rfl,none, ?_, .inl rfl⟩⟩,hTo,hT.to (h.toE.to_below hTo)⟩
   have e2:plw f 0 0=(0,0,1,1):=by simp [plw,pla,Rn.plcFrom]
   rw [off_zero,e2]
   exact ⟨_,h.ended'.toE,rfl,rfl,rfl⟩
theorem StopE.join {b:Nat} {u0:Dr} {T0:List Tk} {en:Bool} (h0:Told f n 0 {} T0 b u0) (h:StopE f n en b u0 D B T u R w how p) : StopE f n en 0 {} D B (T0 ++ T) u R w how p:=by
 obtain ⟨b',k,a1,a2⟩:=h
 exact ⟨b',k,h0.trans a1,a2⟩
theorem StopE.told {en:Bool} (h:StopE f n en 0 {} D B T u R w how p) : StopT f n en T how p:=by
 obtain ⟨b,k,a1,a2,a3,a4,a5,a6,a7,a8,a9,a10,_⟩:=h
 exact ⟨b,k,u,a1,a2,a10⟩
theorem most_end {b:Nat} {k:Wk} {en:Bool} (hF:Fin f n b u k) {T2:List Tk} {u2:Dr} {R2:Raw} {w2:World} (h:LS f n en b u D B T2 u2 R2 w2) : T2.length <= 3:=by
 obtain ⟨b2,T',h1,_,_,_,_,h6,hc⟩:=h
 cases h1 with
 | refl =>
   rcases hc with ⟨rfl,_⟩ | ⟨k2,q1,q2,_⟩
   . simp
   . exact (hF.none q1 q2).elim
 | cons g g0 r => exact (hF.none g g0).elim
theorem cut_each {b:Nat} {k:Wk} {V:List TkV} {b':Nat} {u':Dr} (hb:b <= n) (hF:Fin f n b u k) (h:Told f (n + 1) b u (V.map (·.tk)) b' u') (j:Nat) (hj:j < V.length) : ((V[j]).tk.kind ≠ 0 /\ (V[j]).tk.til.1=n + 1) \/ ((V[j]).tk.kind=0 /\ ∃ h2:j + 1 < V.length,(V[j + 1]).tk.kind ≠ 0):=by
 rcases cut_new hb hF h with e | ⟨t,e,h1,h2⟩ | ⟨t,t2,e,h1,h2,h3⟩
 . rw [List.map_eq_nil_iff] at e
   subst e
   exact absurd hj (Nat.not_lt_zero _)
 . obtain ⟨a,rfl⟩ : ∃ a,V = [a]:=by
    match V,e with
    | [a],_ => exact ⟨a,rfl⟩
    | [],e => cases e
    | _ :: _ :: _,e => simp at e
   simp only [List.map_cons,List.map_nil,List.cons.injEq,and_true] at e
   obtain rfl:j=0:=by simp at hj; exact hj
   subst e
   exact .inl ⟨h1,h2⟩
 . obtain ⟨a,c,rfl⟩ : ∃ a c,V = [a,c]:=by
    match V,e with
    | [a,c],_ => exact ⟨a,c,rfl⟩
    | [],e => cases e
    | [_],e => simp at e
    | _ :: _ :: _ :: _,e => simp at e
   simp only [List.map_cons,List.map_nil,List.cons.injEq,and_true] at e
   obtain ⟨rfl,rfl⟩:=e
   match j,hj with
   | 0,_ => exact .inr ⟨h1,by simp,h2⟩
   | 1,_ => exact .inl ⟨h2,h3⟩
   | j + 2,hj => exact absurd hj (by simp)
end
def CutS (w2:World) (D Q:Nat) (f:Nat -> Nat) (i:Nat) (tk op:Value) (V:List TkV) (how:Nat) (p:Nat × Nat × Nat × Nat) (inn:Nat) (wr:World) : Prop :=
 ∃ R u,u.inn=inn /\ Drv wr D Q D R tk op V how p u.opn.reverse inn /\ Btw f i D D (V.map (·.tk)) u R wr how p /\ Tb D wr /\ Below D w2 wr
def CutP (w2:World) (D Q:Nat) (f:Nat -> Nat) (i n:Nat) (en:Bool) (tk op:Value) (V:List TkV) (how:Nat) (p:Nat × Nat × Nat × Nat) (inn:Nat) (wr:World) : Prop :=
 ∃ R u b k,u.inn=inn /\ Told f n 0 {} (V.map (·.tk)) b u /\ Fin f i b u k /\ b <= i /\ u.opn.length <= b /\ LS f n en b u D D [] u R wr /\ Drv wr D Q D R tk op V how p u.opn.reverse inn /\ Tb D wr /\ Below D w2 wr
theorem Drv.foot (w2:World) {D Q:Nat} {R R':Raw} {tk op tk' op':Value} {V:List TkV} {how inn:Nat} {p:Nat × Nat × Nat × Nat} {o:List (List UInt8)} {w w':World} (h:Drv w D Q D R tk op V how p o inn) (hl : ∀ q,some q ∈ Sc.foot D R -> D <= q) (hx:ToX (dfoot D Q R tk op) (dfoot D Q R' tk' op') w w') (hD:D <= w.heap.size) (hb:Below D w2 w) : Below D w2 w':=by
 refine hb.trans ⟨hx.mv.os,hx.mv.tape,hx.mv.output,hx.mv.size,fun k hk => hx.mv.block k (by omega) fun m => ?_⟩
 simp only [dfoot,List.mem_cons] at m
 rcases m with m | m | m | m
 . cases m; have:=h.low; omega
 . have:=(World.ownsRow.lt h.toks k m.symm).1; omega
 . have:=(World.ownsRow.lt h.opn k m.symm).1; omega
 . have:=hl k m; omega
section
variable {w2:World} {D Q:Nat} {f:Nat -> Nat} {i n:Nat} {tk op:Value} {V:List TkV} {how inn:Nat} {p:Nat × Nat × Nat × Nat} {wr:World}
theorem CutS.below {w':World} (h:CutS w2 D Q f i tk op V how p inn wr) (hb:Below wr.heap.size wr w') : CutS w2 D Q f i tk op V how p inn w':=by
 obtain ⟨R,u,e,h1,h2,h3,h4⟩:=h
 have hD:D <= wr.heap.size:=Nat.le_trans h1.low (Nat.le_of_lt h1.lt)
 have hb':Below D wr w':=hb.mono hD
 have hT:Tb D w':=h3.to hb'
 exact ⟨R,u,e,h1.below hb,h2.keep hT (fun q m => hb.block q (h2.lt q m).2) (Nat.le_trans hD hb.size),hT,h4.trans hb'⟩
theorem CutS.len (h:CutS w2 D Q f i tk op V how p inn wr) : V.length <= i:=by
 obtain ⟨R,u,e,h1,h2,h3,h4⟩:=h
 have:=h2.len
 rwa [List.length_map] at this
theorem CutS.drv (h:CutS w2 D Q f i tk op V how p inn wr) : ∃ R o,Drv wr D Q D R tk op V how p o inn:=by
 obtain ⟨R,u,e,h1,h2,h3,h4⟩:=h
 exact ⟨R,_,h1⟩
theorem cut_push (h:CutS w2 D Q f i tk op V how p inn wr) (hf : ∀ j,f j < 256) (hi:i + 1 <= 1073741824) :
 Calls Tryd.prog 11 #[.pointer (some ⟨D,0,none⟩), .slice (some ⟨wr.heap.size,0,none⟩) 1 1] (wr.alloc (.cells #[.int .u8 (f i:Nat)] 5)) fun e w' => e = .returned (.int .i64 0) /\ CutP w2 D Q f i (i + 1) false tk op V how p inn w':=by
 have hb0:Below wr.heap.size wr (wr.alloc (.cells #[.int .u8 (f i:Nat)] 5)):=(Below.refl _ _).alloc (Nat.le_refl _) _
 obtain ⟨R,u,e,h1,h2,h3,h4⟩:=h.below hb0
 have hD:D <= (wr.alloc (.cells #[.int .u8 (f i:Nat)] 5)).heap.size:=Nat.le_trans h1.low (Nat.le_of_lt h1.lt)
 refine (btw_push h2 h3 hD hf hi _ (fun _ => f i) (.inr ⟨wr.heap.size,0,1,rfl,Nat.le_refl _,by unfold maxLen; omega,fun j hj => ?_⟩) rfl).mono ?_
 . obtain rfl:j=0:=by omega
   rw [Lib.cell_of_heap (heap_alloc_new wr _)]
   rfl
 . rintro e' w' ⟨rfl,R',b,k,a1,a2,a3,a4,a5,a6,a7⟩
   have h1':=h1.to a6
   exact ⟨rfl,R',u,b,k,e,a1,a2,a3,a4,a5,h1',a7,h1.foot w2 (fun q m => (h2.lt q m).1) (ToX.of_to (Q:=Q) (tk:=tk) (op:=op) a6) hD h4⟩
theorem cut_end (h:CutS w2 D Q f n tk op V how p inn wr) :
 Calls Tryd.prog 13 #[.pointer (some ⟨D,0,none⟩)] wr fun e w' => e = .returned (.int .i64 0) /\ CutP w2 D Q f n n true tk op V how p inn w':=by
 obtain ⟨R,u,e,h1,h2,h3,h4⟩:=h
 have hD:D <= wr.heap.size:=Nat.le_trans h1.low (Nat.le_of_lt h1.lt)
 refine (btw_end h2 h3 hD).mono ?_
 rintro e' w' ⟨rfl,b,k,a1,a2,a3,a4,a5,a6,a7⟩
 have h1':=h1.to a6
 exact ⟨rfl,R,u,b,k,e,a1,a2,a3,a4,a5,h1',a7,h1.foot w2 (fun q m => (h2.lt q m).1) (ToX.of_to (Q:=Q) (tk:=tk) (op:=op) a6) hD h4⟩
def CutD (w2:World) (D Q:Nat) (f:Nat -> Nat) (i:Nat) (V:List TkV) (w':World) : Prop :=
 ∃ tk op V7 how p inn,V.length <= V7.length /\ CutS w2 D Q f (i + 1) tk op V7 how p inn w' /\ StopM f (i + 1) false how p /\ (how=1 \/ how=2) /\ ∀ k (hk:k < V7.length),V.length <= k -> ((V7[k]).tk.kind ≠ 0 /\ (V7[k]).tk.til.1=i + 1) \/ ((V7[k]).tk.kind=0 /\ ∃ h2:k + 1 < V7.length,(V7[k + 1]).tk.kind ≠ 0)
theorem each_append {V V':List TkV} {i:Nat} (h : ∀ j (hj:j < V'.length),((V'[j]).tk.kind ≠ 0 /\ (V'[j]).tk.til.1=i + 1) \/ ((V'[j]).tk.kind=0 /\ ∃ h2:j + 1 < V'.length,(V'[j + 1]).tk.kind ≠ 0)) : ∀ k (hk:k < (V ++ V').length),V.length <= k -> (((V ++ V')[k]).tk.kind ≠ 0 /\ ((V ++ V')[k]).tk.til.1=i + 1) \/ (((V ++ V')[k]).tk.kind=0 /\ ∃ h2:k + 1 < (V ++ V').length,((V ++ V')[k + 1]).tk.kind ≠ 0):=by
 intro k hk hl
 have hk':=hk
 rw [List.length_append] at hk'
 rw [List.getElem_append_right hl]
 rcases h (k - V.length) (by omega) with e | ⟨e,h2,e2⟩
 . exact .inl e
 . refine .inr ⟨e,by rw [List.length_append]; omega, ?_⟩
   rw [List.getElem_append_right (by omega)]
   have:k + 1 - V.length=k - V.length + 1:=by omega
   simp only [this]
   exact e2
theorem stop_two {f:Nat -> Nat} {n how:Nat} {p:Nat × Nat × Nat × Nat} (h:StopM f n false how p) : how=1 \/ how=2:=by
 obtain ⟨b,k,T,u,h1,hF,hS⟩:=h
 rcases hF.how with e | e
 . exact .inl (hS.wait e rfl).1
 . exact .inr (hS.bad e).1
theorem cut_drain (h:CutP w2 D Q f i (i + 1) false tk op V how p inn wr) (hf : ∀ j,f j < 256) (hi:i + 1 <= 1073741824) (hV:V.length <= 1073741824) :
 Calls Tryd.prog 12 #[.pointer (some ⟨Q,0,none⟩), .pointer (some ⟨D,0,none⟩), .int .i64 3] wr fun e w' => e = .returned (.bool true) /\ CutD w2 D Q f i V w':=by
 obtain ⟨R,u,b,k,rfl,a1,a2,a3,a4,a5,a6,a7,a8⟩:=h
 have hD:D <= wr.heap.size:=Nat.le_trans a6.low (Nat.le_of_lt a6.lt)
 refine (drain_any a6 a5 a7 hf hi hV a4 3 (fun T2 u2 R2 w2 g => Nat.le_trans (most_one a3 a2 g) (by omega)) (by omega)).mono ?_
 rintro e w' ⟨rfl,V',u',R',tk',op',how',p',b1,b2,b3,b4⟩
 have hj:=StopE.join a1 b2
 rw [<- List.map_append] at hj
 refine ⟨rfl,tk',op',V ++ V',how',p',u'.inn,by simp,⟨R',u',rfl,b1, .inl hj,b4,a6.foot w2 (fun q m => (a5.lt q m).1) b3 hD a8⟩,hj.math,stop_two hj.math,each_append fun j hj' => ?_⟩
 obtain ⟨b',k',c1,_⟩:=b2
 exact cut_each a3 a2 c1 j hj'
def CutF (w2:World) (D Q:Nat) (f:Nat -> Nat) (n:Nat) (w':World) : Prop :=
 ∃ R tk op V how p o inn,Drv w' D Q D R tk op V how p o inn /\ StopT f n true (V.map (·.tk)) how p /\ Below D w2 w'
theorem cut_last (h:CutP w2 D Q f n n true tk op V how p inn wr) (hf : ∀ j,f j < 256) (hn:n <= 1073741824) (hV:V.length <= 1073741824) :
 Calls Tryd.prog 12 #[.pointer (some ⟨Q,0,none⟩), .pointer (some ⟨D,0,none⟩), .int .i64 3] wr fun e w' => e = .returned (.bool true) /\ CutF w2 D Q f n w':=by
 obtain ⟨R,u,b,k,rfl,a1,a2,a3,a4,a5,a6,a7,a8⟩:=h
 have hD:D <= wr.heap.size:=Nat.le_trans a6.low (Nat.le_of_lt a6.lt)
 refine (drain_any a6 a5 a7 hf hn hV a4 3 (fun T2 u2 R2 w2 g => most_end a2 g) (by omega)).mono ?_
 rintro e w' ⟨rfl,V',u',R',tk',op',how',p',b1,b2,b3,b4⟩
 have hj:=StopE.join a1 b2
 rw [<- List.map_append] at hj
 exact ⟨rfl,R',tk',op',V ++ V',how',p',_,u'.inn,b1,hj.told,a6.foot w2 (fun q m => (a5.lt q m).1) b3 hD a8⟩
theorem cut_new_run {w3:World} (hT:Tb w2.heap.size w3) (hS:SC w3 w2.heap.size w2.heap.size f 0 (noSt (0,0,1,1) false) (noRaw (.slice none 0 0))) (hb:Below w2.heap.size w2 w3) :
 CutS w2 w2.heap.size w3.heap.size f 0 (.slice none 0 0) (.slice none 0 0) [] 0 (0,0,0,0) 0 (w3.alloc (.cells #[.slice none 0 0, .int .i64 0, .int .i64 0, .int .i64 0, .int .i64 0, .int .i64 0, .slice none 0 0, .int .i64 0] 36)):=by
 have hbA:Below w3.heap.size w3 (w3.alloc (.cells #[.slice none 0 0, .int .i64 0, .int .i64 0, .int .i64 0, .int .i64 0, .int .i64 0, .slice none 0 0, .int .i64 0] 36)):=(Below.refl _ _).alloc (Nat.le_refl _) _
 refine ⟨noRaw (.slice none 0 0), {},rfl,⟨heap_alloc_new w3 _,hb.size,World.ownsRow_nil _ _ _ _,World.ownsRow_nil _ _ _ _,fun t m => (by cases m),fun hq => ?_,fun q e => (by cases e),fun q e => (by cases e)⟩, .inr ⟨rfl,rfl,rfl,rfl,hS.below hbA⟩,hT.to (hbA.mono hb.size),hb.trans (hbA.mono hb.size)⟩
 have:=(hS.lt _ hq).2
 omega
end
theorem acells_at {l:List (List UInt8 × List UInt8)} {j:Nat} (h:j < l.length) : (acells l)[2 * j]? = some (.string ⟨(l[j]).1.toArray⟩) /\ (acells l)[2 * j + 1]? = some (.string ⟨(l[j]).2.toArray⟩):=by
 induction l generalizing j with
 | nil => simp at h
 | cons a r ih =>
   have e:acells (a :: r) = .string ⟨a.1.toArray⟩ :: .string ⟨a.2.toArray⟩ :: acells r:=rfl
   rw [e]
   cases j with
   | zero => exact ⟨rfl,rfl⟩
   | succ j =>
     have:=ih (j:=j) (by simpa using h)
     rw [show 2 * (j + 1)=2 * j + 1 + 1 by omega]
     simpa using this
theorem attr_cells {w:World} {B:Nat} {v:Value} {l:List (List UInt8 × List UInt8)} (h:w.ownsRow B 61 2 v l.length (acells l)) {j:Nat} (hj:j < l.length) : ∃ g cap,v = .slice (some ⟨g,0,none⟩) l.length cap /\ l.length <= cap /\ cap <= maxLen /\ g < w.heap.size /\ w.cell? ⟨g,j * 2,none⟩ = some (.string ⟨(l[j]).1.toArray⟩) /\ w.cell? ⟨g,j * 2 + 1,none⟩ = some (.string ⟨(l[j]).2.toArray⟩):=by
 rcases h.2 with ⟨_,e⟩ | ⟨g,cap,cur,e,_,hg,h1,h2,_⟩
 . omega
 . obtain ⟨a1,a2⟩:=acells_at hj
   refine ⟨g,cap,e,h1,h2,lt_of_heap hg, ?_, ?_⟩
   . have:=World.ownsRow.cells h (g:=g) (by rw [e]; rfl) (2 * j) _ a1
     rw [Addr.add_lit,Nat.zero_add,Nat.mul_comm] at this
     exact this
   . have:=World.ownsRow.cells h (g:=g) (by rw [e]; rfl) (2 * j + 1) _ a2
     rw [Addr.add_lit,Nat.zero_add,Nat.mul_comm] at this
     exact this
theorem alike_same {B:Nat} (w:World) (kind:Nat) (nm tx:List UInt8) (p q:Nat × Nat × Nat × Nat) (l:List (List UInt8 × List UInt8)) (v v':Value) (h1:w.ownsRow B 61 2 v l.length (acells l)) (h2:w.ownsRow B 61 2 v' l.length (acells l)) (hl:l.length <= 9223372036854775807) :
 Calls Tryd.prog 14 #[.agg (tokA kind nm v tx p q), .agg (tokA kind nm v' tx p q)] w fun e w' => e = .returned (.bool true) /\ Below w.heap.size w w':=by
 obtain ⟨pa,c,ev⟩:=own_shape h1
 obtain ⟨pb,c',ev'⟩:=own_shape h2
 obtain ⟨N,hN⟩ : ∃ N,l.length=N:=⟨_,rfl⟩
 have H1:=hide' h1
 have H2:=hide' h2
 rw [hN] at ev ev' hl
 have HV:=hide' ev
 have HV':=hide' ev'
 have HN:=hide' hN
 rw [ev,ev']
 clear h1 h2 ev ev' hN
 unfold tokA
 go_enter Tryd.func14,Tryd.ntmps14
 go_wp2
 go_loopw [5] (fun i wr => ∃ j:Nat,i = .int .i64 j /\ j <= N /\ Hid (Below w.heap.size w wr) /\ wr.cell? ⟨w.heap.size,2,none⟩ = some (.slice pa N c) /\ wr.cell? ⟨w.heap.size + 1,2,none⟩ = some (.slice pb N c')) (fun i _ => N - (RowKit.intOf i).toNat)
 case atStart => exact ⟨0,rfl,Nat.zero_le _,((Below.refl _ _).alloc (Nat.le_refl _) _).alloc (by simp) _,by go_simp,by go_simp⟩
 case round =>
  obtain ⟨j,rfl,hj,hb,hc1,hc2⟩:=hrel
  by_cases hlt:j < N
  . have i1:(j:Int) < (N:Int):=by omega
    have hN:=HN.out
    obtain ⟨ga,ca,e1,k1,k2,k3,k4,k5⟩:=attr_cells H1.out (j:=j) (by omega)
    obtain ⟨gb,cb,e2,m1,m2,m3,m4,m5⟩:=attr_cells H2.out (j:=j) (by omega)
    rw [HV.out,hN] at e1
    rw [HV'.out,hN] at e2
    cases e1
    cases e2
    rw [<- hb.out.cell (p:=⟨ga,j * 2,none⟩) k3] at k4
    rw [<- hb.out.cell (p:=⟨ga,j * 2 + 1,none⟩) k3] at k5
    rw [<- hb.out.cell (p:=⟨gb,j * 2,none⟩) m3] at m4
    rw [<- hb.out.cell (p:=⟨gb,j * 2 + 1,none⟩) m3] at m5
    generalize (l[j]'(by omega)).1.toArray=A1 at *
    generalize (l[j]'(by omega)).2.toArray=A2 at *
    clear k3 m3
    go_wp2
    go_quiet (fail)
    go_wp2
    refine ⟨⟨j + 1,by simp,by omega,below_drewN hb.out nq,hc1,hc2⟩, ?_⟩
    show N - ((j:Int) + 1).toNat < N - (j:Int).toNat
    omega
  . have i1 : ¬ (j:Int) < (N:Int):=by omega
    go_wp2
    go_ret
    exact ⟨rfl,hb.out⟩
theorem tcells_at {l:List TkV} {i:Nat} (h:i < l.length) {j:Nat} (hj:j < 12) : (tcells l)[12 * i + j]? = ((l[i]).arr)[j]? := by
 induction l generalizing i with
 | nil => simp at h
 | cons a r ih =>
   have e:tcells (a :: r)=a.arr.toList ++ tcells r:=by simp [tcells]
   have ea:a.arr.toList.length=12:=by simp [TkV.arr,tokA]
   rw [e]
   cases i with
   | zero =>
     rw [List.getElem?_append_left (by omega)]
     simp
   | succ i =>
     have:=ih (i:=i) (by simpa using h)
     rw [List.getElem?_append_right (by omega),ea,show 12 * (i + 1) + j - 12=12 * i + j by omega]
     simpa using this
theorem tok_cells {w:World} {B:Nat} {v:Value} {l:List TkV} (h:w.ownsRow B 43 12 v l.length (tcells l)) {i:Nat} (hi:i < l.length) : ∃ g cap,v = .slice (some ⟨g,0,none⟩) l.length cap /\ l.length <= cap /\ cap <= maxLen /\ g < w.heap.size /\ ∀ i,(hi:i < l.length) -> ∀ j x,((l[i]).arr)[j]? = some x -> w.cell? ⟨g,i * 12 + j,none⟩ = some x:=by
 rcases h.2 with ⟨_,e⟩ | ⟨g,cap,cur,e,_,hg,h1,h2,_⟩
 . omega
 . refine ⟨g,cap,e,h1,h2,lt_of_heap hg,fun i hi j x hx => ?_⟩
   have hj:j < 12:=by
    rcases Nat.lt_or_ge j 12 with k | k
    . exact k
    . rw [Array.getElem?_eq_none (by simp [TkV.arr,tokA]; omega)] at hx
      cases hx
   have:=World.ownsRow.cells h (g:=g) (by rw [e]; rfl) (12 * i + j) _ ((tcells_at hi hj).trans hx)
   rw [Addr.add_lit,Nat.zero_add,Nat.mul_comm] at this
   exact this
end Sc
end Go.Proofs.YteiiepjegdlbeaaDoor
