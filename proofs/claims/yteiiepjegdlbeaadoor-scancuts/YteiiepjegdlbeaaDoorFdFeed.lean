import Derived.Test.YteiiepjegdlbeaaDoorRnEnc
import Derived.LoopTactic
import Derived.Lib.SmallJoins
import Derived.Laws.AppendOwnNone
import Derived.Test.YteiiepjegdlbeaaDoorFdMath
import Derived.Deep.RegionHeld3
import Derived.Deep.QuietTactic
import Derived.BigQuiet
set_option maxHeartbeats 2000000
namespace Go.Proofs.YteiiepjegdlbeaaDoor
open Go.RowKit Go.Lib
theorem good_any (f:Nat -> Nat) (n b off cap:Nat) (w:World) (hT:Lib.Utf8Tabs 2 3 w) (hf : ∀ j,f j < 256) (hc:n <= cap) (hm:cap <= maxLen)
 (hp:Bytes w b off n f) :
 Calls Tryd.prog 85 #[.slice (some ⟨b,off,none⟩) n cap] w fun e w' => e = .returned (.int .i64 (Rn.good f n)) /\ Below w.heap.size w w':=by
 have hm':cap <= 9223372036854775807:=by unfold maxLen at hm; omega
 have hgl:=Rn.good_le f n
 have cN : ∀ k w1,k < n -> Below w.heap.size w w1 -> _:=fun k w1 hk hb => next_in f n b off cap k w1 (tabs_below hT hb (Nat.le_refl _)) hf hk hc hm (hp.below hb (Nat.le_refl _))
 have cE : ∀ w1,_:=fun w1 => next_done b off n cap w1 hc hm
 have cB : ∀ k w1,k < n -> Below w.heap.size w w1 -> Rn.whole (Rn.off f k) (n - k)=false -> _:=fun k w1 hk hb hw => beginning_any (Rn.off f k) (n - k) b (off + k) (cap - k) w1 (tabs_below hT hb (Nat.le_refl _)) (fun j => hf _) (by omega) (by omega) ((hp.below hb (Nat.le_refl _)).off (by omega)) hw
 clear hT hp
 go_enter Tryd.func85,Tryd.ntmps85
 go_wp2
 go_loopw [3] (fun i wr => ∃ (k fuel:Nat),i = .int .i64 k /\ k <= n /\ n <= k + fuel /\ Rn.goodFrom f n fuel k=Rn.good f n /\ Below w.heap.size w wr) (fun i _ => n - (RowKit.intOf i).toNat)
 case atStart => exact ⟨0,n,rfl,Nat.zero_le _,by omega,rfl,Below.refl _ _⟩
 case round =>
  obtain ⟨k,fuel,rfl,hk,hfu,hg,hb⟩:=hrel
  by_cases hlt:k < n
  . obtain ⟨m,rfl⟩ : ∃ m,fuel=m + 1:=⟨fuel - 1,by omega⟩
    have c:=cN k wr hlt hb
    unfold Rn.goodFrom at hg
    rw [if_neg (by omega)] at hg
    clear cN cE
    cases hwh:Rn.whole (Rn.off f k) (n - k)
    . simp only [hwh,Bool.false_eq_true,if_false] at hg
      have cb:=fun w1 hb1 => cB k w1 hlt hb1 hwh
      clear cB
      cases hwa:Rn.waits (Rn.off f k) (n - k)
      . rw [Rn.nx_bad (by omega) hwa hwh] at c
        have HG:Hid (k + Rn.fk (Rn.off f k) (n - k)=Rn.good f n):=hg
        clear hwa hwh hg
        have hle:=Rn.fk_le (Rn.off f k) (n - k)
        go_wp2_with fail
        refine c.mono ?_
        rintro e w1 ⟨rfl,hb1⟩
        go_wp2_with fail
        refine (cb w1 (hb.trans (hb1.mono hb.size))).mono ?_
        rintro e w2 ⟨rfl,hb2⟩
        go_wp2_with fail
        go_ret
        exact ⟨by rw [<- HG.out]; go_num,(hb.trans (hb1.mono hb.size)).trans (hb2.mono (hb.trans (hb1.mono hb.size)).size)⟩
      . obtain ⟨e1,e2⟩:=Rn.nx_waits hwa
        rw [e1] at c
        rw [e2] at hg
        have HG:Hid (k + (n - k)=Rn.good f n):=hg
        clear hwa hwh hg e1 e2 cb
        go_wp2_with fail
        refine c.mono ?_
        rintro e w1 ⟨rfl,hb1⟩
        go_wp2_with fail
        go_roundw
        case rel => exact ⟨n,m,by go_num,Nat.le_refl _,by omega,by rw [Rn.goodFrom_end _ _ _ _ (Nat.le_refl _), <- HG.out]; omega,hb.trans (hb1.mono hb.size)⟩
        case measure => simp [RowKit.intOf]; omega
    . simp only [hwh,if_true] at hg
      rw [Rn.nx_whole hwh] at c
      have HG:Hid (Rn.goodFrom f n m (k + Rn.fs (Rn.off f k) (n - k))=Rn.good f n):=hg
      have hle:=Rn.fk_le (Rn.off f k) (n - k)
      simp only [Rn.whole,decide_eq_true_eq] at hwh
      have hpos:=hwh.1
      have hle2:Rn.fs (Rn.off f k) (n - k) <= n - k:=by omega
      clear hg hwh cB hle
      generalize Rn.fs (Rn.off f k) (n - k)=q at *
      go_wp2_with fail
      refine c.mono ?_
      rintro e w1 ⟨rfl,hb1⟩
      go_wp2_with fail
      go_roundw
      case rel => exact ⟨k + q,m,by go_num,by omega,by omega,HG.out,hb.trans (hb1.mono hb.size)⟩
      case measure => simp [RowKit.intOf]; omega
  . obtain rfl:k=n:=by omega
    rw [Rn.goodFrom_end _ _ _ _ (Nat.le_refl _)] at hg
    have HG:Hid (k=Rn.good f k):=hg
    clear hg cN cB
    go_wp2_with fail
    refine (cE wr).mono ?_
    rintro e w1 ⟨rfl,rfl⟩
    go_wp2_with fail
    go_ret
    exact ⟨by rw [<- HG.out]; rfl,hb⟩
end Go.Proofs.YteiiepjegdlbeaaDoor
namespace Go.Proofs.YteiiepjegdlbeaaDoor
open Go.RowKit Go.Lib
namespace Rn
end Rn
end Go.Proofs.YteiiepjegdlbeaaDoor
namespace Go.Proofs.YteiiepjegdlbeaaDoor
open Go.RowKit Go.Lib
namespace Rn
end Rn
end Go.Proofs.YteiiepjegdlbeaaDoor
namespace Go.Proofs.YteiiepjegdlbeaaDoor
open Go.RowKit Go.Lib
namespace Rn
end Rn
structure But (D:Nat) (w w':World) : Prop where
 os:w'.os=w.os
 tape:w'.tape=w.tape
 output:w'.output=w.output
 size:w.heap.size <= w'.heap.size
 block : ∀ k,k < w.heap.size -> k ≠ D -> w'.heap[k]? = w.heap[k]?
theorem But.of_below {D:Nat} {w w':World} (h:Below w.heap.size w w') : But D w w' :=
 ⟨h.os,h.tape,h.output,h.size,fun k hk _ => h.block k hk⟩
theorem But.trans {D:Nat} {a b c:World} (h:But D a b) (k:But D b c) : But D a c :=
 ⟨k.os.trans h.os,k.tape.trans h.tape,k.output.trans h.output,Nat.le_trans h.size k.size,fun i hi hn => (k.block i (Nat.lt_of_lt_of_le hi h.size) hn).trans (h.block i hi hn)⟩
theorem But.setCell {D:Nat} {w w':World} {p:Addr} (h:But D w w') (hp:p.block=D) (v:Value) : But D w (w'.setCell p v):=by
 have hb:=(Below.refl 0 w').setCell (p:=p) (Nat.zero_le _) v
 exact ⟨hb.os.trans h.os,hb.tape.trans h.tape,hb.output.trans h.output,Nat.le_trans h.size hb.size,fun k hk hn => (Below.heap_setCell w' p v k (by rw [hp]; exact hn)).trans (h.block k hk hn)⟩
end Go.Proofs.YteiiepjegdlbeaaDoor
namespace Go.Proofs.YteiiepjegdlbeaaDoor
open Go.RowKit Go.Lib
def xs (x:Nat -> Nat) (n:Nat) : List Value:=(List.range n).map fun j => .int .u8 (x j)
theorem xs_length (x:Nat -> Nat) (n:Nat) : (xs x n).length=n:=by simp [xs]
theorem xs_get (x:Nat -> Nat) (n j:Nat) (u:Value) (h:(xs x n)[j]? = some u) : j < n /\ u = .int .u8 (x j):=by
 unfold xs at h
 rw [List.getElem?_map] at h
 rcases Nat.lt_or_ge j n with hj | hj
 . rw [List.getElem?_range hj] at h
   simp at h
   exact ⟨hj,h.symm⟩
 . rw [List.getElem?_eq_none (by simpa using hj)] at h
   cases h
theorem xs_at (x:Nat -> Nat) (n j:Nat) (h:j < n) : (xs x n)[j]? = some (.int .u8 (x j)):=by
 unfold xs
 rw [List.getElem?_map,List.getElem?_range h]
 rfl
theorem bytes_of_owns {w:World} {B g n cap:Nat} {x:Nat -> Nat} (h:w.ownsRow B 5 1 (.slice (some ⟨g,0,none⟩) n cap) n (xs x n)) : Bytes w g 0 n x:=by
 intro j hj
 have:=h.cells (g:=g) rfl j _ (xs_at x n j hj)
 rw [show (Addr.add ⟨g,0,none⟩ j)=⟨g,0 + j,none⟩ by simp [Addr.add]; omega] at this
 exact this
theorem infoByte':(Tryd.prog.info? 5).map (fun i => (i.zero,i.size,i.bytes))=some (some (.int .u8 0),1,1):=by kernel_rfl
theorem one_cell (x:Nat -> Nat) (n:Nat) : ∀ u ∈ xs x n,u.oneCell'=true:=by
 intro u hu
 unfold xs at hu
 obtain ⟨j,_,rfl⟩:=List.mem_map.1 hu
 rfl
theorem kept_grown {w w':World} {B:Nat} {e:TypeId} {size:Nat} {v:Value} {n:Nat} {ys:List Value} (h:w.ownsRow B e size v n ys) (hk : ∀ g,v.ownBlock=some g -> w'.heap[g]? = w.heap[g]?) : w'.ownsRow B e size v n ys:=by
 refine ⟨h.1, ?_⟩
 rcases h.2 with h1 | ⟨g,cap,cur,hv,hb,hg,rest⟩
 . exact .inl h1
 . exact .inr ⟨g,cap,cur,hv,hb,(hk g (by rw [hv]; rfl)).trans hg,rest⟩
theorem _root_.Go.World.ownsRow.kept_below {w w':World} {B:Nat} {e:TypeId} {size:Nat} {v:Value} {n:Nat} {ys:List Value} (h:w.ownsRow B e size v n ys) (hb:Below w.heap.size w w') : w'.ownsRow B e size v n ys :=
 kept_grown h fun g hg => hb.block g (h.lt g hg).2
theorem _root_.Go.World.ownsRow.setOther {w:World} {B:Nat} {e:TypeId} {size:Nat} {v:Value} {n:Nat} {ys:List Value} (h:w.ownsRow B e size v n ys) {k i:Nat} (hk:v.ownBlock ≠ some k) (u:Value) : (w.setCell ⟨k,i,none⟩ u).ownsRow B e size v n ys :=
 kept_grown h fun g hg => Below.heap_setCell w ⟨k,i,none⟩ u g (fun e => hk (by rw [hg]; exact congrArg some e))
namespace Rn
end Rn
end Go.Proofs.YteiiepjegdlbeaaDoor
namespace Go.Proofs.YteiiepjegdlbeaaDoor
open Go.RowKit Go.Lib
def FeedAt (w:World) (D B:Nat) (v:Value) (g:Nat -> Nat) (n k wh pb pr pl pc:Nat) (bad ended:Bool) : Prop :=
 w.heap[D]? = some (.cells #[v, .int .i64 k, .int .i64 wh, .int .i64 pb, .int .i64 pr, .int .i64 pl, .int .i64 pc, .bool bad, .bool ended] 95 (0,0)) /\ w.ownsRow B 5 1 v n (xs g n)
theorem FeedAt.block_ne {w:World} {D B:Nat} {v:Value} {g:Nat -> Nat} {n k wh pb pr pl pc:Nat} {bad ended:Bool} (h:FeedAt w D B v g n k wh pb pr pl pc bad ended) : v.ownBlock ≠ some D:=by
 intro e
 rcases h.2.2 with ⟨h1,_⟩ | ⟨q,cap,cur,hv,hb,hg,rest⟩
 . rw [h1] at e; cases e
 . rw [hv] at e
   have:q=D:=Option.some.inj e
   subst this
   have:=h.1
   rw [hg] at this
   simp at this
theorem FeedAt.cell {w:World} {D B:Nat} {v:Value} {g:Nat -> Nat} {n k wh pb pr pl pc:Nat} {bad ended:Bool} (h:FeedAt w D B v g n k wh pb pr pl pc bad ended) :
 w.cell? ⟨D,0,none⟩ = some v /\ w.cell? ⟨D,1,none⟩ = some (.int .i64 k) /\ w.cell? ⟨D,2,none⟩ = some (.int .i64 wh) /\ w.cell? ⟨D,3,none⟩ = some (.int .i64 pb) /\ w.cell? ⟨D,4,none⟩ = some (.int .i64 pr) /\ w.cell? ⟨D,5,none⟩ = some (.int .i64 pl) /\ w.cell? ⟨D,6,none⟩ = some (.int .i64 pc) /\ w.cell? ⟨D,7,none⟩ = some (.bool bad) /\ w.cell? ⟨D,8,none⟩ = some (.bool ended):=by
 refine ⟨?_, ?_, ?_, ?_, ?_, ?_, ?_, ?_, ?_⟩ <;> (rw [Lib.cell_of_heap h.1]; rfl)
theorem FeedAt.fz {w:World} {D B:Nat} {v:Value} {g:Nat -> Nat} {n k wh pb pr pl pc:Nat} {bad ended:Bool} (h:FeedAt w D B v g n k wh pb pr pl pc bad ended) (i:Nat) : w.frozen? ⟨D,i,none⟩ = false:=Lib.frozen_of_heap h.1 i
theorem FeedAt.lt {w:World} {D B:Nat} {v:Value} {g:Nat -> Nat} {n k wh pb pr pl pc:Nat} {bad ended:Bool} (h:FeedAt w D B v g n k wh pb pr pl pc bad ended) : D < w.heap.size:=block_lt_of_cell h.cell.1
theorem FeedAt.below {w w':World} {D B:Nat} {v:Value} {g:Nat -> Nat} {n k wh pb pr pl pc:Nat} {bad ended:Bool} (h:FeedAt w D B v g n k wh pb pr pl pc bad ended) (hb:Below w.heap.size w w') : FeedAt w' D B v g n k wh pb pr pl pc bad ended :=
 ⟨(hb.block D h.lt).trans h.1,h.2.kept_below hb⟩
theorem feedNew_any (w:World) (g:Nat -> Nat) (B:Nat) :
 Calls Tryd.prog 44 #[] w fun e w' => e = .returned (.pointer (some ⟨w.heap.size,0,none⟩)) /\ FeedAt w' w.heap.size B (.slice none 0 0) g 0 0 0 0 0 1 1 false false /\ Below w.heap.size w w' /\ w.heap.size < w'.heap.size:=by
 go_enter Tryd.func44,Tryd.ntmps44
 go_wp2
 go_ret
 refine ⟨rfl,⟨?_,World.ownsRow_nil _ _ _ _⟩,(Below.refl _ _).alloc (Nat.le_refl _) _,by simp⟩
 show (w.heap.push _)[w.heap.size]? = _
 simp
section
variable {D B:Nat} {v:Value} {g:Nat -> Nat} {n k wh pb pr pl pc:Nat} {bad ended:Bool} {w:World}
theorem feedWrong_any (h:FeedAt w D B v g n k wh pb pr pl pc bad ended) (m:Nat) (h1:pb + m < 9223372036854775808) (h2:pr + m < 9223372036854775808) (h3:pc + m < 9223372036854775808) :
 Calls Tryd.prog 84 #[.pointer (some ⟨D,0,none⟩), .int .i64 m] w fun e w' => e = .returned (.tuple #[.agg #[.int .i32 0, .int .i64 (pb + m:Nat), .int .i64 (pr + m:Nat), .int .i64 pl, .int .i64 (pc + m:Nat), .int .i64 0], .int .i64 2]) /\ Below w.heap.size w w':=by
 obtain ⟨_,_,_,c3,c4,c5,c6,_,_⟩:=h.cell
 have hlt:=h.lt
 clear h
 go_enter Tryd.func84,Tryd.ntmps84
 go_wp2
 exact bodyPost_ret (v := .tuple #[.agg #[.int .i32 0, .int .i64 (pb + m:Nat), .int .i64 (pr + m:Nat), .int .i64 pl, .int .i64 (pc + m:Nat), .int .i64 0], .int .i64 2]) (by simp [results,Tryd.results84,go_sem]) rfl ⟨rfl,((Below.refl _ _).alloc (Nat.le_refl _) _).alloc (by simp) _⟩
theorem feedTake_nl (h:FeedAt w D B v g n k wh pb pr pl pc bad ended) (z qb qr ql qc:Nat) (h0:k + z < 9223372036854775808) (h1:pb + z < 9223372036854775808) (h2:pr + z < 9223372036854775808) (h3:pl + 1 < 9223372036854775808) :
 Calls Tryd.prog 75 #[.pointer (some ⟨D,0,none⟩), .agg #[.int .i32 10, .int .i64 qb, .int .i64 qr, .int .i64 ql, .int .i64 qc, .int .i64 z]] w fun e w' => e = .returned (.tuple #[]) /\ FeedAt w' D B v g n (k + z) wh (pb + z) (pr + z) (pl + 1) 1 bad ended /\ But D w w':=by
 obtain ⟨c0,c1,c2,c3,c4,c5,c6,c7,c8⟩:=h.cell
 have f1:=h.fz 1
 have f3:=h.fz 3
 have f4:=h.fz 4
 have f5:=h.fz 5
 have f6:=h.fz 6
 have hlt:=h.lt
 have hne:w.heap.size ≠ D:=by omega
 have H:=hide' h
 clear h
 go_enter Tryd.func75,Tryd.ntmps75
 go_wp2
 go_region
 go_wp2
 go_region
 go_wp2
 go_region
 go_wp2
 first | go_end0 | (simp only [Exit.inBlock,Exit.then]; refine bodyPost_ret (results_none rfl _ _ _) rfl ?_) | refine bodyPost_ret (results_none rfl _ _ _) rfl ?_
 have hn:=H.out.block_ne
 refine ⟨rfl,FeedAt.below ⟨Go.Joins.block_setCell (i:=6) (Go.Joins.block_setCell (i:=5) (Go.Joins.block_setCell (i:=4) (Go.Joins.block_setCell (i:=3) (Go.Joins.block_setCell (i:=1) H.out.1 _) _) _) _) _,
  ((((H.out.2.setOther hn _).setOther hn _).setOther hn _).setOther hn _).setOther hn _⟩ (((((Below.refl _ _).alloc (Nat.le_refl _) _).drew).drew).drew), ?_⟩
 exact (((((((But.of_below (Below.refl _ _)).setCell (p:=⟨D,1,none⟩) rfl _).setCell (p:=⟨D,3,none⟩) rfl _).setCell (p:=⟨D,4,none⟩) rfl _).setCell (p:=⟨D,5,none⟩) rfl _).setCell (p:=⟨D,6,none⟩) rfl _)).trans (But.of_below (((((Below.refl _ _).alloc (Nat.le_refl _) _).drew).drew).drew))
theorem feedTake_ch (h:FeedAt w D B v g n k wh pb pr pl pc bad ended) (r z qb qr ql qc:Nat) (hr:r ≠ 10) (h0:k + z < 9223372036854775808) (h1:pb + z < 9223372036854775808) (h2:pr + 1 < 9223372036854775808) (h3:pc + 1 < 9223372036854775808) :
 Calls Tryd.prog 75 #[.pointer (some ⟨D,0,none⟩), .agg #[.int .i32 r, .int .i64 qb, .int .i64 qr, .int .i64 ql, .int .i64 qc, .int .i64 z]] w fun e w' => e = .returned (.tuple #[]) /\ FeedAt w' D B v g n (k + z) wh (pb + z) (pr + 1) pl (pc + 1) bad ended /\ But D w w':=by
 obtain ⟨c0,c1,c2,c3,c4,c5,c6,c7,c8⟩:=h.cell
 have f1:=h.fz 1
 have f3:=h.fz 3
 have f4:=h.fz 4
 have f6:=h.fz 6
 have hlt:=h.lt
 have hne:w.heap.size ≠ D:=by omega
 have hr':((r:Int) == 10)=false:=by simp; omega
 have H:=hide' h
 clear h hr
 go_enter Tryd.func75,Tryd.ntmps75
 go_wp2
 go_region
 go_wp2
 go_region
 go_wp2
 first | go_end0 | (simp only [Exit.inBlock,Exit.then]; refine bodyPost_ret (results_none rfl _ _ _) rfl ?_) | refine bodyPost_ret (results_none rfl _ _ _) rfl ?_
 have hn:=H.out.block_ne
 refine ⟨rfl,FeedAt.below ⟨Go.Joins.block_setCell (i:=6) (Go.Joins.block_setCell (i:=4) (Go.Joins.block_setCell (i:=3) (Go.Joins.block_setCell (i:=1) H.out.1 _) _) _) _,
  (((H.out.2.setOther hn _).setOther hn _).setOther hn _).setOther hn _⟩ ((((Below.refl _ _).alloc (Nat.le_refl _) _).drew).drew), ?_⟩
 exact ((((((But.of_below (Below.refl _ _)).setCell (p:=⟨D,1,none⟩) rfl _).setCell (p:=⟨D,3,none⟩) rfl _).setCell (p:=⟨D,4,none⟩) rfl _).setCell (p:=⟨D,6,none⟩) rfl _)).trans (But.of_below ((((Below.refl _ _).alloc (Nat.le_refl _) _).drew).drew))
theorem owns_row {w:World} {B n:Nat} {v:Value} {f:Nat -> Nat} (h:w.ownsRow B 5 1 v n (xs f n)) :
 (v = .slice none 0 0 /\ n=0) \/ ∃ q cap,v = .slice (some ⟨q,0,none⟩) n cap /\ B <= q /\ q < w.heap.size /\ n <= cap /\ cap <= maxLen /\ Bytes w q 0 n f:=by
 rcases h.2 with h1 | ⟨q,cap,cur,hv,hb,hg,h2,h3,h4,h5⟩
 . exact .inl h1
 . right
   subst hv
   exact ⟨q,cap,rfl,hb,(h.lt q rfl).2,h2,h3,bytes_of_owns h⟩
end
end Go.Proofs.YteiiepjegdlbeaaDoor
