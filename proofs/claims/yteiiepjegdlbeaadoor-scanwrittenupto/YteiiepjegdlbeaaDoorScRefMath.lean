import Derived.Test.YteiiepjegdlbeaaDoorScNx
import Derived.Deep.AppendLies
import Derived.Deep.RegionLaw
import Derived.BigRegion
import Derived.Scope
import Derived.ScopeJumps
set_option maxHeartbeats 4000000
set_option maxRecDepth 10000
namespace Go.Proofs.YteiiepjegdlbeaaDoor
open Go.RowKit Go.Lib
namespace Sc
theorem conv_owned' {w:World} {B:Nat} {v:Value} {l:List UInt8} (h:w.ownsRow B 5 1 v l.length (byteCells l)) : (convert 22 9 v).run Tryd.prog w = .ok (.string ⟨l.toArray⟩) w:=by
 rcases h.2 with ⟨e1,e2⟩ | ⟨g,cap,cur,hv,hb,hg,h1,h2,h3,h4⟩
 . obtain rfl:l = []:=List.eq_nil_of_length_eq_zero e2
   rw [e1,conv_nil (fun _ => 0)]
   rfl
 . subst hv
   have hc:=run_convert_bytes_back (P:=Tryd.prog) w 22 9 5 ⟨g,0,none⟩ cap l Tryd.underlying22 Tryd.underlying5 Tryd.underlying9 (fun j hj => by
    have:=h.cells (g:=g) rfl j (.int .u8 (l[j].toNat:Nat)) (by simp [byteCells,hj])
    exact this)
   exact hc
section
variable {w:World} {D B n:Nat} {f:Nat -> Nat} {S:St} {R:Raw}
theorem row_take {w:World} {B:Nat} {v:Value} {l:List UInt8} (h:RowB w B v l) (m:Nat) (hm:m <= l.length) : ∃ g cap,(v = .slice none 0 0 /\ l = []) \/ (v = .slice (some ⟨g,0,none⟩) l.length cap /\ l.length <= cap /\ cap <= maxLen /\ RowB w B (.slice (some ⟨g,0,none⟩) m cap) (l.take m)):=by
 rcases h.2 with ⟨e1,e2⟩ | ⟨g,cap,cur,hv,hb,hg,h1,h2,h3,h4⟩
 . exact ⟨0,0, .inl ⟨e1,List.eq_nil_of_length_eq_zero e2⟩⟩
 . refine ⟨g,cap, .inr ⟨hv,h1,h2,⟨by simp [byteCells], .inr ⟨g,cap,cur,by rw [List.length_take,Nat.min_eq_left hm],hb,hg,by rw [List.length_take]; omega,h2,h3, ?_⟩⟩⟩⟩
   have e:byteCells (l.take m)=(byteCells l).take m:=by simp [byteCells]
   rw [e, <- h4,List.length_take,Nat.min_eq_left hm,List.take_take,Nat.mul_one,Nat.mul_one,Nat.min_eq_left hm]
theorem tl (l:List UInt8) : (⟨l.toArray⟩ : ByteArray).toList=l:=by rw [ByteArray.toList_mk]
theorem drop_any (h:SC w D B f n S R) (hl:S.k.ref.length <= 140737488355328) :
 Calls Tryd.prog 68 #[.pointer (some ⟨D,0,none⟩)] w fun e w' => e = .returned (.tuple #[]) /\ ∃ R',SC w' D B f n (S.wk { S.k with ref:=nought S.k.ref }) R' /\ To D R w R' w' /\ R' = { R with ref:=R'.ref }:=by
 have c21:=h.c21
 have f21:=h.fz 21
 have hr:=h.ref
 have hcv:=conv_owned' hr
 obtain ⟨pa,cap,er⟩:=own_shape hr
 have htl:=tl S.k.ref
 have H:=hide' h
 by_cases hn:S.k.ref = [38,35,48,48] \/ S.k.ref = [38,35,120,48,48]
 . obtain ⟨g,cap',hg⟩:=row_take hr (S.k.ref.length - 1) (by omega)
   have hpos:0 < S.k.ref.length:=by rcases hn with e | e <;> (rw [e]; decide)
   rcases hg with ⟨_,e⟩ | ⟨e,hc1,hc2,hrow⟩
   . rw [e] at hpos
     exact absurd hpos (by decide)
   . have hm':cap' <= 9223372036854775807:=by unfold maxLen at hc2; omega
     have i1:(0:Int) <= (S.k.ref.length:Int) - 1:=by omega
     have i2:(S.k.ref.length:Int) - 1 <= cap':=by omega
     have i3:((S.k.ref.length:Int) - 1).toNat=S.k.ref.length - 1:=by omega
     have hg:Grew w R.ref w (.slice (some ⟨g,0,none⟩) (S.k.ref.length - 1) cap'):=⟨rfl,rfl,rfl,Nat.le_refl _,fun _ _ _ => rfl, .inl (by rw [e]; rfl)⟩
     have hs:=(h.drew).ref' (w1:=w.drew) (v' := .slice (some ⟨g,0,none⟩) (S.k.ref.length - 1) cap') ⟨rfl,rfl,rfl,Nat.le_refl _,fun _ _ _ => rfl, .inl (by rw [e]; rfl)⟩ hrow
     have hto:=((To.refl D R w).drew).trans (To.ref' (D:=D) (R:=R) (w:=w.drew) (w1:=w.drew) (v' := .slice (some ⟨g,0,none⟩) (S.k.ref.length - 1) cap') ⟨rfl,rfl,rfl,Nat.le_refl _,fun _ _ _ => rfl, .inl (by rw [e]; rfl)⟩)
     have HS:=hide' hs
     have HTo:=hide' hto
     rw [e] at c21 hcv
     have eS:S.wk { S.k with ref:=nought S.k.ref } = { S with k := { S.k with ref:=S.k.ref.take (S.k.ref.length - 1) } }:=by
      unfold St.wk nought
      rw [if_pos hn,List.dropLast_eq_take]
     rw [eS]
     have hn':(⟨S.k.ref.toArray⟩ : ByteArray).toList = [38,35,48,48] \/ (¬ (⟨S.k.ref.toArray⟩ : ByteArray).toList = [38,35,48,48] /\ (⟨S.k.ref.toArray⟩ : ByteArray).toList = [38,35,120,48,48]):=by
      rw [htl]
      rcases hn with e1 | e1
      . exact .inl e1
      . exact .inr ⟨by rw [e1]; decide,e1⟩
     clear h hr hs hto er eS hn htl hrow hg
     rcases hn' with e1 | ⟨e1,e2⟩
     . go_enter Tryd.func68,Tryd.ntmps68
       go_wp2_with fail
       go_region
       go_wp2_with fail
       first | go_end0 | (simp only [Exit.inBlock,Exit.then]; refine bodyPost_ret (results_none rfl _ _ _) rfl ?_) | refine bodyPost_ret (results_none rfl _ _ _) rfl ?_
       exact ⟨rfl,_,HS.out,HTo.out,rfl⟩
     . go_enter Tryd.func68,Tryd.ntmps68
       go_wp2_with fail
       go_region
       go_wp2_with fail
       first | go_end0 | (simp only [Exit.inBlock,Exit.then]; refine bodyPost_ret (results_none rfl _ _ _) rfl ?_) | refine bodyPost_ret (results_none rfl _ _ _) rfl ?_
       exact ⟨rfl,_,HS.out,HTo.out,rfl⟩
 . have e1 : ¬ (⟨S.k.ref.toArray⟩ : ByteArray).toList = [38,35,48,48]:=by rw [htl]; exact fun e => hn (.inl e)
   have e2 : ¬ (⟨S.k.ref.toArray⟩ : ByteArray).toList = [38,35,120,48,48]:=by rw [htl]; exact fun e => hn (.inr e)
   have e3:(S.k.ref == [38,35,48,48])=false:=by simp only [beq_eq_false_iff_ne]; exact fun e => hn (.inl e)
   have e4:(S.k.ref == [38,35,120,48,48])=false:=by simp only [beq_eq_false_iff_ne]; exact fun e => hn (.inr e)
   have eS:S.wk { S.k with ref:=nought S.k.ref } = S:=by
    unfold St.wk nought
    rw [if_neg hn]
   rw [eS]
   rw [er] at c21 hcv
   clear h hr er eS hn htl hl
   go_enter Tryd.func68,Tryd.ntmps68
   go_wp2_with fail
   first | go_end0 | (simp only [Exit.inBlock,Exit.then]; refine bodyPost_ret (results_none rfl _ _ _) rfl ?_) | refine bodyPost_ret (results_none rfl _ _ _) rfl ?_
   exact ⟨rfl,R,H.out,To.refl _ _ _,rfl⟩
end
end Sc
end Go.Proofs.YteiiepjegdlbeaaDoor
namespace Go.Proofs.YteiiepjegdlbeaaDoor
namespace Sc
def Cur:Nat -> (List Value -> Prop) -> Prop
 | 0,C => C []
 | n + 1,C => ∀ u,Cur n fun l => C (u :: l)
theorem cur_all : ∀ (n:Nat) (C:List Value -> Prop),Cur n C -> ∀ l,l.length=n -> C l
 | 0,C,h,l,e => by rw [List.eq_nil_of_length_eq_zero e]; exact h
 | n + 1,C,h,u :: l,e => cur_all n (fun l => C (u :: l)) (h u) l (by simpa using e)
 | n + 1,C,h, [],e => by simp at e
theorem frame66 {C:Array Value -> Prop} (h : ∀ u0 u1 u2 u3 u4 u5 u6 u7 u8 u9 u10 u11 u12 u13 u14 u15 u16 u17 u18 u19 u20 u21 u22 u23 u24 u25 u26 u27 u28 u29 u30 u31 u32 u33 u34 u35 u36 u37 u38 u39 u40 u41 u42 u43 u44 u45 u46 u47 u48 u49 u50 u51 u52 u53 u54 u55 u56 u57 u58 u59 u60 u61 u62 u63 u64 u65:Value,C (List.toArray (u0 :: u1 :: u2 :: u3 :: u4 :: u5 :: u6 :: u7 :: u8 :: u9 :: u10 :: u11 :: u12 :: u13 :: u14 :: u15 :: u16 :: u17 :: u18 :: u19 :: u20 :: u21 :: u22 :: u23 :: u24 :: u25 :: u26 :: u27 :: u28 :: u29 :: u30 :: u31 :: u32 :: u33 :: u34 :: u35 :: u36 :: u37 :: u38 :: u39 :: u40 :: u41 :: u42 :: u43 :: u44 :: u45 :: u46 :: u47 :: u48 :: u49 :: u50 :: u51 :: u52 :: u53 :: u54 :: u55 :: u56 :: u57 :: u58 :: u59 :: u60 :: u61 :: u62 :: u63 :: u64 :: u65 :: []))) (t:Array Value) (hs:t.size=66) : C t:=cur_all 66 (fun l => C l.toArray) h t.toList hs
theorem frame117 {C:Array Value -> Prop} (h : ∀ u0 u1 u2 u3 u4 u5 u6 u7 u8 u9 u10 u11 u12 u13 u14 u15 u16 u17 u18 u19 u20 u21 u22 u23 u24 u25 u26 u27 u28 u29 u30 u31 u32 u33 u34 u35 u36 u37 u38 u39 u40 u41 u42 u43 u44 u45 u46 u47 u48 u49 u50 u51 u52 u53 u54 u55 u56 u57 u58 u59 u60 u61 u62 u63 u64 u65 u66 u67 u68 u69 u70 u71 u72 u73 u74 u75 u76 u77 u78 u79 u80 u81 u82 u83 u84 u85 u86 u87 u88 u89 u90 u91 u92 u93 u94 u95 u96 u97 u98 u99 u100 u101 u102 u103 u104 u105 u106 u107 u108 u109 u110 u111 u112 u113 u114 u115 u116:Value,C (List.toArray (u0 :: u1 :: u2 :: u3 :: u4 :: u5 :: u6 :: u7 :: u8 :: u9 :: u10 :: u11 :: u12 :: u13 :: u14 :: u15 :: u16 :: u17 :: u18 :: u19 :: u20 :: u21 :: u22 :: u23 :: u24 :: u25 :: u26 :: u27 :: u28 :: u29 :: u30 :: u31 :: u32 :: u33 :: u34 :: u35 :: u36 :: u37 :: u38 :: u39 :: u40 :: u41 :: u42 :: u43 :: u44 :: u45 :: u46 :: u47 :: u48 :: u49 :: u50 :: u51 :: u52 :: u53 :: u54 :: u55 :: u56 :: u57 :: u58 :: u59 :: u60 :: u61 :: u62 :: u63 :: u64 :: u65 :: u66 :: u67 :: u68 :: u69 :: u70 :: u71 :: u72 :: u73 :: u74 :: u75 :: u76 :: u77 :: u78 :: u79 :: u80 :: u81 :: u82 :: u83 :: u84 :: u85 :: u86 :: u87 :: u88 :: u89 :: u90 :: u91 :: u92 :: u93 :: u94 :: u95 :: u96 :: u97 :: u98 :: u99 :: u100 :: u101 :: u102 :: u103 :: u104 :: u105 :: u106 :: u107 :: u108 :: u109 :: u110 :: u111 :: u112 :: u113 :: u114 :: u115 :: u116 :: []))) (t:Array Value) (hs:t.size=117) : C t:=cur_all 117 (fun l => C l.toArray) h t.toList hs
end Sc
end Go.Proofs.YteiiepjegdlbeaaDoor
namespace Go.Proofs.YteiiepjegdlbeaaDoor
open Go.RowKit Go.Lib
namespace Sc
def psOf (w:World) (D:Nat) : Nat:=match w.cell? ⟨D,16,none⟩ with | some (.int _ k) => k.toNat | _ => 0
theorem psOf_eq {w:World} {D x:Nat} (h:w.cell? ⟨D,16,none⟩ = some (.int .i64 (x:Nat))) : psOf w D=x:=by
 unfold psOf
 rw [h]
 simp
def refRun (f:Nat -> Nat) (n:Nat) : Nat -> Wk -> Nat × Nat × Wk
 | 0,k => (1,0,k)
 | m + 1,k =>
   if (Rf.rd (Rn.lf (k.ref ++ [(f k.ps).toUInt8])) (k.ref.length + 1)).2.2=2 then (2,0, { k with ref:=k.ref ++ [(f k.ps).toUInt8] }.fails k.ps)
   else if (Rf.rd (Rn.lf (k.ref ++ [(f k.ps).toUInt8])) (k.ref.length + 1)).2.2=0 then (0,(Rf.rd (Rn.lf (k.ref ++ [(f k.ps).toUInt8])) (k.ref.length + 1)).1, { k with ref:=k.ref ++ [(f k.ps).toUInt8],ps:=k.ps + 1 })
   else refRun f n m { k with ref:=nought (k.ref ++ [(f k.ps).toUInt8]),ps:=k.ps + 1 }
def RfE (e:Ending) (v:Nat × Nat × Wk) : Prop:=e=if v.1=0 then .returned (.tuple #[.int .i32 (v.2.1:Nat), .bool true]) else .returned (.tuple #[.int .i32 0, .bool false])
section
variable {w:World} {D B n:Nat} {f:Nat -> Nat} {S:St} {R:Raw} {d:Nat}
theorem refer_any (h:SC w D B f n S R) (hy:Rdy w B n f S R d) (h1:S.k.how=1) (hps:S.fed=S.k.ps) (hl:S.k.ref.length <= S.k.ps) :
 Calls Tryd.prog 51 #[.pointer (some ⟨D,0,none⟩)] w fun e w' => RfE e (refRun f n (n - S.k.ps) S.k) /\ ∃ R',Went w D B f n S R d w' (refRun f n (n - S.k.ps) S.k).2.2 (refRun f n (n - S.k.ps) S.k).2.2.ps R':=by
 obtain ⟨Z,hZ⟩ : ∃ Z,refRun f n (n - S.k.ps) S.k=Z:=⟨_,rfl⟩
 rw [hZ]
 have hst:Went w D B f n S R d w S.k S.k.ps R:=by
  have e:Stt S S.k.ps S.k=S:=by
   have q1:=hy.q
   have q2:=hy.e
   unfold Stt
   cases S
   simp only at hps q1 q2
   subst hps q1 q2
   rfl
  refine ⟨by rw [e]; exact h,To.refl _ _ _,by rw [e]; exact hy,fun k => by omega,rfl⟩
 have HY:=hide' hy
 have HH:=hide' h
 have HZ:=hide' hZ
 have HST:=hide' hst
 clear hZ hst h hy
 go_enter Tryd.func51,Tryd.ntmps51
 go_wp2
 go_loopw [] (fun wr => ∃ (k:Wk) (Rr:Raw),Went w D B f n S R d wr k k.ps Rr /\ k.how=1 /\ k.ref.length <= k.ps /\ Hid (refRun f n (n - k.ps) k=Z)) (fun wr => n - psOf wr D)
 case atStart => exact ⟨S.k,R,HST.out,h1,hl,HZ.out⟩
 case round =>
  obtain ⟨k,Rr,hW,hk1,hkl,hkz⟩:=hrel
  have d0:=hW.sc.c0
  have d16:=hW.sc.c16
  have d21:=hW.sc.c21
  have hbig:=HY.out.big
  have hkn:k.ps <= n:=hW.rdy.fn
  by_cases hpn:k.ps < n
  . obtain ⟨q, o, cap, er, hc, hm, hby⟩ : ∃ q o cap, Rr.rest = .slice (some ⟨q, o, none⟩) n cap ∧ n ≤ cap ∧ cap ≤ maxLen ∧ Bytes wr q o n f := by
     rcases hW.sc.rest.sl with ⟨_,e⟩ | e
     . omega
     . exact e
    have hb1:=hby k.ps hpn
    have hm':cap <= 9223372036854775807:=by unfold maxLen at hm; omega
    obtain ⟨pr,cr,err⟩:=own_shape hW.sc.ref
    rw [er] at d0
    rw [err] at d21
    have i1:(k.ps:Int) < n:=by omega
    have i2:(0:Int) <= k.ps:=by omega
    have HW:=hide' hW
    have HKZ:=hkz
    dsimp only [Stt] at d16
    clear hW hby hm hkz
    go_wp2
    go_quiet (fail)
    go_wp2
    have hS0:=HW.out.sc.drewN nq
    have hT0:=HW.out.go.drewN nq
    have hw0:Hid (Rdy wr B n f (Stt S k.ps k) Rr d):=HW.out.rdy
    have hb0:(wr.drewN nq).cell? ⟨q,o + k.ps,none⟩ = some (.int .u8 (f k.ps)):=hb1
    generalize wr.drewN nq=W at *
    have y0:=hS0.c0
    rw [er] at y0
    have y16:=hS0.c16
    have y21:=hS0.c21
    rw [err] at y21
    have z21:=hS0.fz 21
    have hDl:=hS0.lt0
    dsimp only [Stt] at y16
    obtain ⟨i0,hi,hz0,hz1,hz2⟩:=info_parts scByte
    have hown0:W.drew.ownsRow B 5 1 (.slice pr k.ref.length cr) k.ref.length (byteCells k.ref):=by
     have:=hS0.ref
     rw [err] at this
     exact this
    have HOWN:=hide' hown0
    have HS0:=hide' hS0
    have HT0:=hide' hT0
    have hBW:B <= W.heap.size:=Nat.le_trans hS0.low (Nat.le_of_lt hS0.lt0)
    have HPS:Hid (wr.cell? ⟨D,16,none⟩ = some (.int .i64 (k.ps:Nat))):=HW.out.sc.c16
    have HRS:Hid (Rr.rest=R.rest):=HW.out.rest
    have HER:=hide' er
    have HERR:=hide' err
    have hne:some D ≠ (Value.slice pr k.ref.length cr).ownBlock:=fun e => by
     have:=HS0.out.apart 0 5 D rfl (by show some Rr.ref.ownBlock=_; rw [HERR.out]; exact congrArg some e.symm)
     omega
    have HKEEP:Hid (∀ (ob:Obj) (w2:World),(W.drew.alloc ob).grownBy w2 (Value.slice pr k.ref.length cr).ownBlock -> w2.cell? ⟨D,21,none⟩ = some (.slice pr k.ref.length cr) /\ w2.frozen? ⟨D,21,none⟩ = false):=by
     intro ob w2 hg
     have hD:w2.heap[D]? = W.heap[D]? := (hg.block D (by simp; omega) hne).trans (((Below.refl W.drew.heap.size W.drew).alloc (Nat.le_refl _) ob).block D hDl)
     exact ⟨(World.cell?_of_block (a:=⟨D,21,none⟩) hD).trans y21,(World.frozen?_of_block (a:=⟨D,21,none⟩) hD).trans z21⟩
    have HFIN:Hid (∀ (ob:Obj) (g cap2:Nat) (w2:World),w2.ownsRow B 5 1 (.slice (some ⟨g,0,none⟩) (k.ref.length + 1) cap2) (k.ref.length + 1) (byteCells k.ref ++ [.int .u8 (f k.ps)]) -> (W.drew.alloc ob).grownBy w2 (Value.slice pr k.ref.length cr).ownBlock -> ((Value.slice pr k.ref.length cr).ownBlock=some g \/ g=(W.drew.alloc ob).heap.size) ->
     ∃ R2,SC (w2.setCell ⟨D,21,none⟩ (.slice (some ⟨g,0,none⟩) (k.ref.length + 1) cap2)) D B f n (Stt S k.ps { k with ref:=k.ref ++ [(f k.ps).toUInt8] }) R2 /\ To D R w R2 (w2.setCell ⟨D,21,none⟩ (.slice (some ⟨g,0,none⟩) (k.ref.length + 1) cap2)) /\ R2 = { Rr with ref:=R2.ref }):=by
     intro ob g cap2 w2 ho hg hat
     have hgw:Grew W Rr.ref w2 (.slice (some ⟨g,0,none⟩) (k.ref.length + 1) cap2):=by
      have hs:=hg.size
      simp at hs
      refine ⟨hg.os,hg.tape,hg.output,by omega,fun i hi hn => ?_, ?_⟩
      . rw [HERR.out] at hn
        exact (hg.block i (by simp; omega) fun e => hn e.symm).trans (((Below.refl W.drew.heap.size W.drew).alloc (Nat.le_refl _) ob).block i hi)
      . rw [HERR.out]
        rcases hat with e | e
        . exact .inl e.symm
        . right
          intro q hq
          cases hq
          simp at e
          show W.heap.size <= g
          omega
     have hrow:RowB w2 B (.slice (some ⟨g,0,none⟩) (k.ref.length + 1) cap2) (k.ref ++ [(f k.ps).toUInt8]):=by
      have e1:byteCells (k.ref ++ [(f k.ps).toUInt8])=byteCells k.ref ++ [.int .u8 (f k.ps)]:=by
       have:=HY.out.lt k.ps
       simp [byteCells]
       omega
      unfold RowB
      rw [e1,show (k.ref ++ [(f k.ps).toUInt8]).length=k.ref.length + 1 by simp]
      exact ho
     exact ⟨_,HS0.out.ref' hgw hrow,HT0.out.trans (To.ref' (D:=D) hgw),rfl⟩
    obtain ⟨Mid,hMid⟩ : ∃ Mid:Act -> World -> Prop,Mid=fun a' W' => a'.defers = [] /\ a'.tmps.size=66 /\ a'.tmps[0]? = some (.pointer (some ⟨D,0,none⟩)) /\ a'.tmps[1]? = some undef /\ ∃ R2,SC W' D B f n (Stt S k.ps { k with ref:=k.ref ++ [(f k.ps).toUInt8] }) R2 /\ To D R w R2 W' /\ R2 = { Rr with ref:=R2.ref }:=⟨_,rfl⟩
    have HMid:=hide' hMid
    clear hMid hne hS0 hT0 hown0 d0 d16 d21 hb1 er err HW
    refine wp_mono (Q:=Exit.then Mid (fun _ _ _ => False)) ?_ ?_
    . go_region_law (refine step_append_lies _ rfl (.tmp 23) (.tmp 35) 22 rfl B 5 i0 (.int .u8 0) 1 1 Tryd.underlying22 hi hz0 hz1 hz2 rfl (by decide) (.slice pr k.ref.length cr) k.ref.length (byteCells k.ref) rfl (HOWN.out.alloc _) ⟨_,0,none⟩ 1 1 [.int .u8 (f k.ps)] rfl rfl (World.news_of_block (cs := #[.int .u8 (f k.ps)]) (heap_alloc_new _ _)) (by intro u hu; simp at hu; subst hu; rfl) (by decide) (by unfold maxLen; omega) (by omega) (by simp; omega) _ rfl ?_; intro g cap2 w2 hown2 hgrow2 hat2 hlt2; obtain ⟨t21,t21f⟩:=HKEEP.out _ _ hgrow2)
      all_goals (
       show Mid _ _
       rw [HMid.out]
       exact ⟨rfl,rfl,rfl,rfl,HFIN.out _ _ _ _ hown2 hgrow2 (by simpa using hat2)⟩)
    . intro e a' W' hM
      cases e with
      | normal =>
        have hM':Mid a' W':=hM
        rw [HMid.out] at hM'
        obtain ⟨q1,q2,q3,q5,R2,hS2,hTo2,hR2⟩:=hM'
        obtain ⟨tm,df⟩:=a'
        simp only at q1 q2 q3 q5
        subst q1
        clear hM
        revert q3 q5
        revert tm
        refine frame66 ?_
        intro v0 v1 v2 v3 v4 v5 v6 v7 v8 v9 v10 v11 v12 v13 v14 v15 v16 v17 v18 v19 v20 v21 v22 v23 v24 v25 v26 v27 v28 v29 v30 v31 v32 v33 v34 v35 v36 v37 v38 v39 v40 v41 v42 v43 v44 v45 v46 v47 v48 v49 v50 v51 v52 v53 v54 v55 v56 v57 v58 v59 v60 v61 v62 v63 v64 v65 q3 q5
        have q4:v0 = .pointer (some ⟨D,0,none⟩):=by simpa using q3
        subst q4
        have q6:v1=undef:=by simpa using q5
        subst q6
        clear q3 q5
        have hb5:HY.out.big=HY.out.big:=rfl
        have hfp2:R2.fp=R.fp:=by rw [hR2]; exact hw0.out.fp.trans HY.out.fp.symm
        have hrest2:R2.rest=R.rest:=by rw [hR2]; exact HRS.out
        have hT2:=HY.out.tb.to (HH.out.to_below hTo2)
        have hl':(k.ref ++ [(f k.ps).toUInt8]).length=k.ref.length + 1:=by simp
        obtain ⟨pa2,cap2,er2⟩:=own_shape hS2.ref
        have cR:=rfRead_any (Rn.lf (k.ref ++ [(f k.ps).toUInt8])) pa2 (k.ref.length + 1) cap2 W' hT2.spans (Rn.lf_lt _) (by omega) (by
         intro _
         have hr:=hS2.ref
         rcases hr.2 with ⟨_,e⟩ | ⟨g,cp,cur,hv,hb,hg,_⟩
         . simp [Stt] at e
         . rw [er2] at hv
           cases hv
           refine ⟨g,0,rfl,fun j hj => ?_,heap_lt hg⟩
           have hc:=World.ownsRow.cells hr (g:=g) (by rw [er2]; rfl) j
           have hj':j < (k.ref ++ [(f k.ps).toUInt8]).length:=by omega
           have:=hc (.int .u8 (Rn.lf (k.ref ++ [(f k.ps).toUInt8]) j)) (by
            show (byteCells (k.ref ++ [(f k.ps).toUInt8]))[j]? = _
            simp only [byteCells,List.getElem?_map,List.getElem?_eq_getElem hj',Option.map_some,Rn.lf,Option.getD_some])
           rw [Addr.add_lit] at this
           exact this)
        have hfine:=Rf.rd_fine (Rn.lf (k.ref ++ [(f k.ps).toUInt8])) (k.ref.length + 1)
        obtain ⟨m0,hm0⟩ : ∃ m0,n - k.ps=m0 + 1:=⟨n - k.ps - 1,by omega⟩
        have hz:=HKZ.out
        rw [hm0] at hz
        unfold refRun at hz
        obtain ⟨X,hX⟩ : ∃ X,Rf.rd (Rn.lf (k.ref ++ [(f k.ps).toUInt8])) (k.ref.length + 1)=X:=⟨_,rfl⟩
        rw [hX] at cR hfine hz
        have e21:=hS2.c21
        rw [er2] at e21
        have hl2:(Stt S k.ps { k with ref:=k.ref ++ [(f k.ps).toUInt8] }).k.ref.length=k.ref.length + 1:=hl'
        rw [hl2] at e21
        obtain ⟨x1,x2,x3⟩:=X
        unfold Rf.rdV at cR
        simp only at cR hz
        have HS2:=hide' hS2
        have HTo2:=hide' hTo2
        have HZ2:=hide' hz
        have HR2:=hide' hR2
        have HFP:=hide' hfp2
        have HRE:=hide' hrest2
        clear hX hz hS2 hTo2 hR2 hfp2 hrest2 er2 hT2 hb5
        go_wp2_with fail
        refine cR.mono ?_
        rintro e W3 ⟨rfl,hb3⟩
        have hS3:=HS2.out.below hb3
        have hTo3:=HTo2.out.trans (.of_below hb3)
        have hBW3:B <= W3.heap.size:=Nat.le_trans hS3.low (Nat.le_of_lt hS3.lt0)
        clear cR hb3 HS2 HTo2 e21
        have went : ∀ (W:World) (k':Wk) (R':Raw),SC W D B f n (Stt S k'.ps k') R' -> To D R w R' W -> k'.ps <= n -> R'.fp=R.fp -> R'.rest=R.rest -> (k'.how=2 -> R'.bp=pla S.pl f n k'.bad) -> Went w D B f n S R d W k' k'.ps R' :=
         fun W k' R' g1 g2 g3 g4 g5 g6 => ⟨g1,g2,HY.out.stay HH.out g2 g4 (Nat.le_refl _) g3 (fun m q1 q2 => by omega),g6,g5⟩
        have WENT:=hide' went
        clear went
        rcases hfine with hf1 | ⟨hf2,hf3,hf4⟩ | ⟨hf2,hf3,hf4⟩
        . -- more bytes are wanted
          cases hf1
          have cS:=skip_any hS3 rfl hpn ⟨by show k.ps < _; omega,by show k.ps < _; omega⟩
          have HTo3:=hide' hTo3
          clear hS3 hTo3
          go_wp2_with fail
          refine cS.mono ?_
          rintro e W4 ⟨rfl,hS4,hTo4⟩
          have cD:=drop_any hS4 (by show (k.ref ++ [(f k.ps).toUInt8]).length <= _; omega)
          have HTo4:=hide' (HTo3.out.trans hTo4)
          clear hS4 hTo4 cS HTo3
          go_wp2_with fail
          refine cD.mono ?_
          rintro e W5 ⟨rfl,R5,hS5,hTo5,hR5⟩
          have HS5:=hide' hS5
          have HTo5:=hide' (HTo4.out.trans hTo5)
          have HR5:=hide' hR5
          clear hS5 hTo5 hR5 cD HTo4
          go_wp2_with fail
          go_roundw
          case rel =>
           refine ⟨{ k with ref:=nought (k.ref ++ [(f k.ps).toUInt8]),ps:=k.ps + 1 },R5,WENT.out _ _ _ HS5.out HTo5.out hpn (by rw [HR5.out]; exact HFP.out) (by rw [HR5.out]; exact HRE.out) (fun e => by have:k.how=2:=e; omega),hk1, ?_, ?_⟩
           . show (nought (k.ref ++ [(f k.ps).toUInt8])).length <= k.ps + 1
             have:(nought (k.ref ++ [(f k.ps).toUInt8])).length <= (k.ref ++ [(f k.ps).toUInt8]).length:=by
              unfold nought
              split
              . rw [List.length_dropLast]; omega
              . exact Nat.le_refl _
             omega
           . show refRun f n (n - (k.ps + 1)) _=Z
             have:=HZ2.out
             rw [if_neg (by omega),if_neg (by omega)] at this
             rw [show n - (k.ps + 1)=m0 by omega]
             exact this
          case measure =>
           have e1:=psOf_eq HS5.out.c16
           have e2:psOf wr D=k.ps:=psOf_eq HPS.out
           rw [e1,e2]
           show n - (k.ps + 1) < n - k.ps
           omega
        . -- a bad byte
          simp only at hf2 hf3
          subst hf2 hf3
          have cF:=fail_any hS3 k.ps HY.out.lt hkn (by omega) HY.out.pl60
          have e16:=hS3.c16
          dsimp only [Stt] at e16
          have HTo3:=hide' hTo3
          clear hS3 hTo3
          go_wp2_with fail
          refine cF.mono ?_
          rintro e W4 ⟨rfl,hS4,hTo4⟩
          have HS4:=hide' hS4
          have HTo4:=hide' (HTo3.out.trans hTo4)
          clear hS4 hTo4 cF HTo3 e16
          go_wp2_with fail
          have hz:=HZ2.out
          rw [if_pos trivial] at hz
          refine bodyPost_ret (v := .tuple #[.int .i32 0, .bool false]) (by simp [results,Tryd.results51,go_sem]) rfl ⟨by rw [<- hz]; rfl, ?_⟩
          rw [<- hz]
          exact ⟨_,WENT.out _ _ _ HS4.out HTo4.out hkn HFP.out HRE.out (fun _ => rfl)⟩
        . -- its character
          simp only at hf2
          subst hf2
          have cS:=skip_any hS3 rfl hpn ⟨by show k.ps < _; omega,by show k.ps < _; omega⟩
          have HTo3:=hide' hTo3
          clear hS3 hTo3
          go_wp2_with fail
          refine cS.mono ?_
          rintro e W4 ⟨rfl,hS4,hTo4⟩
          have HS4:=hide' hS4
          have HTo4:=hide' (HTo3.out.trans hTo4)
          clear hS4 hTo4 cS HTo3
          go_wp2_with fail
          have hz:=HZ2.out
          rw [if_neg (by decide),if_pos trivial] at hz
          refine bodyPost_ret (v := .tuple #[.int .i32 (x1:Nat), .bool true]) (by simp [results,Tryd.results51,go_sem]) rfl ⟨by rw [<- hz]; rfl, ?_⟩
          rw [<- hz]
          exact ⟨_,WENT.out _ _ _ HS4.out HTo4.out hpn HFP.out HRE.out (fun e => by have:k.how=2:=e; omega)⟩
      | _ => exact False.elim hM
  . have i1 : ¬ (k.ps:Int) < n:=by omega
    have hpe:k.ps=n:=by omega
    obtain ⟨pa,cap,er⟩ : ∃ pa cap,Rr.rest = .slice pa n cap:=by
     rcases hW.sc.rest.sl with ⟨e,e2⟩ | ⟨q,o,cap,e,_⟩
     . exact ⟨none,0,by rw [e,e2]⟩
     . exact ⟨_,_,e⟩
    rw [er] at d0
    dsimp only [Stt] at d16
    have hz:=hkz.out
    rw [show n - k.ps=0 by omega] at hz
    have HF:Hid (∀ m,Went w D B f n S R d (wr.drewN m) k k.ps Rr):=fun m =>
     ⟨hW.sc.drewN m,hW.go.drewN m,HY.out.stay HH.out (hW.go.drewN m) (hW.rdy.fp.trans HY.out.fp.symm) (Nat.le_refl _) hkn (fun m q1 q2 => by omega),hW.bad,hW.rest⟩
    have HZ2:=hide' hz
    clear hW hz er hpe d21
    go_wp2
    go_quiet (fail)
    go_wp2
    refine bodyPost_ret (v := .tuple #[.int .i32 0, .bool false]) (by simp [results,Tryd.results51,go_sem]) rfl ⟨by rw [<- HZ2.out]; rfl, ?_⟩
    rw [<- HZ2.out]
    exact ⟨_,HF.out nq⟩
end
end Sc
end Go.Proofs.YteiiepjegdlbeaaDoor
namespace Go.Proofs.YteiiepjegdlbeaaDoor
open Go.RowKit Go.Lib
def jumpsTo (J:Nat -> Act -> World -> Prop) (Q:Exit -> Act -> World -> Prop) : Exit -> Act -> World -> Prop
 | .goto l,a,w => J l a w
 | e,a,w => Q e a w
theorem wp_scope_labels {P:Program} {a:Act} {w:World} {Q:Exit -> Act -> World -> Prop} {c:Code} (J:Nat -> Act -> World -> Prop) (μ : Nat -> Act -> World -> Nat) (rest:Nat -> Code) (hf : ∀ l a w,J l a w -> findLabel c l=some (rest l))
 (first:c.wp P (jumpsTo J Q) a w)
 (pass : ∀ l a w,J l a w -> (rest l).wp P (jumpsTo (fun l' a' w' => J l' a' w' /\ μ l' a' w' < μ l a w) Q) a w) : (Code.scope c).wp P Q a w:=by
 intro b k cs
 have hg : ∀ l a w,J l a w -> gotoIn l (.inScope c :: k)=some (.code (rest l) :: .inScope c :: k):=fun l a w h => by simp [gotoIn,hf l a w h]
 have key : ∀ m l a w, μ l a w=m -> J l a w -> ∃ e a' w',Q e a' w' /\ Arrives P (lone (b.at a (.code (rest l) :: .inScope c :: k)) cs w) b k cs e a' w':=by
  intro m
  induction m using Nat.strongRecOn with
  | _ m ih =>
    intro l a w hn hJ
    obtain ⟨e,a₁,w₁,hq,harr⟩:=pass l a w hJ b (.inScope c :: k) cs
    cases e with
    | normal => exact ⟨.normal,a₁,w₁,hq,Steps.trans harr (.one step_inScope)⟩
    | exit id => exact ⟨.exit id,a₁,w₁,hq,fun k' hk => harr k' (by simp [exitTo,hk])⟩
    | goto l' =>
      obtain ⟨hJ',hlt⟩:=hq
      obtain ⟨e₂,a₂,w₂,hq₂,harr₂⟩:=ih _ (by omega) l' a₁ w₁ rfl hJ'
      exact ⟨e₂,a₂,w₂,hq₂, .of_steps (harr _ (hg l' _ _ hJ')) harr₂⟩
    | ret => exact ⟨_,a₁,w₁,hq,harr⟩
    | panic ch => exact ⟨_,a₁,w₁,hq,harr⟩
    | outgrown => exact ⟨_,a₁,w₁,hq,harr⟩
 obtain ⟨e,a₁,w₁,hq,harr⟩:=first b (.inScope c :: k) cs
 cases e with
 | normal => exact ⟨.normal,a₁,w₁,hq, .head step_scope (Steps.trans harr (.one step_inScope))⟩
 | exit id => exact ⟨.exit id,a₁,w₁,hq,fun k' hk => .head step_scope (harr k' (by simp [exitTo,hk]))⟩
 | goto l' =>
   obtain ⟨e₂,a₂,w₂,hq₂,harr₂⟩:=key _ l' a₁ w₁ rfl hq
   exact ⟨e₂,a₂,w₂,hq₂, .of_steps (.head step_scope (harr _ (hg l' _ _ hq))) harr₂⟩
 | ret => exact ⟨_,a₁,w₁,hq, .of_steps (.one step_scope) harr⟩
 | panic ch => exact ⟨_,a₁,w₁,hq, .of_steps (.one step_scope) harr⟩
 | outgrown => exact ⟨_,a₁,w₁,hq, .of_steps (.one step_scope) harr⟩
def jumps2 (l1 l2:Nat) (J1 J2:Act -> World -> Prop) (Q:Exit -> Act -> World -> Prop) : Exit -> Act -> World -> Prop
 | .goto l,a,w => (l=l1 /\ J1 a w) \/ (l=l2 /\ J2 a w) 
 | e,a,w => Q e a w
theorem wp_scope2 {P:Program} {a:Act} {w:World} {Q:Exit -> Act -> World -> Prop} {c r1 r2:Code} (l1 l2:Nat) (J1 J2:Act -> World -> Prop) (μ1 μ2:Act -> World -> Nat) (h21:l2 ≠ l1) (h12:l1 ≠ l2)
 (hf1:findLabel c l1=some (Code.skip.seq r1)) (hf2:findLabel c l2=some (Code.skip.seq r2))
 (first:c.wp P (jumps2 l1 l2 J1 J2 Q) a w)
 (pass1 : ∀ a w,J1 a w -> r1.wp P (jumps2 l1 l2 (fun a' w' => J1 a' w' /\ μ1 a' w' < μ1 a w) (fun a' w' => J2 a' w' /\ μ2 a' w' < μ1 a w) Q) a w)
 (pass2 : ∀ a w,J2 a w -> r2.wp P (jumps2 l1 l2 (fun a' w' => J1 a' w' /\ μ1 a' w' < μ2 a w) (fun a' w' => J2 a' w' /\ μ2 a' w' < μ2 a w) Q) a w) : (Code.scope c).wp P Q a w:=by
 have er1:(fun l => Code.skip.seq (if l=l1 then r1 else r2) : Nat -> Code) l1=Code.skip.seq r1:=by show Code.skip.seq (if l1=l1 then r1 else r2)=_; rw [if_pos rfl]
 have em1 : ∀ a w,(fun l a w => if l=l1 then μ1 a w else μ2 a w:Nat -> Act -> World -> Nat) l1 a w = μ1 a w:=by intro a w; show (if l1=l1 then μ1 a w else μ2 a w) = μ1 a w; rw [if_pos rfl]
 have er2:(fun l => Code.skip.seq (if l=l1 then r1 else r2) : Nat -> Code) l2=Code.skip.seq r2:=by show Code.skip.seq (if l2=l1 then r1 else r2)=_; rw [if_neg h21]
 have em2 : ∀ a w,(fun l a w => if l=l1 then μ1 a w else μ2 a w:Nat -> Act -> World -> Nat) l2 a w = μ2 a w:=by intro a w; show (if l2=l1 then μ1 a w else μ2 a w) = μ2 a w; rw [if_neg h21]
 generalize hR:(fun l => Code.skip.seq (if l=l1 then r1 else r2) : Nat -> Code)=rest at *
 generalize hM:(fun l a w => if l=l1 then μ1 a w else μ2 a w:Nat -> Act -> World -> Nat)=mu at *
 refine wp_scope_labels (fun l a w => (l=l1 /\ J1 a w) \/ (l=l2 /\ J2 a w) ) mu rest (fun l a w h => ?_) (wp_mono first fun e a w h => by cases e <;> exact h) (fun l a w h => ?_)
 . rcases h with ⟨rfl,_⟩ | ⟨rfl,_⟩
   . rw [er1]; exact hf1
   . rw [er2]; exact hf2
 . rcases h with ⟨rfl,h⟩ | ⟨rfl,h⟩
   . rw [er1]
     refine wp_mono (wp_seq (wp_skip (pass1 a w h))) fun e a' w' hq => ?_
     cases e with
     | goto l' =>
       rcases hq with ⟨rfl,hj,hm⟩ | ⟨rfl,hj,hm⟩
       . exact ⟨.inl ⟨rfl,hj⟩,by rw [em1,em1]; exact hm⟩
       . exact ⟨.inr (⟨rfl,hj⟩),by rw [em2,em1]; exact hm⟩
     | _ => exact hq
   . rw [er2]
     refine wp_mono (wp_seq (wp_skip (pass2 a w h))) fun e a' w' hq => ?_
     cases e with
     | goto l' =>
       rcases hq with ⟨rfl,hj,hm⟩ | ⟨rfl,hj,hm⟩
       . exact ⟨.inl ⟨rfl,hj⟩,by rw [em1,em2]; exact hm⟩
       . exact ⟨.inr (⟨rfl,hj⟩),by rw [em2,em2]; exact hm⟩
     | _ => exact hq
theorem jumps2_mono {l1 l2:Nat} {J1 J2 M1 M2:Act -> World -> Prop} {Q:Exit -> Act -> World -> Prop} (h1 : ∀ a w,M1 a w -> J1 a w) (h2 : ∀ a w,M2 a w -> J2 a w) : ∀ e a w,jumps2 l1 l2 M1 M2 Q e a w -> jumps2 l1 l2 J1 J2 Q e a w:=by
 intro e a w h
 cases e with
 | goto l =>
   rcases h with ⟨e,h⟩ | ⟨e,h⟩
   . exact .inl ⟨e,h1 _ _ h⟩
   . exact .inr (⟨e,h2 _ _ h⟩)
 | _ => exact h
def jumps3 (l1 l2 l3:Nat) (J1 J2 J3:Act -> World -> Prop) (Q:Exit -> Act -> World -> Prop) : Exit -> Act -> World -> Prop
 | .goto l,a,w => (l=l1 /\ J1 a w) \/ (l=l2 /\ J2 a w) \/ (l=l3 /\ J3 a w) 
 | e,a,w => Q e a w
theorem wp_scope3 {P:Program} {a:Act} {w:World} {Q:Exit -> Act -> World -> Prop} {c r1 r2 r3:Code} (l1 l2 l3:Nat) (J1 J2 J3:Act -> World -> Prop) (μ1 μ2 μ3:Act -> World -> Nat) (h21:l2 ≠ l1) (h31:l3 ≠ l1) (h12:l1 ≠ l2) (h32:l3 ≠ l2) (h13:l1 ≠ l3) (h23:l2 ≠ l3)
 (hf1:findLabel c l1=some (Code.skip.seq r1)) (hf2:findLabel c l2=some (Code.skip.seq r2)) (hf3:findLabel c l3=some (Code.skip.seq r3))
 (first:c.wp P (jumps3 l1 l2 l3 J1 J2 J3 Q) a w)
 (pass1 : ∀ a w,J1 a w -> r1.wp P (jumps3 l1 l2 l3 (fun a' w' => J1 a' w' /\ μ1 a' w' < μ1 a w) (fun a' w' => J2 a' w' /\ μ2 a' w' < μ1 a w) (fun a' w' => J3 a' w' /\ μ3 a' w' < μ1 a w) Q) a w)
 (pass2 : ∀ a w,J2 a w -> r2.wp P (jumps3 l1 l2 l3 (fun a' w' => J1 a' w' /\ μ1 a' w' < μ2 a w) (fun a' w' => J2 a' w' /\ μ2 a' w' < μ2 a w) (fun a' w' => J3 a' w' /\ μ3 a' w' < μ2 a w) Q) a w)
 (pass3 : ∀ a w,J3 a w -> r3.wp P (jumps3 l1 l2 l3 (fun a' w' => J1 a' w' /\ μ1 a' w' < μ3 a w) (fun a' w' => J2 a' w' /\ μ2 a' w' < μ3 a w) (fun a' w' => J3 a' w' /\ μ3 a' w' < μ3 a w) Q) a w) : (Code.scope c).wp P Q a w:=by
 have er1:(fun l => Code.skip.seq (if l=l1 then r1 else if l=l2 then r2 else r3) : Nat -> Code) l1=Code.skip.seq r1:=by show Code.skip.seq (if l1=l1 then r1 else if l1=l2 then r2 else r3)=_; rw [if_pos rfl]
 have em1 : ∀ a w,(fun l a w => if l=l1 then μ1 a w else if l=l2 then μ2 a w else μ3 a w:Nat -> Act -> World -> Nat) l1 a w = μ1 a w:=by intro a w; show (if l1=l1 then μ1 a w else if l1=l2 then μ2 a w else μ3 a w) = μ1 a w; rw [if_pos rfl]
 have er2:(fun l => Code.skip.seq (if l=l1 then r1 else if l=l2 then r2 else r3) : Nat -> Code) l2=Code.skip.seq r2:=by show Code.skip.seq (if l2=l1 then r1 else if l2=l2 then r2 else r3)=_; rw [if_neg h21,if_pos rfl]
 have em2 : ∀ a w,(fun l a w => if l=l1 then μ1 a w else if l=l2 then μ2 a w else μ3 a w:Nat -> Act -> World -> Nat) l2 a w = μ2 a w:=by intro a w; show (if l2=l1 then μ1 a w else if l2=l2 then μ2 a w else μ3 a w) = μ2 a w; rw [if_neg h21,if_pos rfl]
 have er3:(fun l => Code.skip.seq (if l=l1 then r1 else if l=l2 then r2 else r3) : Nat -> Code) l3=Code.skip.seq r3:=by show Code.skip.seq (if l3=l1 then r1 else if l3=l2 then r2 else r3)=_; rw [if_neg h31,if_neg h32]
 have em3 : ∀ a w,(fun l a w => if l=l1 then μ1 a w else if l=l2 then μ2 a w else μ3 a w:Nat -> Act -> World -> Nat) l3 a w = μ3 a w:=by intro a w; show (if l3=l1 then μ1 a w else if l3=l2 then μ2 a w else μ3 a w) = μ3 a w; rw [if_neg h31,if_neg h32]
 generalize hR:(fun l => Code.skip.seq (if l=l1 then r1 else if l=l2 then r2 else r3) : Nat -> Code)=rest at *
 generalize hM:(fun l a w => if l=l1 then μ1 a w else if l=l2 then μ2 a w else μ3 a w:Nat -> Act -> World -> Nat)=mu at *
 refine wp_scope_labels (fun l a w => (l=l1 /\ J1 a w) \/ (l=l2 /\ J2 a w) \/ (l=l3 /\ J3 a w) ) mu rest (fun l a w h => ?_) (wp_mono first fun e a w h => by cases e <;> exact h) (fun l a w h => ?_)
 . rcases h with ⟨rfl,_⟩ | ⟨rfl,_⟩ | ⟨rfl,_⟩
   . rw [er1]; exact hf1
   . rw [er2]; exact hf2
   . rw [er3]; exact hf3
 . rcases h with ⟨rfl,h⟩ | ⟨rfl,h⟩ | ⟨rfl,h⟩
   . rw [er1]
     refine wp_mono (wp_seq (wp_skip (pass1 a w h))) fun e a' w' hq => ?_
     cases e with
     | goto l' =>
       rcases hq with ⟨rfl,hj,hm⟩ | ⟨rfl,hj,hm⟩ | ⟨rfl,hj,hm⟩
       . exact ⟨.inl ⟨rfl,hj⟩,by rw [em1,em1]; exact hm⟩
       . exact ⟨.inr (.inl ⟨rfl,hj⟩),by rw [em2,em1]; exact hm⟩
       . exact ⟨.inr (.inr (⟨rfl,hj⟩)),by rw [em3,em1]; exact hm⟩
     | _ => exact hq
   . rw [er2]
     refine wp_mono (wp_seq (wp_skip (pass2 a w h))) fun e a' w' hq => ?_
     cases e with
     | goto l' =>
       rcases hq with ⟨rfl,hj,hm⟩ | ⟨rfl,hj,hm⟩ | ⟨rfl,hj,hm⟩
       . exact ⟨.inl ⟨rfl,hj⟩,by rw [em1,em2]; exact hm⟩
       . exact ⟨.inr (.inl ⟨rfl,hj⟩),by rw [em2,em2]; exact hm⟩
       . exact ⟨.inr (.inr (⟨rfl,hj⟩)),by rw [em3,em2]; exact hm⟩
     | _ => exact hq
   . rw [er3]
     refine wp_mono (wp_seq (wp_skip (pass3 a w h))) fun e a' w' hq => ?_
     cases e with
     | goto l' =>
       rcases hq with ⟨rfl,hj,hm⟩ | ⟨rfl,hj,hm⟩ | ⟨rfl,hj,hm⟩
       . exact ⟨.inl ⟨rfl,hj⟩,by rw [em1,em3]; exact hm⟩
       . exact ⟨.inr (.inl ⟨rfl,hj⟩),by rw [em2,em3]; exact hm⟩
       . exact ⟨.inr (.inr (⟨rfl,hj⟩)),by rw [em3,em3]; exact hm⟩
     | _ => exact hq
theorem jumps3_mono {l1 l2 l3:Nat} {J1 J2 J3 M1 M2 M3:Act -> World -> Prop} {Q:Exit -> Act -> World -> Prop} (h1 : ∀ a w,M1 a w -> J1 a w) (h2 : ∀ a w,M2 a w -> J2 a w) (h3 : ∀ a w,M3 a w -> J3 a w) : ∀ e a w,jumps3 l1 l2 l3 M1 M2 M3 Q e a w -> jumps3 l1 l2 l3 J1 J2 J3 Q e a w:=by
 intro e a w h
 cases e with
 | goto l =>
   rcases h with ⟨e,h⟩ | ⟨e,h⟩ | ⟨e,h⟩
   . exact .inl ⟨e,h1 _ _ h⟩
   . exact .inr (.inl ⟨e,h2 _ _ h⟩)
   . exact .inr (.inr (⟨e,h3 _ _ h⟩))
 | _ => exact h
def jumps4 (l1 l2 l3 l4:Nat) (J1 J2 J3 J4:Act -> World -> Prop) (Q:Exit -> Act -> World -> Prop) : Exit -> Act -> World -> Prop
 | .goto l,a,w => (l=l1 /\ J1 a w) \/ (l=l2 /\ J2 a w) \/ (l=l3 /\ J3 a w) \/ (l=l4 /\ J4 a w) 
 | e,a,w => Q e a w
theorem wp_scope4 {P:Program} {a:Act} {w:World} {Q:Exit -> Act -> World -> Prop} {c r1 r2 r3 r4:Code} (l1 l2 l3 l4:Nat) (J1 J2 J3 J4:Act -> World -> Prop) (μ1 μ2 μ3 μ4:Act -> World -> Nat) (h21:l2 ≠ l1) (h31:l3 ≠ l1) (h41:l4 ≠ l1) (h12:l1 ≠ l2) (h32:l3 ≠ l2) (h42:l4 ≠ l2) (h13:l1 ≠ l3) (h23:l2 ≠ l3) (h43:l4 ≠ l3) (h14:l1 ≠ l4) (h24:l2 ≠ l4) (h34:l3 ≠ l4)
 (hf1:findLabel c l1=some (Code.skip.seq r1)) (hf2:findLabel c l2=some (Code.skip.seq r2)) (hf3:findLabel c l3=some (Code.skip.seq r3)) (hf4:findLabel c l4=some (Code.skip.seq r4))
 (first:c.wp P (jumps4 l1 l2 l3 l4 J1 J2 J3 J4 Q) a w)
 (pass1 : ∀ a w,J1 a w -> r1.wp P (jumps4 l1 l2 l3 l4 (fun a' w' => J1 a' w' /\ μ1 a' w' < μ1 a w) (fun a' w' => J2 a' w' /\ μ2 a' w' < μ1 a w) (fun a' w' => J3 a' w' /\ μ3 a' w' < μ1 a w) (fun a' w' => J4 a' w' /\ μ4 a' w' < μ1 a w) Q) a w)
 (pass2 : ∀ a w,J2 a w -> r2.wp P (jumps4 l1 l2 l3 l4 (fun a' w' => J1 a' w' /\ μ1 a' w' < μ2 a w) (fun a' w' => J2 a' w' /\ μ2 a' w' < μ2 a w) (fun a' w' => J3 a' w' /\ μ3 a' w' < μ2 a w) (fun a' w' => J4 a' w' /\ μ4 a' w' < μ2 a w) Q) a w)
 (pass3 : ∀ a w,J3 a w -> r3.wp P (jumps4 l1 l2 l3 l4 (fun a' w' => J1 a' w' /\ μ1 a' w' < μ3 a w) (fun a' w' => J2 a' w' /\ μ2 a' w' < μ3 a w) (fun a' w' => J3 a' w' /\ μ3 a' w' < μ3 a w) (fun a' w' => J4 a' w' /\ μ4 a' w' < μ3 a w) Q) a w)
 (pass4 : ∀ a w,J4 a w -> r4.wp P (jumps4 l1 l2 l3 l4 (fun a' w' => J1 a' w' /\ μ1 a' w' < μ4 a w) (fun a' w' => J2 a' w' /\ μ2 a' w' < μ4 a w) (fun a' w' => J3 a' w' /\ μ3 a' w' < μ4 a w) (fun a' w' => J4 a' w' /\ μ4 a' w' < μ4 a w) Q) a w) : (Code.scope c).wp P Q a w:=by
 have er1:(fun l => Code.skip.seq (if l=l1 then r1 else if l=l2 then r2 else if l=l3 then r3 else r4) : Nat -> Code) l1=Code.skip.seq r1:=by show Code.skip.seq (if l1=l1 then r1 else if l1=l2 then r2 else if l1=l3 then r3 else r4)=_; rw [if_pos rfl]
 have em1 : ∀ a w,(fun l a w => if l=l1 then μ1 a w else if l=l2 then μ2 a w else if l=l3 then μ3 a w else μ4 a w:Nat -> Act -> World -> Nat) l1 a w = μ1 a w:=by intro a w; show (if l1=l1 then μ1 a w else if l1=l2 then μ2 a w else if l1=l3 then μ3 a w else μ4 a w) = μ1 a w; rw [if_pos rfl]
 have er2:(fun l => Code.skip.seq (if l=l1 then r1 else if l=l2 then r2 else if l=l3 then r3 else r4) : Nat -> Code) l2=Code.skip.seq r2:=by show Code.skip.seq (if l2=l1 then r1 else if l2=l2 then r2 else if l2=l3 then r3 else r4)=_; rw [if_neg h21,if_pos rfl]
 have em2 : ∀ a w,(fun l a w => if l=l1 then μ1 a w else if l=l2 then μ2 a w else if l=l3 then μ3 a w else μ4 a w:Nat -> Act -> World -> Nat) l2 a w = μ2 a w:=by intro a w; show (if l2=l1 then μ1 a w else if l2=l2 then μ2 a w else if l2=l3 then μ3 a w else μ4 a w) = μ2 a w; rw [if_neg h21,if_pos rfl]
 have er3:(fun l => Code.skip.seq (if l=l1 then r1 else if l=l2 then r2 else if l=l3 then r3 else r4) : Nat -> Code) l3=Code.skip.seq r3:=by show Code.skip.seq (if l3=l1 then r1 else if l3=l2 then r2 else if l3=l3 then r3 else r4)=_; rw [if_neg h31,if_neg h32,if_pos rfl]
 have em3 : ∀ a w,(fun l a w => if l=l1 then μ1 a w else if l=l2 then μ2 a w else if l=l3 then μ3 a w else μ4 a w:Nat -> Act -> World -> Nat) l3 a w = μ3 a w:=by intro a w; show (if l3=l1 then μ1 a w else if l3=l2 then μ2 a w else if l3=l3 then μ3 a w else μ4 a w) = μ3 a w; rw [if_neg h31,if_neg h32,if_pos rfl]
 have er4:(fun l => Code.skip.seq (if l=l1 then r1 else if l=l2 then r2 else if l=l3 then r3 else r4) : Nat -> Code) l4=Code.skip.seq r4:=by show Code.skip.seq (if l4=l1 then r1 else if l4=l2 then r2 else if l4=l3 then r3 else r4)=_; rw [if_neg h41,if_neg h42,if_neg h43]
 have em4 : ∀ a w,(fun l a w => if l=l1 then μ1 a w else if l=l2 then μ2 a w else if l=l3 then μ3 a w else μ4 a w:Nat -> Act -> World -> Nat) l4 a w = μ4 a w:=by intro a w; show (if l4=l1 then μ1 a w else if l4=l2 then μ2 a w else if l4=l3 then μ3 a w else μ4 a w) = μ4 a w; rw [if_neg h41,if_neg h42,if_neg h43]
 generalize hR:(fun l => Code.skip.seq (if l=l1 then r1 else if l=l2 then r2 else if l=l3 then r3 else r4) : Nat -> Code)=rest at *
 generalize hM:(fun l a w => if l=l1 then μ1 a w else if l=l2 then μ2 a w else if l=l3 then μ3 a w else μ4 a w:Nat -> Act -> World -> Nat)=mu at *
 refine wp_scope_labels (fun l a w => (l=l1 /\ J1 a w) \/ (l=l2 /\ J2 a w) \/ (l=l3 /\ J3 a w) \/ (l=l4 /\ J4 a w) ) mu rest (fun l a w h => ?_) (wp_mono first fun e a w h => by cases e <;> exact h) (fun l a w h => ?_)
 . rcases h with ⟨rfl,_⟩ | ⟨rfl,_⟩ | ⟨rfl,_⟩ | ⟨rfl,_⟩
   . rw [er1]; exact hf1
   . rw [er2]; exact hf2
   . rw [er3]; exact hf3
   . rw [er4]; exact hf4
 . rcases h with ⟨rfl,h⟩ | ⟨rfl,h⟩ | ⟨rfl,h⟩ | ⟨rfl,h⟩
   . rw [er1]
     refine wp_mono (wp_seq (wp_skip (pass1 a w h))) fun e a' w' hq => ?_
     cases e with
     | goto l' =>
       rcases hq with ⟨rfl,hj,hm⟩ | ⟨rfl,hj,hm⟩ | ⟨rfl,hj,hm⟩ | ⟨rfl,hj,hm⟩
       . exact ⟨.inl ⟨rfl,hj⟩,by rw [em1,em1]; exact hm⟩
       . exact ⟨.inr (.inl ⟨rfl,hj⟩),by rw [em2,em1]; exact hm⟩
       . exact ⟨.inr (.inr (.inl ⟨rfl,hj⟩)),by rw [em3,em1]; exact hm⟩
       . exact ⟨.inr (.inr (.inr (⟨rfl,hj⟩))),by rw [em4,em1]; exact hm⟩
     | _ => exact hq
   . rw [er2]
     refine wp_mono (wp_seq (wp_skip (pass2 a w h))) fun e a' w' hq => ?_
     cases e with
     | goto l' =>
       rcases hq with ⟨rfl,hj,hm⟩ | ⟨rfl,hj,hm⟩ | ⟨rfl,hj,hm⟩ | ⟨rfl,hj,hm⟩
       . exact ⟨.inl ⟨rfl,hj⟩,by rw [em1,em2]; exact hm⟩
       . exact ⟨.inr (.inl ⟨rfl,hj⟩),by rw [em2,em2]; exact hm⟩
       . exact ⟨.inr (.inr (.inl ⟨rfl,hj⟩)),by rw [em3,em2]; exact hm⟩
       . exact ⟨.inr (.inr (.inr (⟨rfl,hj⟩))),by rw [em4,em2]; exact hm⟩
     | _ => exact hq
   . rw [er3]
     refine wp_mono (wp_seq (wp_skip (pass3 a w h))) fun e a' w' hq => ?_
     cases e with
     | goto l' =>
       rcases hq with ⟨rfl,hj,hm⟩ | ⟨rfl,hj,hm⟩ | ⟨rfl,hj,hm⟩ | ⟨rfl,hj,hm⟩
       . exact ⟨.inl ⟨rfl,hj⟩,by rw [em1,em3]; exact hm⟩
       . exact ⟨.inr (.inl ⟨rfl,hj⟩),by rw [em2,em3]; exact hm⟩
       . exact ⟨.inr (.inr (.inl ⟨rfl,hj⟩)),by rw [em3,em3]; exact hm⟩
       . exact ⟨.inr (.inr (.inr (⟨rfl,hj⟩))),by rw [em4,em3]; exact hm⟩
     | _ => exact hq
   . rw [er4]
     refine wp_mono (wp_seq (wp_skip (pass4 a w h))) fun e a' w' hq => ?_
     cases e with
     | goto l' =>
       rcases hq with ⟨rfl,hj,hm⟩ | ⟨rfl,hj,hm⟩ | ⟨rfl,hj,hm⟩ | ⟨rfl,hj,hm⟩
       . exact ⟨.inl ⟨rfl,hj⟩,by rw [em1,em4]; exact hm⟩
       . exact ⟨.inr (.inl ⟨rfl,hj⟩),by rw [em2,em4]; exact hm⟩
       . exact ⟨.inr (.inr (.inl ⟨rfl,hj⟩)),by rw [em3,em4]; exact hm⟩
       . exact ⟨.inr (.inr (.inr (⟨rfl,hj⟩))),by rw [em4,em4]; exact hm⟩
     | _ => exact hq
theorem jumps4_mono {l1 l2 l3 l4:Nat} {J1 J2 J3 J4 M1 M2 M3 M4:Act -> World -> Prop} {Q:Exit -> Act -> World -> Prop} (h1 : ∀ a w,M1 a w -> J1 a w) (h2 : ∀ a w,M2 a w -> J2 a w) (h3 : ∀ a w,M3 a w -> J3 a w) (h4 : ∀ a w,M4 a w -> J4 a w) : ∀ e a w,jumps4 l1 l2 l3 l4 M1 M2 M3 M4 Q e a w -> jumps4 l1 l2 l3 l4 J1 J2 J3 J4 Q e a w:=by
 intro e a w h
 cases e with
 | goto l =>
   rcases h with ⟨e,h⟩ | ⟨e,h⟩ | ⟨e,h⟩ | ⟨e,h⟩
   . exact .inl ⟨e,h1 _ _ h⟩
   . exact .inr (.inl ⟨e,h2 _ _ h⟩)
   . exact .inr (.inr (.inl ⟨e,h3 _ _ h⟩))
   . exact .inr (.inr (.inr (⟨e,h4 _ _ h⟩)))
 | _ => exact h
end Go.Proofs.YteiiepjegdlbeaaDoor
namespace Go.Proofs.YteiiepjegdlbeaaDoor
open Go.RowKit Go.Lib
namespace Sc
structure Ok (nm:List UInt8) (x:Nat) (k:Wk) : Prop where
 how:k.how=1
 text:k.text.length <= 4 * k.ps
 tag:k.tag.length <= 4 * k.ps
 attr:k.attr.length <= 4 * k.ps
 val:k.val.length <= 4 * k.ps
 ref:k.ref.length <= k.ps
 ct:k.ct <= k.ps
 attrs:k.attrs.length <= k.ps
 dat:k.st=8 -> k.ct <= k.text.length
 opn:k.st=7 -> k.ct < 6
 nam:k.st=18 -> k.tg + 2 <= k.ps /\ k.ps - k.tg - 2 <= nm.length
 sig:k.st=2 -> k.ps=k.tg + 1
 zer:k.st=2 \/ k.st=3 -> k.ct=0
 non:k.st=1 \/ k.st=17 \/ k.st=18 -> x=k.ps
def CRs:Prop := ∀ (sg:List UInt8) (r:Nat),(∀ b ∈ sg,b.toNat < 128) -> Rn.scal r -> CR sg r
section
variable (w:World) (D B:Nat) (f:Nat -> Nat) (n:Nat) (S:St) (R:Raw) (d:Nat)
def Part (e:Ending) (w':World) : Prop :=
 ∃ on x k R',e = .returned (.bool on) /\ Went w D B f n S R d w' k x R' /\ Steps S.inn S.nm f n S.k k /\ (if on=true then Ok S.nm x k /\ S.k.ps < k.ps else Ends S.inn S.nm f n k)
end
theorem nx_one {f:Nat -> Nat} {n a:Nat} {c:Int} {sg:List Nat} (h:(nx f n a c sg).1=0) (h1:(nx f n a c sg).2.1 < 128) (h2:(nx f n a c sg).2.1 ≠ 10) : (nx f n a c sg).2.2=1:=by
 unfold nx at h h1 h2 ⊢
 split at h
 . next hc =>
   rw [if_pos hc] at h1 h2 ⊢
   have hh:=hc.1
   unfold Fd.pk at hh h1 h2 ⊢
   by_cases hw:Rn.whole (Rn.off f a) (n - a)=true
   . rw [if_pos hw] at hh h1 h2 ⊢
     by_cases c13:Rn.fv (Rn.off f a)=13
     . exfalso
       rw [if_pos c13] at hh h2
       by_cases c1:a + 1 < n
       . rw [if_pos c1] at h2
         split at h2 <;> exact h2 rfl
       . rw [if_neg c1] at hh
         simp at hh
     . rw [if_neg c13] at h1 ⊢
       exact ((Fd.whole_cr hw).2.2.1 h1).1
   . exfalso
     rw [if_neg hw] at hh
     by_cases c1:n <= a
     . rw [if_pos c1] at hh; simp at hh
     . rw [if_neg c1] at hh
       split at hh <;> simp at hh
 . split at h
   . cases h
   . split at h <;> cases h
theorem pk_scal (f:Nat -> Nat) (N T:Nat) : Rn.scal (Fd.pk f N T false).1:=by
 unfold Fd.pk
 split
 . next hw =>
   by_cases c:Rn.fv (Rn.off f T)=13
   . rw [if_pos c]
     repeat' split
     all_goals first | (unfold Rn.scal; simp; done) | (simp_all; done)
   . rw [if_neg c]
     exact Rn.fv_scal _ _ hw
 . repeat' split
   all_goals (unfold Rn.scal; simp)
section
variable {w:World} {D B n:Nat} {f:Nat -> Nat} {S:St} {R:Raw} {d:Nat}
theorem Went.trans {w1 w2:World} {k1 k2:Wk} {x1 x2:Nat} {R1 R2:Raw} (h:Went w D B f n S R d w1 k1 x1 R1) (g:Went w1 D B f n (Stt S x1 k1) R1 d w2 k2 x2 R2) : Went w D B f n S R d w2 k2 x2 R2 :=
 ⟨g.sc,h.go.trans g.go,g.rdy,g.bad,g.rest.trans h.rest⟩
theorem Went.put {w1 w2:World} {k1 k2:Wk} {x1:Nat} {R1 R2:Raw} (h:Went w D B f n S R d w1 k1 x1 R1) (hs:SC w2 D B f n (Stt S x1 k2) R2) (ht:To D R1 w1 R2 w2) (hp:k2.ps=k1.ps) (hh:k2.how=1) (hr:R2.rest=R1.rest) (hf:R2.fp=R1.fp) : Went w D B f n S R d w2 k2 x1 R2 :=
 ⟨hs,h.go.trans ht,⟨h.rdy.tb.to (h.sc.to_below ht),Nat.le_trans h.rdy.bw ht.mv.size,hf.trans h.rdy.fp,rfl,rfl,by rw [show (Stt S x1 k2).k.ps=k1.ps from hp]; exact h.rdy.qe,h.rdy.fn,by rw [show (Stt S x1 k2).k.ps=k1.ps from hp]; exact h.rdy.mn,h.rdy.lt,h.rdy.big,h.rdy.pl⟩,fun e => by omega,hr.trans h.rest⟩
theorem class_any (h:SC w D B f n S R) : Calls Tryd.prog 47 #[.pointer (some ⟨D,0,none⟩)] w fun e w' => e = .returned (.int .i64 ((if S.inn=1 then 0 else 1:Nat) : Int)) /\ w'=w:=by
 have c6:=h.c6
 clear h
 by_cases e:S.inn=1
 . rw [e] at c6
   rw [if_pos e]
   clear e
   go_enter Tryd.func47,Tryd.ntmps47
   go_wp2
   go_ret
   exact ⟨rfl,rfl⟩
 . rw [if_neg e]
   have e':((S.inn:Int) == 1)=false:=by simp; omega
   clear e
   go_enter Tryd.func47,Tryd.ntmps47
   go_wp2
   go_ret
   exact ⟨rfl,rfl⟩
end
end Sc
end Go.Proofs.YteiiepjegdlbeaaDoor
namespace Go.Proofs.YteiiepjegdlbeaaDoor
open Go.RowKit Go.Lib
namespace Rf
theorem isT0s (v:Nat) : Ch.isT Ch.tab 0 (v:Int)=decide ((9 <= v /\ v <= 10) \/ v=13 \/ (32 <= v /\ v <= 55295) \/ (57344 <= v /\ v <= 65533) \/ (65536 <= v /\ v <= 1114111)):=by
 have e:Ch.isT Ch.tab 0 (v:Int)=Ch.isR Ch.rg0 (v:Int):=by rw [<- Ch.rg_0]; exact Ch.isT_eq Ch.tab 0 v
 rw [e,Bool.eq_iff_iff]
 simp only [Ch.rg0,Ch.isR,decide_eq_true_eq]
 repeat' split
 all_goals simp
 all_goals omega
theorem rn_sc {f:Nat -> Nat} {base c:Nat} : ∀ (k a v:Nat),(rn f base c k a v).2.2=0 -> ¬ (55296 <= (rn f base c k a v).1 /\ (rn f base c k a v).1 <= 57343)
 | 0,_,_,h => by cases h
 | k + 1,a,v,h => by
   rw [rn_succ] at h ⊢
   by_cases q:isD c (f a)=true
   . rw [if_pos q] at h ⊢
     by_cases p:1114111 < v * base + dv (f a)
     . rw [if_pos p] at h; cases h
     . rw [if_neg p] at h ⊢
       exact rn_sc k (a + 1) _ h
   . rw [if_neg q] at h ⊢
     by_cases p:f a=59 /\ Ch.isT Ch.tab 0 (v:Int)=true
     . rw [if_pos p]
       have:=p.2
       rw [isT0s] at this
       simp only [decide_eq_true_eq] at this
       dsimp only
       omega
     . rw [if_neg p] at h; cases h
theorem rd_sc {f:Nat -> Nat} {n:Nat} (h:(rd f n).2.2=0) : ¬ (55296 <= (rd f n).1 /\ (rd f n).1 <= 57343):=by
 unfold rd at h ⊢
 split
 . next q => rw [if_pos q] at h; cases h
 . next q =>
   rw [if_neg q] at h
   split
   . next p => rw [if_pos p] at h; cases h
   . next p =>
     rw [if_neg p] at h
     split
     . next r =>
       rw [if_pos r] at h
       rcases nm_ways f n with ⟨e,he,_,z,_⟩ | ⟨_,_,z⟩ | ⟨_,_,z⟩
       . rw [z]
         have:=(nm_len he).2
         dsimp only
         omega
       . rw [z] at h; cases h
       . rw [z] at h; cases h
     . next r =>
       rw [if_neg r] at h
       unfold rdN at h ⊢
       split
       . next t => rw [if_pos t] at h; exact rn_sc _ _ _ h
       . next t => rw [if_neg t] at h; exact rn_sc _ _ _ h
end Rf
namespace Sc
theorem rd_scal' {f:Nat -> Nat} {n:Nat} (h:(Rf.rd f n).2.2=0) : Rn.scal (Rf.rd f n).1:=by
 refine ⟨?_,Rf.rd_sc h⟩
 rcases Rf.rd_fine f n with e | ⟨e,_⟩ | ⟨_,_,e⟩
 . rw [e] at h; cases h
 . omega
 . omega
def Alike (k k':Wk) : Prop:=k'.st=k.st /\ k'.fr=k.fr /\ k'.text=k.text /\ k'.tf=k.tf /\ k'.ct=k.ct /\ k'.tg=k.tg /\ k'.kind=k.kind /\ k'.tag=k.tag /\ k'.attrs=k.attrs /\ k'.attr=k.attr /\ k'.val=k.val /\ k'.qt=k.qt
theorem Alike.refl (k:Wk) : Alike k k:=⟨rfl,rfl,rfl,rfl,rfl,rfl,rfl,rfl,rfl,rfl,rfl,rfl⟩
theorem nought_le (l:List UInt8) : (nought l).length <= l.length:=by
 unfold nought
 split
 . rw [List.length_dropLast]; omega
 . exact Nat.le_refl _
theorem refRun_steps {inn:Nat} {nm:List UInt8} {f:Nat -> Nat} {n:Nat} (K:Nat -> Wk -> Wk) (st:Nat) (hs : ∀ k,k.st=st -> step inn nm f n k=onRef f n k K) :
 ∀ (m:Nat) (k:Wk),k.st=st -> k.how=1 -> n - k.ps=m -> k.ref.length <= k.ps ->
  Alike k (refRun f n m k).2.2 /\ (refRun f n m k).2.2.ref.length <= k.ps + m + 1 /\ (refRun f n m k).2.2.ps <= max n k.ps /\
  (((refRun f n m k).1=0 /\ (refRun f n m k).2.2.how=1 /\ Rn.scal (refRun f n m k).2.1 /\ k.ps < (refRun f n m k).2.2.ps /\ (refRun f n m k).2.2.ref.length <= (refRun f n m k).2.2.ps /\ Steps inn nm f n k (K (refRun f n m k).2.1 (refRun f n m k).2.2)) \/
   ((refRun f n m k).1=2 /\ (refRun f n m k).2.2.how=2 /\ Steps inn nm f n k (refRun f n m k).2.2) \/
   ((refRun f n m k).1=1 /\ Steps inn nm f n k (refRun f n m k).2.2 /\ step inn nm f n (refRun f n m k).2.2=none))
 | 0,k,h1,h2,h3,h4 => by
   refine ⟨.refl k,by show k.ref.length <= _; omega,by show k.ps <= _; omega, .inr (.inr ⟨rfl, .refl k, ?_⟩)⟩
   show step inn nm f n k=none
   rw [hs k h1]
   unfold onRef
   rw [if_pos (by omega)]
 | m + 1,k,h1,h2,h3,h4 => by
   have hst:=hs k h1
   unfold onRef at hst
   rw [if_neg (by omega)] at hst
   unfold refRun
   by_cases c2:(Rf.rd (Rn.lf (k.ref ++ [(f k.ps).toUInt8])) (k.ref.length + 1)).2.2=2
   . rw [if_pos c2] at hst ⊢
     refine ⟨.refl _,by simp [Wk.fails]; omega,by show k.ps <= _; omega, .inr (.inl ⟨rfl,rfl, .one h2 hst⟩)⟩
   . rw [if_neg c2] at hst ⊢
     by_cases c0:(Rf.rd (Rn.lf (k.ref ++ [(f k.ps).toUInt8])) (k.ref.length + 1)).2.2=0
     . rw [if_pos c0] at hst ⊢
       refine ⟨.refl _,by simp; omega,by show k.ps + 1 <= _; omega, .inl ⟨rfl,h2,rd_scal' c0,by show k.ps < k.ps + 1; omega,by simp; omega, .one h2 hst⟩⟩
     . rw [if_neg c0] at hst ⊢
       have hn:=nought_le (k.ref ++ [(f k.ps).toUInt8])
       simp at hn
       obtain ⟨g1,g2,g3,g4⟩:=refRun_steps K st hs m { k with ref:=nought (k.ref ++ [(f k.ps).toUInt8]),ps:=k.ps + 1 } h1 h2 (by show n - (k.ps + 1)=m; omega) (by show (nought (k.ref ++ [(f k.ps).toUInt8])).length <= k.ps + 1; simp; omega)
       refine ⟨g1,Nat.le_trans g2 (by show k.ps + 1 + m + 1 <= _; omega),Nat.le_trans g3 (by show max n (k.ps + 1) <= _; omega), ?_⟩
       rcases g4 with ⟨q1,q2,q3,q4,q5,q6⟩ | ⟨q1,q2,q3⟩ | ⟨q1,q2,q3⟩
       . exact .inl ⟨q1,q2,q3,by have:k.ps + 1 < _:=q4; omega,q5, .cons h2 hst q6⟩
       . exact .inr (.inl ⟨q1,q2, .cons h2 hst q3⟩)
       . exact .inr (.inr ⟨q1, .cons h2 hst q2,q3⟩)
end Sc
end Go.Proofs.YteiiepjegdlbeaaDoor
