import Derived.Test.YteiiepjegdlbeaaDoorScEnd
import Derived.Test.YteiiepjegdlbeaaDoorScRefMath
import Derived.BigQuiet
import Derived.Deep.AppendLies
import Derived.Deep.RegionLaw
import Derived.BigRegion
set_option maxHeartbeats 8000000
set_option maxRecDepth 4000
namespace Go.Proofs.YteiiepjegdlbeaaDoor
open Go.RowKit Go.Lib
namespace Sc
section
variable {w:World} {D B n:Nat} {f:Nat -> Nat} {S:St} {R:Raw}
theorem SCe.rest' (h:SCe w D B f n S R) {v':Value} {f':Nat -> Nat} {n':Nat} (hrow:RowF w B v' n' f') (hown:v'.ownBlock=R.rest.ownBlock) : SCe (w.setCell ⟨D,0,none⟩ v') D B f' n' S { R with rest:=v' }:=by
 have hne : ∀ j q,0 < j -> (foot D R)[j]? = some (some q) -> (w.setCell ⟨D,0,none⟩ v').heap[q]? = w.heap[q]? := by
  intro j q hj hq
  refine RowKit.Below.heap_setCell _ _ _ _ fun e => ?_
  have:=h.apart 0 j q (by rw [e]; rfl) hq
  omega
 have hf:foot D { R with rest:=v' } = foot D R:=by simp [foot,hown]
 exact ⟨Go.Joins.block_setCell (i:=0) h.cell _,h.low,hrow.keep fun q e => hne 3 q (by omega) (by rw [<- e,hown]; rfl),own_keep h.text fun q e => hne 4 q (by omega) (by rw [<- e]; rfl),
  own_keep h.ref fun q e => hne 5 q (by omega) (by rw [<- e]; rfl),RowT.keep h.tag fun q e => hne 6 q (by omega) (by rw [<- e]; rfl),own_keep h.attrs fun q e => hne 7 q (by omega) (by rw [<- e]; rfl),h.seen.keep fun q e => hne 8 q (by omega) (by rw [<- e]; rfl),
  own_keep h.attr fun q e => hne 9 q (by omega) (by rw [<- e]; rfl),own_keep h.val fun q e => hne 10 q (by omega) (by rw [<- e]; rfl),h.feed.keep (fun q e => hne 1 q (by omega) (by rw [<- e]; rfl)) (fun q e => hne 2 q (by omega) (by rw [<- e]; rfl)),by rw [hf]; exact h.apart⟩
theorem To.rest' {v':Value} (hown:v'.ownBlock=R.rest.ownBlock) : To D R w { R with rest:=v' } (w.setCell ⟨D,0,none⟩ v'):=(To.refl D R w).setCell 0 v' (by simp [foot,hown])
theorem RowF.from {v:Value} {q o cap:Nat} (h:RowF w B v n f) (e:v = .slice (some ⟨q,o,none⟩) n cap) (a:Nat) (ha:a <= n) (o':Nat) (ho:if cap=a then o'=o else o'=o + a) : RowF w B (.slice (some ⟨q,o',none⟩) (n - a) (cap - a)) (n - a) (Rn.off f a):=by
 subst e
 rcases h with ⟨e,_⟩ | ⟨q1,o1,cap1,cur,e,hb,hg,h1,h2,h3,h4⟩
 . cases e
 . cases e
   refine .inr ⟨q,o',cap - a,cur,rfl,hb,hg,by omega,by omega, ?_, ?_⟩
   . split at ho <;> omega
   . split at ho
     . rw [show n - a=0 by omega]
       simp [xs]
     . subst ho
       have e1:(cur.toList.drop (o + a)).take (n - a)=((cur.toList.drop o).take n).drop a:=by
        rw [List.drop_take,List.drop_drop]
       rw [e1,h4]
       apply List.ext_getElem?
       intro i
       rw [List.getElem?_drop]
       by_cases hi:i < n - a
       . simp [xs,Rn.off,hi,show a + i < n by omega]
       . rw [List.getElem?_eq_none (by simp [xs]; omega),List.getElem?_eq_none (by simp [xs]; omega)]
theorem tell_any (h:SCe w D B f n S R) (a:Nat) (P:Nat × Nat × Nat × Nat) (ha:a <= n) (hbig:n <= 1152921504606846976) :
 Calls Tryd.prog 41 #[.pointer (some ⟨D,0,none⟩), .int .i64 a,plaV P] w fun e w' => e = .returned (.tuple #[]) /\ ∃ R',SCe w' D B (Rn.off f a) (n - a) { S with pl:=P } R' /\ To D R w R' w' /\ R' = { R with rest:=R'.rest }:=by
 have FIN:Hid (∀ v':Value,RowF w B v' (n - a) (Rn.off f a) -> v'.ownBlock=R.rest.ownBlock -> ∃ R',SCe ((((((w.setCell ⟨D,0,none⟩ v').setCell ⟨D,1,none⟩ (.int .i64 (P.1:Nat))).setCell ⟨D,2,none⟩ (.int .i64 (P.2.1:Nat))).setCell ⟨D,3,none⟩ (.int .i64 (P.2.2.1:Nat))).setCell ⟨D,4,none⟩ (.int .i64 (P.2.2.2:Nat))).alloc (.cells #[.int .i64 (P.1:Nat), .int .i64 (P.2.1:Nat), .int .i64 (P.2.2.1:Nat), .int .i64 (P.2.2.2:Nat)] 32)) D B (Rn.off f a) (n - a) { S with pl:=P } R' /\
  To D R w R' ((((((w.setCell ⟨D,0,none⟩ v').setCell ⟨D,1,none⟩ (.int .i64 (P.1:Nat))).setCell ⟨D,2,none⟩ (.int .i64 (P.2.1:Nat))).setCell ⟨D,3,none⟩ (.int .i64 (P.2.2.1:Nat))).setCell ⟨D,4,none⟩ (.int .i64 (P.2.2.2:Nat))).alloc (.cells #[.int .i64 (P.1:Nat), .int .i64 (P.2.1:Nat), .int .i64 (P.2.2.1:Nat), .int .i64 (P.2.2.2:Nat)] 32)) /\ R' = { R with rest:=R'.rest }):=by
  intro v' hrow hown
  have s0:=h.rest' hrow hown
  have s1:=s0.put 1 (.int .i64 (P.1:Nat)) { S with pl:=(P.1,S.pl.2) } rfl ⟨rfl,rfl,rfl,rfl,rfl,rfl,rfl,rfl⟩
  have s2:=s1.put 2 (.int .i64 (P.2.1:Nat)) { S with pl:=(P.1,P.2.1,S.pl.2.2) } rfl ⟨rfl,rfl,rfl,rfl,rfl,rfl,rfl,rfl⟩
  have s3:=s2.put 3 (.int .i64 (P.2.2.1:Nat)) { S with pl:=(P.1,P.2.1,P.2.2.1,S.pl.2.2.2) } rfl ⟨rfl,rfl,rfl,rfl,rfl,rfl,rfl,rfl⟩
  have s4:=s3.put 4 (.int .i64 (P.2.2.2:Nat)) { S with pl:=P } rfl ⟨rfl,rfl,rfl,rfl,rfl,rfl,rfl,rfl⟩
  have t4:To D R w { R with rest:=v' } _:=(((((To.rest' hown).setCell 1 (.int .i64 (P.1:Nat)) rfl).setCell 2 (.int .i64 (P.2.1:Nat)) rfl).setCell 3 (.int .i64 (P.2.2.1:Nat)) rfl).setCell 4 (.int .i64 (P.2.2.2:Nat)) rfl)
  exact ⟨_,s4.below ((Below.refl _ _).alloc (Nat.le_refl _) _),t4.trans (To.of_below ((Below.refl _ _).alloc (Nat.le_refl _) _)),rfl⟩
 have hlt:=h.lt0
 have c0:=h.c0
 have c1:=h.c1
 have c2:=h.c2
 have c3:=h.c3
 have c4:=h.c4
 have f0:=h.fz 0
 have f1:=h.fz 1
 have f2:=h.fz 2
 have f3:=h.fz 3
 have f4:=h.fz 4
 have hneD:D ≠ w.heap.size:=by omega
 have hrest:=h.rest
 unfold plaV
 generalize P.1=a1 at *
 generalize P.2.1=a2 at *
 generalize P.2.2.1=a3 at *
 generalize P.2.2.2=a4 at *
 rcases hrest.sl with ⟨e,e0⟩ | ⟨q,o,cap,e,hc,hm,hby⟩
 . obtain rfl:a=0:=by omega
   have FIN2:=FIN.out (.slice none 0 0) (.inl ⟨rfl,by omega⟩) (by rw [e])
   have HF:=hide' FIN2
   rw [e] at c0
   clear FIN FIN2 e hrest h
   go_enter Tryd.func41,Tryd.ntmps41
   go_wp2_with fail
   go_end0
   exact ⟨rfl,HF.out⟩
 . have hm':cap <= 9223372036854775807:=by unfold maxLen at hm; omega
   rw [e] at c0
   have i1:(a:Int) <= n:=by omega
   have i0:(0:Int) <= a:=by omega
   by_cases hca:cap=a
   . obtain rfl:n=a:=by omega
     subst hca
     have FIN2:=FIN.out (.slice (some ⟨q,o,none⟩) 0 0) (by have:=hrest.from e cap ha o (by rw [if_pos rfl]); rw [Nat.sub_self] at this ⊢; exact this) (by rw [e]; rfl)
     have HF:=hide' FIN2
     clear FIN FIN2 hby hm hc e hrest h
     go_enter Tryd.func41,Tryd.ntmps41
     go_wp2_with fail
     go_end0
     exact ⟨rfl,HF.out⟩
   . have FIN2:=FIN.out _ (hrest.from e a ha (o + a) (by rw [if_neg hca])) (by rw [e]; rfl)
     have HF:=hide' FIN2
     clear FIN FIN2 hby hm hc e hrest h
     go_enter Tryd.func41,Tryd.ntmps41
     go_wp2_with fail
     go_end0
     exact ⟨rfl,HF.out⟩
end
theorem strKeyed:Maps.Keyed Tryd.prog 9:=Maps.string_keyed Tryd.underlying9
theorem strKey (x:List UInt8) (h:x.length <= 4398046511104) : keyOf Tryd.prog 9 (.string ⟨x.toArray⟩)=some (.string x):=by
 have:=Go.WideMaps.keyOf_string_mk (P:=Tryd.prog) Tryd.underlying9 (s:=⟨x.toArray⟩) (by simp [ByteArray.size,maxLen]; omega)
 simpa using this
theorem Seen.look {w:World} {B:Nat} {sn:Option Nat} {l:List (List UInt8 × List UInt8)} (h:Seen w B sn l) (x:List UInt8) (hx:x.length <= 4398046511104) :
 (Instr.lookup 55 (.map sn) (.string ⟨x.toArray⟩) true).run Tryd.prog w = .ok (.tuple #[.agg #[], .bool (decide (x ∈ l.map (·.1)))]) w:=by
 have hz:(zeroValue 110).run Tryd.prog w = .ok (.agg #[]) w:=Tryd.zeroValue110 w
 rcases h with ⟨rfl,rfl⟩ | ⟨b,M,rfl,hB,hM,hh⟩
 . have:=Maps.look_nil (w:=w) true strKeyed Tryd.underlying55 hz (strKey x hx)
   simpa using this
 . obtain ⟨v,ps,hr,hv⟩:=hM.look_ok strKeyed Tryd.underlying55 hz (unitElem_mk) (strKey x hx)
   obtain ⟨rfl,_⟩:=unitElem_inv hv
   rw [hr,hh x]
theorem twice_any {w:World} {D B:Nat} {f:Nat -> Nat} {n:Nat} {S:St} {R:Raw} {d:Nat} (h:SC w D B f n S R) (hy:Rdy w B n f S R d) (ok:Ok S.nm S.fed S.k) :
 Calls Tryd.prog 57 #[.pointer (some ⟨D,0,none⟩)] w fun e w' => e = .returned (.bool (decide (S.k.ps < n /\ f S.k.ps ∈ bl ++ [61] /\ S.k.attr ∈ S.k.attrs.map (·.1)))) /\ Below w.heap.size w w':=by
 have c0:=h.c0
 have c16:=h.c16
 have hps:S.k.ps <= n:=Nat.le_trans hy.qe hy.fn
 have hbig:=hy.big
 have hat:=ok.attr
 by_cases hlt:S.k.ps < n
 . obtain ⟨q,o,cap,e,hc,hm,hby⟩ : ∃ q o cap,R.rest = .slice (some ⟨q,o,none⟩) n cap /\ n <= cap /\ cap <= maxLen /\ Bytes w q o n f:=by
    rcases h.rest.sl with ⟨_,e⟩ | e
    . omega
    . exact e
   rw [e] at c0
   have cb:=hby S.k.ps hlt
   have hl8:=hy.lt S.k.ps
   have i1:((S.k.ps:Int) == (n:Int))=false:=by simp; omega
   have i2:(S.k.ps:Int) < n:=by omega
   have i3:(0:Int) <= S.k.ps:=by omega
   obtain ⟨x,hx⟩ : ∃ x,Lib.indexByte [32,9,10,13,61] ((f S.k.ps:Nat) : Int).toNat.toUInt8=x:=⟨_,rfl⟩
   have cI : ∀ W:World,Calls Tryd.prog 70 #[.string ⟨#[32,9,10,13,61]⟩, .int .u8 ((f S.k.ps:Nat) : Int)] W fun e w' => e = .returned (.int .i64 x) /\ w'=W:=fun W => by
    have:=Tryd.strings_IndexByte ⟨#[32,9,10,13,61]⟩ ((f S.k.ps:Nat) : Int) W
    rw [<- hx]
    exact this
   have hxc:decide (0 <= x)=decide (f S.k.ps ∈ bl ++ [61]):=by
    rw [<- hx, <- Lib.contains_iff_indexByte,Bool.eq_iff_iff]
    simp only [List.contains_iff_mem,decide_eq_true_eq,List.mem_cons,List.not_mem_nil,or_false,bl,List.cons_append,List.nil_append, <- UInt8.toNat_inj]
    have:((f S.k.ps:Nat) : Int).toNat.toUInt8.toNat=f S.k.ps:=by simp; omega
    rw [this]
    simp
   clear hx
   by_cases hin:f S.k.ps ∈ bl ++ [61]
   . have i4 : ¬ x < 0:=by
      have:=hxc
      simp [hin] at this
      omega
     have i4':decide (x < 0)=false:=by simp; omega
     have hlk : ∀ W:World,Below w.heap.size w W -> (Instr.lookup 55 (.map R.seen) (.string ⟨S.k.attr.toArray⟩) true).run Tryd.prog W = .ok (.tuple #[.agg #[], .bool (decide (S.k.attr ∈ S.k.attrs.map (·.1)))]) W:=fun W hW => ((h.below hW).seen).look S.k.attr (by omega)
     have hcv : ∀ W:World,Below w.heap.size w W -> (convert 22 9 R.attr).run Tryd.prog W = .ok (.string ⟨S.k.attr.toArray⟩) W:=fun W hW => conv_owned' (h.below hW).attr
     have hv:decide (S.k.ps < n /\ f S.k.ps ∈ bl ++ [61] /\ S.k.attr ∈ S.k.attrs.map (·.1))=decide (S.k.attr ∈ S.k.attrs.map (·.1)):=by simp [hlt,hin]
     rw [hv]
     generalize decide (S.k.attr ∈ S.k.attrs.map (·.1))=res at *
     obtain ⟨pa,ca,ea⟩:=own_shape h.attr
     have c26:=h.c26
     have c27:=h.c27
     rw [ea] at hcv c27
     have HLK:=hide' hlk
     have HCV:=hide' hcv
     clear hlk hcv hv hxc hin hby hm hc e ea hat hps hlt
     have H:=hide' h
     clear h hy ok
     go_enter Tryd.func57,Tryd.ntmps57
     go_wp2
     go_quiet (first | (go_at_call 70; exact Calls.quiet_of_same (cI _)))
     have hbel:Below w.heap.size w (w.drewN nq):=below_drewN (Below.refl _ _) _
     have hlD:D < (w.drewN nq).heap.size:=(H.out.drewN nq).lt0
     have e26:(w.drewN nq).cell? ⟨D,26,none⟩ = some (.map R.seen):=c26
     have e27:(w.drewN nq).cell? ⟨D,27,none⟩ = some (.slice pa S.k.attr.length ca):=c27
     generalize w.drewN nq=W at hbel hlD e26 e27 ⊢
     have hlk:=HLK.out W.drew hbel.drew
     have hcv:=HCV.out W.drew hbel.drew
     have hlk2:=fun o => HLK.out ((W.alloc o).drew) (hbel.alloc hbel.size o).drew
     have hcv2:=fun o => HCV.out ((W.alloc o).drew) (hbel.alloc hbel.size o).drew
     have HBE:=hide' hbel
     clear hbel c26 c27
     go_wp2
     go_region
     all_goals (
      go_wp2
      go_ret
      exact ⟨rfl,(HBE.out.alloc HBE.out.size _).drew⟩)
   . have i4:x < 0:=by
      have:=hxc
      simp [hin] at this
      omega
     have hv:decide (S.k.ps < n /\ f S.k.ps ∈ bl ++ [61] /\ S.k.attr ∈ S.k.attrs.map (·.1))=false:=by simp [hin]
     rw [hv]
     clear hv hxc hin hby hm hc e hat hps hlt
     clear h hy ok
     go_enter Tryd.func57,Tryd.ntmps57
     go_wp2
     go_quiet (first | (go_at_call 70; exact Calls.quiet_of_same (cI _)))
     go_wp2
     go_ret
     exact ⟨rfl,below_drewN (Below.refl _ _) _⟩
 . have en:S.k.ps=n:=by omega
   have hv:decide (S.k.ps < n /\ f S.k.ps ∈ bl ++ [61] /\ S.k.attr ∈ S.k.attrs.map (·.1))=false:=by simp [hlt]
   rw [hv]
   obtain ⟨pa,cap,e⟩:=h.rest.form
   rw [e] at c0
   rw [en] at c16
   clear hv e hat hps hlt h hy ok en
   go_enter Tryd.func57,Tryd.ntmps57
   go_wp2
   go_quiet (fail)
   go_wp2
   go_ret
   exact ⟨rfl,below_drewN (Below.refl _ _) _⟩
section
variable {w:World} {D B n:Nat} {f:Nat -> Nat} {S:St} {R:Raw} {d:Nat}
theorem SC.attrs' (h:SC w D B f n S R) {w':World} {v':Value} {sn':Option Nat} {l':List (List UInt8 × List UInt8)} {S':St}
 (hcell:w'.heap[D]? = some (.cells (cells S' { R with attrs:=v',seen:=sn' }) 59 (0,0)))
 (hS:S'.k.text=S.k.text /\ S'.k.ref=S.k.ref /\ S'.k.tag=S.k.tag /\ S'.k.attrs=l' /\ S'.k.attr=S.k.attr /\ S'.k.val=S.k.val /\ S'.q=S.q /\ S'.e=S.e)
 (hk : ∀ j q,0 < j -> j ≠ 7 -> j ≠ 8 -> (foot D R)[j]? = some (some q) -> w'.heap[q]? = w.heap[q]?)
 (hrow:w'.ownsRow B 61 2 v' l'.length (acells l')) (hseen:Seen w' B sn' l')
 (h7:v'.ownBlock=R.attrs.ownBlock \/ ∀ q,v'.ownBlock=some q -> w.heap.size <= q) (h8:sn'=R.seen \/ ∀ q,sn'=some q -> w.heap.size <= q)
 (h78 : ∀ q,v'.ownBlock=some q -> sn'=some q -> False) : SC w' D B f n S' { R with attrs:=v',seen:=sn' }:=by
 obtain ⟨k1,k2,k3,k4,k5,k6,k7,k8⟩:=hS
 refine ⟨hcell,h.low,h.rest.keep fun q e => hk 3 q (by omega) (by omega) (by omega) (by rw [<- e]; rfl),by rw [k1]; exact own_keep h.text fun q e => hk 4 q (by omega) (by omega) (by omega) (by rw [<- e]; rfl),
  by rw [k2]; exact own_keep h.ref fun q e => hk 5 q (by omega) (by omega) (by omega) (by rw [<- e]; rfl),by rw [k3]; exact own_keep h.tag fun q e => hk 6 q (by omega) (by omega) (by omega) (by rw [<- e]; rfl),
  by rw [k4]; exact hrow,by rw [k4]; exact hseen,by rw [k5]; exact own_keep h.attr fun q e => hk 9 q (by omega) (by omega) (by omega) (by rw [<- e]; rfl),by rw [k6]; exact own_keep h.val fun q e => hk 10 q (by omega) (by omega) (by omega) (by rw [<- e]; rfl),
  by rw [k7,k8]; exact h.feed.keep (fun q e => hk 1 q (by omega) (by omega) (by omega) (by rw [<- e]; rfl)) (fun q e => hk 2 q (by omega) (by omega) (by omega) (by rw [<- e]; rfl)), ?_⟩
 have a1:Apart ((foot D R).set 7 v'.ownBlock):=h.apart.set 7 v'.ownBlock fun q e j hq => by
  rcases h7 with k | k
  . exact h.apart j 7 q hq (by rw [<- e,k]; rfl)
  . have:=(h.lt q (List.mem_of_getElem? hq)).2
    have:=k q e
    omega
 have a2:Apart (((foot D R).set 7 v'.ownBlock).set 8 sn'):=a1.set 8 sn' fun q e j hq => by
  rw [List.getElem?_set] at hq
  split at hq
  . next e7 =>
    split at hq
    . exact (h78 q (by simpa using hq) e).elim
    . cases hq
  . rcases h8 with k | k
    . exact h.apart j 8 q hq (by rw [<- e,k]; rfl)
    . have:=(h.lt q (List.mem_of_getElem? hq)).2
      have:=k q e
      omega
 exact a2
def RestFp (R R0:Raw) : Prop:=R0.rest=R.rest /\ R0.fp=R.fp
theorem scAttr:(Tryd.prog.info? 61).map (fun i => (i.zero,i.size,i.bytes))=some (some (.agg #[.string ⟨#[]⟩, .string ⟨#[]⟩]),2,32):=by kernel_rfl
theorem SC.seen0 (h:SC w D B f n S R) (hs:R.seen=none) (o:Obj) :
 SC ((((w.setCell ⟨D,26,none⟩ (.map (some (w.heap.size + 1)))).alloc o).alloc (.map #[] 0)).drew) D B f n S { R with seen:=some (w.heap.size + 1) } /\
 To D R w { R with seen:=some (w.heap.size + 1) } ((((w.setCell ⟨D,26,none⟩ (.map (some (w.heap.size + 1)))).alloc o).alloc (.map #[] 0)).drew):=by
 obtain ⟨w1,hw1⟩ : ∃ w1,w1=w.setCell ⟨D,26,none⟩ (.map (some (w.heap.size + 1))):=⟨_,rfl⟩
 have hs1:w1.heap.size=w.heap.size:=by rw [hw1]; simp [World.setCell]
 have hl:S.k.attrs = []:=by
  rcases h.seen with ⟨_,e⟩ | ⟨b,M,e,_⟩
  . exact e
  . rw [hs] at e; cases e
 have hb1:Below w1.heap.size w1 (((w1.alloc o).alloc (.map #[] 0)).drew):=(((Below.refl _ _).alloc (Nat.le_refl _) o).alloc (by simp) _).drew
 rw [<- hw1]
 have hne : ∀ j q,0 < j -> (foot D R)[j]? = some (some q) -> (((w1.alloc o).alloc (.map #[] 0)).drew).heap[q]? = w.heap[q]? := by
  intro j q hj hq
  have hlt:=(h.lt q (List.mem_of_getElem? hq)).2
  refine (hb1.block q (by omega)).trans ?_
  rw [hw1]
  refine RowKit.Below.heap_setCell _ _ _ _ fun e => ?_
  have:=h.apart 0 j q (by rw [e]; rfl) hq
  omega
 have hD:(((w1.alloc o).alloc (.map #[] 0)).drew).heap[D]? = w1.heap[D]? := hb1.block D (by have:=h.lt0; omega)
 refine ⟨?_, ?_⟩
 . refine h.attrs' (v':=R.attrs) (sn':=some (w.heap.size + 1)) (l':=S.k.attrs) (S':=S) ?_ ⟨rfl,rfl,rfl,rfl,rfl,rfl,rfl,rfl⟩ (fun j q hj _ _ hq => hne j q hj hq) (own_keep h.attrs fun q e => hne 7 q (by omega) (by rw [<- e]; rfl)) ?_ (.inl rfl) (.inr fun q e => ?_) fun q e1 e2 => ?_
   . rw [hD,hw1]
     exact Go.Joins.block_setCell (i:=26) h.cell _
   . refine .inr ⟨w.heap.size + 1, .map [],rfl,by have:=h.low; have:=h.lt0; omega, ?_,fun x => by rw [hl]; rfl⟩
     have hm:=World.ownsMap_made (H:=Unit) (w1.alloc o) Tryd.prog 9 (unitElem (H:=Unit))
     rw [show (w1.alloc o).heap.size=w.heap.size + 1 by simp; omega] at hm
     rw [hl]
     exact hm.drew
   . cases e; omega
   . cases e2
     have:=(World.ownsRow.lt h.attrs _ e1).2
     omega
 . refine ⟨⟨by rw [hw1]; rfl,by rw [hw1]; rfl,by rw [hw1]; rfl,by simp; omega,fun k hk hn => ?_⟩,fun q hq => ?_⟩
   . refine (hb1.block k (by omega)).trans ?_
     rw [hw1]
     exact RowKit.Below.heap_setCell _ _ _ _ fun e => hn (by rw [e]; simp [foot])
   . simp only [foot,List.mem_cons,List.not_mem_nil,or_false] at hq ⊢
     rcases hq with e | e | e | e | e | e | e | e | e | e | e
     all_goals first
      | (left; simp [e]; done)
      | (right; cases e; omega)
theorem add_fin {R0:Raw} {W0 Wm w2:World} {b g cap2:Nat} {M:DataW Unit} {ob:Obj} {l0:List (List UInt8 × List UInt8)} {x v:List UInt8} (h:SC W0 D B f n S R0) (hsn:R0.seen=some b)
 (hM:Wm.ownsMap Tryd.prog 9 (unitElem (H:=Unit)) b (l0.length + 1) (M.put (.string x) (.agg []))) (hI:Maps.IsMap M) (hh : ∀ y:List UInt8,Maps.has M (.string y)=decide (y ∈ l0.map (·.1))) (hB:B <= b)
 (hmv:W0.grownBy Wm (some b)) (hown:w2.ownsRow B 61 2 (.slice (some ⟨g,0,none⟩) (l0.length + 1) cap2) (l0.length + 1) (acells l0 ++ [.string ⟨x.toArray⟩, .string ⟨v.toArray⟩]))
 (hgr:(Wm.drew.alloc ob).grownBy w2 R0.attrs.ownBlock) (hat:R0.attrs.ownBlock=some g \/ g=Wm.heap.size + 1) :
 SC (w2.setCell ⟨D,25,none⟩ (.slice (some ⟨g,0,none⟩) (l0.length + 1) cap2)) D B f n (S.wk { S.k with attrs:=l0 ++ [(x,v)] }) { R0 with attrs := .slice (some ⟨g,0,none⟩) (l0.length + 1) cap2,seen:=some b } /\
 To D R0 W0 { R0 with attrs := .slice (some ⟨g,0,none⟩) (l0.length + 1) cap2,seen:=some b } (w2.setCell ⟨D,25,none⟩ (.slice (some ⟨g,0,none⟩) (l0.length + 1) cap2)):=by
 have hsz:=hmv.size
 have hba:Below Wm.drew.heap.size Wm.drew (Wm.drew.alloc ob):=(Below.refl _ _).alloc (Nat.le_refl _) _
 have hsz2:Wm.heap.size + 1 <= w2.heap.size:=by have:=hgr.size; simpa using this
 have hnb : ∀ q,q < W0.heap.size -> q ≠ b -> R0.attrs.ownBlock ≠ some q -> w2.heap[q]? = W0.heap[q]? := by
  intro q hq h1 h2
  refine (hgr.block q (by simp; omega) fun e => h2 e.symm).trans ((hba.block q (show q < Wm.heap.size by omega)).trans ?_)
  exact hmv.block q hq fun e => h1 (by cases e; rfl)
 have hnD : ∀ j q,0 < j -> (foot D R0)[j]? = some (some q) -> q ≠ D:=fun j q hj hq e => by
  have:=h.apart 0 j q (by rw [e]; rfl) hq
  omega
 have hbb:b ≠ D:=hnD 8 b (by omega) (by rw [<- hsn]; rfl)
 have hbl:b < W0.heap.size:=(h.lt b (by rw [<- hsn]; simp [foot])).2
 have hab:R0.attrs.ownBlock ≠ some b:=fun e => by
  have:=h.apart 7 8 b (by rw [<- e]; rfl) (by rw [<- hsn]; rfl)
  omega
 have hgD:g ≠ D:=by
  rcases hat with e | e
  . exact hnD 7 g (by omega) (by rw [<- e]; rfl)
  . have:=h.lt0; omega
 have hgb:g ≠ b:=by
  rcases hat with e | e
  . intro e2; rw [e2] at e; exact hab e
  . omega
 have hD2:w2.heap[D]? = W0.heap[D]? := hnb D h.lt0 (fun e => hbb e.symm) (fun e => hnD 7 D (by omega) (by rw [<- e]; rfl) rfl)
 refine ⟨?_, ?_⟩
 . refine h.attrs' (l':=l0 ++ [(x,v)]) (S':=S.wk { S.k with attrs:=l0 ++ [(x,v)] }) ?_ ⟨rfl,rfl,rfl,rfl,rfl,rfl,rfl,rfl⟩ (fun j q hj h7 h8 hq => ?_) ?_ ?_ ?_ (.inl hsn.symm) fun q e1 e2 => ?_
   . have:=Go.Joins.block_setCell (i:=25) (hD2.trans h.cell) (.slice (some ⟨g,0,none⟩) (l0.length + 1) cap2)
     rw [this]
     have e:cells (S.wk { S.k with attrs:=l0 ++ [(x,v)] }) { R0 with attrs := .slice (some ⟨g,0,none⟩) (l0.length + 1) cap2,seen:=some b } = (cells S R0).setIfInBounds 25 (.slice (some ⟨g,0,none⟩) (l0.length + 1) cap2):=by
      rw [<- hsn]
      rfl
     rw [e]
   . refine (RowKit.Below.heap_setCell _ _ _ _ fun e => hnD j q hj hq e).trans (hnb q (h.lt q (List.mem_of_getElem? hq)).2 (fun e => h8 ?_) fun e => h7 ?_)
     . exact h.apart j 8 q hq (by rw [e, <- hsn]; rfl)
     . exact h.apart j 7 q hq (by rw [<- e]; rfl)
   . have e1:acells (l0 ++ [(x,v)])=acells l0 ++ [.string ⟨x.toArray⟩, .string ⟨v.toArray⟩]:=by simp [acells]
     rw [e1,show (l0 ++ [(x,v)]).length=l0.length + 1 by simp]
     exact own_keep hown fun q e => RowKit.Below.heap_setCell _ _ _ _ fun e2 => by cases e; exact hgD e2
   . refine .inr ⟨b,M.put (.string x) (.agg []),rfl,hB, ?_,fun y => ?_⟩
     . rw [show (l0 ++ [(x,v)]).length=l0.length + 1 by simp]
       obtain ⟨es,clock,hb,r⟩:=hM
       refine ⟨es,clock, ?_,r⟩
       refine (RowKit.Below.heap_setCell _ _ _ _ fun e => hbb e).trans ((hgr.block b (by simp; omega) fun e => hab e.symm).trans ((hba.block b (show b < Wm.heap.size by omega)).trans hb))
     . by_cases e : y = x
       . subst e
         rw [Maps.has_put_same hI (by simp [WideAt.IsKeyLit])]
         simp
       . rw [Maps.has_put_other (by simpa using e),hh y]
         simp [e]
   . rcases hat with e | e
     . exact .inl e.symm
     . exact .inr fun q e1 => by cases e1; show W0.heap.size <= g; omega
   . cases e1
     cases e2
     exact hgb rfl
 . refine ⟨⟨hgr.os.trans hmv.os,hgr.tape.trans hmv.tape,hgr.output.trans hmv.output,by simp [World.setCell]; omega,fun k hk hn => ?_⟩,fun q hq => ?_⟩
   . refine (RowKit.Below.heap_setCell _ _ _ _ fun e => hn (by rw [e]; simp [foot])).trans (hnb k hk (fun e => hn (by rw [e, <- hsn]; simp [foot])) fun e => hn (by rw [<- e]; simp [foot]))
   . simp only [foot,List.mem_cons,List.not_mem_nil,or_false] at hq ⊢
     rcases hq with e | e | e | e | e | e | e | e | e | e | e
     all_goals first
      | (left; simp [e]; done)
      | (left; rw [hsn, <- e]; simp; done)
      | (cases e
         rcases hat with e | e
         . left; rw [<- e]; simp
         . right; show W0.heap.size <= g; omega)
theorem add_attr (h:SC w D B f n S R) (hy:Rdy w B n f S R d) (ok:Ok S.nm S.fed S.k) :
 Calls Tryd.prog 58 #[.pointer (some ⟨D,0,none⟩)] w fun e w' => e = .returned (.bool true) /\ ∃ R',SC w' D B f n (S.wk { S.k with attrs:=S.k.attrs ++ [(S.k.attr,S.k.val)],st:=11 }) R' /\ To D R w R' w' /\ R'.rest=R.rest /\ R'.fp=R.fp:=by
 have c26:=h.c26
 have c27:=h.c27
 have c28:=h.c28
 have f26:=h.fz 26
 have hps:S.k.ps <= n:=Nat.le_trans hy.qe hy.fn
 have hbig:=hy.big
 have l1:=ok.attr
 have l2:=ok.val
 have l3:=ok.attrs
 have hBw:=hy.bw
 obtain ⟨pa,ca,ea⟩:=own_shape h.attr
 obtain ⟨pv,cv,ev⟩:=own_shape h.val
 have hcv1 : ∀ W:World,Below w.heap.size w W -> (convert 22 9 R.attr).run Tryd.prog W = .ok (.string ⟨S.k.attr.toArray⟩) W:=fun W hW => conv_owned' (h.below hW).attr
 have hcv2 : ∀ W:World,Below w.heap.size w W -> (convert 22 9 R.val).run Tryd.prog W = .ok (.string ⟨S.k.val.toArray⟩) W:=fun W hW => conv_owned' (h.below hW).val
 rw [ea] at c27 hcv1
 rw [ev] at c28 hcv2
 have k1:=hcv1 w.drew (Below.refl _ _).drew
 have k2:=hcv2 w.drew (Below.refl _ _).drew
 have k3:=fun o => hcv1 ((w.alloc o).drew) ((Below.refl _ _).alloc (Nat.le_refl _) o).drew
 have k4:=fun o => hcv2 ((w.alloc o).drew) ((Below.refl _ _).alloc (Nat.le_refl _) o).drew
 have hlD:=h.lt0
 have qT : ∀ (w:World) (r:Option Nat),(binOp .eql 55 (.map r) (.map none)).run Tryd.prog w = .ok (.bool r.isNone) w:=fun w r => run_eql_map_nil w _ _ _ r Tryd.underlying55
 have mk : ∀ W:World,(Instr.makeMap 55 none).run Tryd.prog W = .ok (.map (some W.heap.size)) (W.alloc (.map #[] 0)):=fun W => run_makeMap (P:=Tryd.prog) 55 W
 obtain ⟨i0,hi,hz0,hz1,hz2⟩:=info_parts scAttr
 have H:=hide' h
 have HX:Hid (S.k.attr.length <= 4398046511104):=by show S.k.attr.length <= 4398046511104; omega
 have HL3:=hide' l3
 clear hy ok hcv1 hcv2 ea ev h l1 l2 l3
 generalize hxx:S.k.attr=x at *
 generalize hvv:S.k.val=v at *
 generalize hll:S.k.attrs=l0 at *
 have HXX:=hide' hxx
 have HVV:=hide' hvv
 have HLL:=hide' hll
 clear hxx hvv hll
 rcases hs:R.seen with _ | b
 . obtain ⟨hSC0,hTo0⟩:=H.out.seen0 hs (.cells #[.string ⟨x.toArray⟩, .string ⟨v.toArray⟩] 61)
   have hA0:((((w.setCell ⟨D,26,none⟩ (.map (some (w.heap.size + 1)))).alloc (.cells #[.string ⟨x.toArray⟩, .string ⟨v.toArray⟩] 61)).alloc (.map #[] 0)).drew).heap[w.heap.size]? = some (.cells #[.string ⟨x.toArray⟩, .string ⟨v.toArray⟩] 61 (0,0)):=by
    have e1:=heap_alloc_new (w.setCell ⟨D,26,none⟩ (.map (some (w.heap.size + 1)))) (.cells #[.string ⟨x.toArray⟩, .string ⟨v.toArray⟩] 61)
    rw [show (w.setCell ⟨D,26,none⟩ (.map (some (w.heap.size + 1)))).heap.size=w.heap.size by simp [World.setCell]] at e1
    exact (((Below.refl _ _).alloc (Nat.le_refl _) (.map #[] 0)).block w.heap.size (by simp [World.setCell])).trans e1
   have HR0:RestFp R { R with seen:=some (w.heap.size + 1) }:=⟨rfl,rfl⟩
   have hsn0:({ R with seen:=some (w.heap.size + 1) } : Raw).seen=some (w.heap.size + 1):=rfl
   have hbw0:B <= ((((w.setCell ⟨D,26,none⟩ (.map (some (w.heap.size + 1)))).alloc (.cells #[.string ⟨x.toArray⟩, .string ⟨v.toArray⟩] 61)).alloc (.map #[] 0)).drew).heap.size:=by simp [World.setCell]; omega
   have hA1 : ∀ q,some q ∈ foot D { R with seen:=some (w.heap.size + 1) } -> q ≠ w.heap.size:=by
    intro q hq e
    rcases hTo0.own q hq with k | k
    . have:=(H.out.lt q k).2
      omega
    . subst e
      simp only [foot,List.mem_cons,List.not_mem_nil,or_false] at hq
      have hf:=H.out.lt
      rcases hq with e | e | e | e | e | e | e | e | e | e | e
      all_goals first
       | (injection e with e; omega)
       | (have:=(hf w.heap.size (by simp [foot,e])).2; omega)
   generalize ({ R with seen:=some (w.heap.size + 1) } : Raw)=R0 at hSC0 hTo0 HR0 hsn0 hA1
   rw [hs] at c26
   go_enter Tryd.func58,Tryd.ntmps58
   go_wp2_with fail
   go_region
   clear k1 k2 k3 k4
   go_wp2_with fail
   generalize ((((w.setCell ⟨D,26,none⟩ (.map (some (w.heap.size + 1)))).alloc (.cells #[.string ⟨x.toArray⟩, .string ⟨v.toArray⟩] 61)).alloc (.map #[] 0)).drew)=W0 at hSC0 hTo0 hA0 hbw0 ⊢
   generalize w.heap.size + 1=b at hsn0 ⊢
   clear hs c26 f26 c27 c28 mk qT hBw
   obtain ⟨M,hBb,hM,hh⟩ : ∃ M,B <= b /\ W0.ownsMap Tryd.prog 9 (unitElem (H:=Unit)) b l0.length M /\ ∀ y:List UInt8,Maps.has M (.string y)=decide (y ∈ l0.map (·.1)):=by
    have:=hSC0.seen
    rw [hsn0,HLL.out] at this
    rcases this with ⟨e,_⟩ | ⟨b',M,e,q1,q2,q3⟩
    . cases e
    . cases e
      exact ⟨M,q1,q2,q3⟩
   obtain ⟨Wm,hup,hM2,htn⟩:=(hM.drew).store strKeyed Tryd.underlying55 (by have:=HL3.out; unfold maxLen; omega) (strKey x HX.out) (unitElem_mk (H:=Unit))
   have hmv:W0.grownBy Wm (some b):=by have g9:=htn.grown; exact ⟨g9.os,g9.tape,g9.output,g9.size,g9.block⟩
   have hI:=hM.isMap
   have y26:=hSC0.c26
   rw [hsn0] at y26
   have yA0:W0.cell? ⟨w.heap.size,0,none⟩ = some (.string ⟨x.toArray⟩):=by rw [Lib.cell_of_heap hA0]; rfl
   have hDl:=hSC0.lt0
   have hAl:w.heap.size < W0.heap.size:=heap_lt hA0
   have hbD:b ≠ D:=fun e => by have:=hSC0.apart 0 8 D rfl (by rw [<- e, <- hsn0]; rfl); omega
   have hbA:b ≠ w.heap.size:=hA1 b (by rw [<- hsn0]; simp [foot])
   have eD:Wm.heap[D]? = W0.heap[D]? := hmv.block D hDl fun e => hbD (by cases e; rfl)
   have eA:Wm.heap[w.heap.size]? = W0.heap[w.heap.size]? := hmv.block _ hAl fun e => hbA (by cases e; rfl)
   obtain ⟨pr,cr,er⟩:=own_shape hSC0.attrs
   rw [HLL.out] at er
   have z25:Wm.cell? ⟨D,25,none⟩ = some (.slice pr l0.length cr):=by rw [World.cell?_of_block (a:=⟨D,25,none⟩) eD, <- er]; exact hSC0.c25
   have zf25:Wm.frozen? ⟨D,25,none⟩ = false:=by rw [World.frozen?_of_block (a:=⟨D,25,none⟩) eD]; exact hSC0.fz 25
   have zA0:Wm.cell? ⟨w.heap.size,0,none⟩ = some (.string ⟨x.toArray⟩):=by rw [World.cell?_of_block (a:=⟨w.heap.size,0,none⟩) eA]; exact yA0
   have zA1:Wm.cell? ⟨w.heap.size,1,none⟩ = some (.string ⟨v.toArray⟩):=by rw [World.cell?_of_block (a:=⟨w.heap.size,1,none⟩) eA,Lib.cell_of_heap hA0]; rfl
   have hmsz:=hmv.size
   have hown0:Wm.ownsRow B 61 2 (.slice pr l0.length cr) l0.length (acells l0):=by
    have h1:=hSC0.attrs
    rw [HLL.out,er] at h1
    refine own_keep h1 fun q e => hmv.block q (World.ownsRow.lt h1 q e).2 fun e2 => ?_
    have e3:q=b:=Option.some.inj e2
    rw [e3] at e
    have:=hSC0.apart 7 8 b (by rw [<- e, <- er]; rfl) (by rw [<- hsn0]; rfl)
    omega
   have hneD:some D ≠ (Value.slice pr l0.length cr).ownBlock:=fun e => by
    have:=hSC0.apart 0 7 D rfl (by rw [e, <- er]; rfl)
    omega
   have HKEEP:Hid (∀ (ob:Obj) (w2:World),(Wm.drew.alloc ob).grownBy w2 (Value.slice pr l0.length cr).ownBlock -> w2.cell? ⟨D,25,none⟩ = some (.slice pr l0.length cr) /\ w2.frozen? ⟨D,25,none⟩ = false):=by
    intro ob w2 hg
    have hD:w2.heap[D]? = Wm.heap[D]? := (hg.block D (by simp; omega) hneD).trans (((Below.refl Wm.drew.heap.size Wm.drew).alloc (Nat.le_refl _) ob).block D (show D < Wm.heap.size by omega))
    exact ⟨(World.cell?_of_block (a:=⟨D,25,none⟩) hD).trans z25,(World.frozen?_of_block (a:=⟨D,25,none⟩) hD).trans zf25⟩
   have HFIN:Hid (∀ (ob:Obj) (g cap2:Nat) (w2:World),w2.ownsRow B 61 2 (.slice (some ⟨g,0,none⟩) (l0.length + 1) cap2) (l0.length + 1) (acells l0 ++ [.string ⟨x.toArray⟩, .string ⟨v.toArray⟩]) -> (Wm.drew.alloc ob).grownBy w2 (Value.slice pr l0.length cr).ownBlock -> ((Value.slice pr l0.length cr).ownBlock=some g \/ g=Wm.heap.size + 1) ->
    ∃ R2,SC (w2.setCell ⟨D,25,none⟩ (.slice (some ⟨g,0,none⟩) (l0.length + 1) cap2)) D B f n (S.wk { S.k with attrs:=l0 ++ [(x,v)] }) R2 /\ To D R w R2 (w2.setCell ⟨D,25,none⟩ (.slice (some ⟨g,0,none⟩) (l0.length + 1) cap2)) /\ R2.rest=R.rest /\ R2.fp=R.fp):=by
    intro ob g cap2 w2 q1 q2 q3
    obtain ⟨s1,s2⟩:=add_fin hSC0 hsn0 hM2 hI hh hBb hmv q1 (by rw [er]; exact q2) (by rw [er]; exact q3)
    exact ⟨_,s1,hTo0.trans s2,HR0.1,HR0.2⟩
   have HOWN:=hide' hown0
   have hDm:D < Wm.heap.size:=by omega
   have hAm:w.heap.size < Wm.heap.size:=by omega
   have HBW:Hid (B <= Wm.heap.size):=by show B <= Wm.heap.size; omega
   have HLE:Hid (l0.length <= 1099511627776):=by have:=HL3.out; show l0.length <= _; omega
   clear hSC0 hTo0 hA0 hbw0 hA1 hM hh hM2 htn hmv hI hBb hDl hAl hbD hbA eD eA er hown0 hneD hmsz hsn0 hps hbig hlD
   go_region
   clear hup y26 yA0
   go_wp2_with fail
   go_region_law (refine step_append_lies _ rfl (.tmp 41) (.tmp 43) 41 rfl B 61 i0 (.agg #[.string ⟨#[]⟩, .string ⟨#[]⟩]) 2 32 Tryd.underlying41 hi hz0 hz1 hz2 rfl (by decide) (.slice pr l0.length cr) l0.length (acells l0) rfl (HOWN.out.alloc _) ⟨_,0,none⟩ 1 1 [.string ⟨x.toArray⟩, .string ⟨v.toArray⟩] rfl rfl (World.news_of_block (cs := #[.string ⟨x.toArray⟩, .string ⟨v.toArray⟩]) (heap_alloc_new _ _)) (by intro u hu; simp at hu; rcases hu with rfl | rfl <;> rfl) (by decide) (by have:=HLE.out; unfold maxLen; omega) (by have:=HLE.out; omega) (by have:=HBW.out; simp; omega) _ rfl ?_; intro g cap2 w2 hown2 hgrow2 hat2 hlt2; obtain ⟨t25,t25f⟩:=HKEEP.out _ _ hgrow2)
   all_goals (
    obtain ⟨R2,s1,s2,s3,s4⟩:=HFIN.out _ _ _ _ hown2 hgrow2 (by simpa using hat2)
    have cT:=turn_any s1 11
    have CT:=hide' cT
    have HS2:=hide' s2
    have HS3:=hide' s3
    have HS4:=hide' s4
    clear s1 s2 s3 s4 cT hown2 hgrow2 hat2 hlt2 t25 t25f HFIN HKEEP HOWN
    go_wp2_with fail
    refine CT.out.mono ?_
    rintro e W9 ⟨rfl,hS9,hTo9⟩
    have HS9:=hide' hS9
    have HTO9:=hide' hTo9
    clear hS9 hTo9 CT
    go_wp2_with fail
    go_ret
    refine ⟨rfl,R2, ?_,HS2.out.trans HTO9.out,HS3.out,HS4.out⟩
    have h9:=HS9.out
    obtain rfl:=HXX.out
    obtain rfl:=HVV.out
    obtain rfl:=HLL.out
    exact h9)
 . have hSC0:=H.out.below (((Below.refl _ _).alloc (Nat.le_refl _) (.cells #[.string ⟨x.toArray⟩, .string ⟨v.toArray⟩] 61)).drew)
   have hTo0:=To.of_below (D:=D) (R:=R) (((Below.refl w.heap.size w).alloc (Nat.le_refl _) (.cells #[.string ⟨x.toArray⟩, .string ⟨v.toArray⟩] 61)).drew)
   have hA0:((w.alloc (.cells #[.string ⟨x.toArray⟩, .string ⟨v.toArray⟩] 61)).drew).heap[w.heap.size]? = some (.cells #[.string ⟨x.toArray⟩, .string ⟨v.toArray⟩] 61 (0,0)):=heap_alloc_new w _
   have HR0:RestFp R R:=⟨rfl,rfl⟩
   have hsn0:=hs
   have hbw0:B <= ((w.alloc (.cells #[.string ⟨x.toArray⟩, .string ⟨v.toArray⟩] 61)).drew).heap.size:=by simp; omega
   have hA1 : ∀ q,some q ∈ foot D R -> q ≠ w.heap.size:=by
    intro q hq e
    have:=(H.out.lt q hq).2
    omega
   rw [hs] at c26
   go_enter Tryd.func58,Tryd.ntmps58
   go_wp2_with fail
   go_region
   clear k1 k2 k3 k4
   go_wp2_with fail
   generalize ((w.alloc (.cells #[.string ⟨x.toArray⟩, .string ⟨v.toArray⟩] 61)).drew)=W0 at hSC0 hTo0 hA0 hbw0 ⊢
   clear hs c26 f26 c27 c28 mk qT hBw
   obtain ⟨M,hBb,hM,hh⟩ : ∃ M,B <= b /\ W0.ownsMap Tryd.prog 9 (unitElem (H:=Unit)) b l0.length M /\ ∀ y:List UInt8,Maps.has M (.string y)=decide (y ∈ l0.map (·.1)):=by
    have:=hSC0.seen
    rw [hsn0,HLL.out] at this
    rcases this with ⟨e,_⟩ | ⟨b',M,e,q1,q2,q3⟩
    . cases e
    . cases e
      exact ⟨M,q1,q2,q3⟩
   obtain ⟨Wm,hup,hM2,htn⟩:=(hM.drew).store strKeyed Tryd.underlying55 (by have:=HL3.out; unfold maxLen; omega) (strKey x HX.out) (unitElem_mk (H:=Unit))
   have hmv:W0.grownBy Wm (some b):=by have g9:=htn.grown; exact ⟨g9.os,g9.tape,g9.output,g9.size,g9.block⟩
   have hI:=hM.isMap
   have y26:=hSC0.c26
   rw [hsn0] at y26
   have yA0:W0.cell? ⟨w.heap.size,0,none⟩ = some (.string ⟨x.toArray⟩):=by rw [Lib.cell_of_heap hA0]; rfl
   have hDl:=hSC0.lt0
   have hAl:w.heap.size < W0.heap.size:=heap_lt hA0
   have hbD:b ≠ D:=fun e => by have:=hSC0.apart 0 8 D rfl (by rw [<- e, <- hsn0]; rfl); omega
   have hbA:b ≠ w.heap.size:=hA1 b (by rw [<- hsn0]; simp [foot])
   have eD:Wm.heap[D]? = W0.heap[D]? := hmv.block D hDl fun e => hbD (by cases e; rfl)
   have eA:Wm.heap[w.heap.size]? = W0.heap[w.heap.size]? := hmv.block _ hAl fun e => hbA (by cases e; rfl)
   obtain ⟨pr,cr,er⟩:=own_shape hSC0.attrs
   rw [HLL.out] at er
   have z25:Wm.cell? ⟨D,25,none⟩ = some (.slice pr l0.length cr):=by rw [World.cell?_of_block (a:=⟨D,25,none⟩) eD, <- er]; exact hSC0.c25
   have zf25:Wm.frozen? ⟨D,25,none⟩ = false:=by rw [World.frozen?_of_block (a:=⟨D,25,none⟩) eD]; exact hSC0.fz 25
   have zA0:Wm.cell? ⟨w.heap.size,0,none⟩ = some (.string ⟨x.toArray⟩):=by rw [World.cell?_of_block (a:=⟨w.heap.size,0,none⟩) eA]; exact yA0
   have zA1:Wm.cell? ⟨w.heap.size,1,none⟩ = some (.string ⟨v.toArray⟩):=by rw [World.cell?_of_block (a:=⟨w.heap.size,1,none⟩) eA,Lib.cell_of_heap hA0]; rfl
   have hmsz:=hmv.size
   have hown0:Wm.ownsRow B 61 2 (.slice pr l0.length cr) l0.length (acells l0):=by
    have h1:=hSC0.attrs
    rw [HLL.out,er] at h1
    refine own_keep h1 fun q e => hmv.block q (World.ownsRow.lt h1 q e).2 fun e2 => ?_
    have e3:q=b:=Option.some.inj e2
    rw [e3] at e
    have:=hSC0.apart 7 8 b (by rw [<- e, <- er]; rfl) (by rw [<- hsn0]; rfl)
    omega
   have hneD:some D ≠ (Value.slice pr l0.length cr).ownBlock:=fun e => by
    have:=hSC0.apart 0 7 D rfl (by rw [e, <- er]; rfl)
    omega
   have HKEEP:Hid (∀ (ob:Obj) (w2:World),(Wm.drew.alloc ob).grownBy w2 (Value.slice pr l0.length cr).ownBlock -> w2.cell? ⟨D,25,none⟩ = some (.slice pr l0.length cr) /\ w2.frozen? ⟨D,25,none⟩ = false):=by
    intro ob w2 hg
    have hD:w2.heap[D]? = Wm.heap[D]? := (hg.block D (by simp; omega) hneD).trans (((Below.refl Wm.drew.heap.size Wm.drew).alloc (Nat.le_refl _) ob).block D (show D < Wm.heap.size by omega))
    exact ⟨(World.cell?_of_block (a:=⟨D,25,none⟩) hD).trans z25,(World.frozen?_of_block (a:=⟨D,25,none⟩) hD).trans zf25⟩
   have HFIN:Hid (∀ (ob:Obj) (g cap2:Nat) (w2:World),w2.ownsRow B 61 2 (.slice (some ⟨g,0,none⟩) (l0.length + 1) cap2) (l0.length + 1) (acells l0 ++ [.string ⟨x.toArray⟩, .string ⟨v.toArray⟩]) -> (Wm.drew.alloc ob).grownBy w2 (Value.slice pr l0.length cr).ownBlock -> ((Value.slice pr l0.length cr).ownBlock=some g \/ g=Wm.heap.size + 1) ->
    ∃ R2,SC (w2.setCell ⟨D,25,none⟩ (.slice (some ⟨g,0,none⟩) (l0.length + 1) cap2)) D B f n (S.wk { S.k with attrs:=l0 ++ [(x,v)] }) R2 /\ To D R w R2 (w2.setCell ⟨D,25,none⟩ (.slice (some ⟨g,0,none⟩) (l0.length + 1) cap2)) /\ R2.rest=R.rest /\ R2.fp=R.fp):=by
    intro ob g cap2 w2 q1 q2 q3
    obtain ⟨s1,s2⟩:=add_fin hSC0 hsn0 hM2 hI hh hBb hmv q1 (by rw [er]; exact q2) (by rw [er]; exact q3)
    exact ⟨_,s1,hTo0.trans s2,HR0.1,HR0.2⟩
   have HOWN:=hide' hown0
   have hDm:D < Wm.heap.size:=by omega
   have hAm:w.heap.size < Wm.heap.size:=by omega
   have HBW:Hid (B <= Wm.heap.size):=by show B <= Wm.heap.size; omega
   have HLE:Hid (l0.length <= 1099511627776):=by have:=HL3.out; show l0.length <= _; omega
   clear hSC0 hTo0 hA0 hbw0 hA1 hM hh hM2 htn hmv hI hBb hDl hAl hbD hbA eD eA er hown0 hneD hmsz hsn0 hps hbig hlD
   go_region
   clear hup y26 yA0
   go_wp2_with fail
   go_region_law (refine step_append_lies _ rfl (.tmp 41) (.tmp 43) 41 rfl B 61 i0 (.agg #[.string ⟨#[]⟩, .string ⟨#[]⟩]) 2 32 Tryd.underlying41 hi hz0 hz1 hz2 rfl (by decide) (.slice pr l0.length cr) l0.length (acells l0) rfl (HOWN.out.alloc _) ⟨_,0,none⟩ 1 1 [.string ⟨x.toArray⟩, .string ⟨v.toArray⟩] rfl rfl (World.news_of_block (cs := #[.string ⟨x.toArray⟩, .string ⟨v.toArray⟩]) (heap_alloc_new _ _)) (by intro u hu; simp at hu; rcases hu with rfl | rfl <;> rfl) (by decide) (by have:=HLE.out; unfold maxLen; omega) (by have:=HLE.out; omega) (by have:=HBW.out; simp; omega) _ rfl ?_; intro g cap2 w2 hown2 hgrow2 hat2 hlt2; obtain ⟨t25,t25f⟩:=HKEEP.out _ _ hgrow2)
   all_goals (
    obtain ⟨R2,s1,s2,s3,s4⟩:=HFIN.out _ _ _ _ hown2 hgrow2 (by simpa using hat2)
    have cT:=turn_any s1 11
    have CT:=hide' cT
    have HS2:=hide' s2
    have HS3:=hide' s3
    have HS4:=hide' s4
    clear s1 s2 s3 s4 cT hown2 hgrow2 hat2 hlt2 t25 t25f HFIN HKEEP HOWN
    go_wp2_with fail
    refine CT.out.mono ?_
    rintro e W9 ⟨rfl,hS9,hTo9⟩
    have HS9:=hide' hS9
    have HTO9:=hide' hTo9
    clear hS9 hTo9 CT
    go_wp2_with fail
    go_ret
    refine ⟨rfl,R2, ?_,HS2.out.trans HTO9.out,HS3.out,HS4.out⟩
    have h9:=HS9.out
    obtain rfl:=HXX.out
    obtain rfl:=HVV.out
    obtain rfl:=HLL.out
    exact h9)
end
end Sc
end Go.Proofs.YteiiepjegdlbeaaDoor
