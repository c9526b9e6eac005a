import Derived.Test.YteiiepjegdlbeaaDoorScTok
import Derived.Test.YteiiepjegdlbeaaDoorChBegins
import Derived.Laws.AppendOwnNone
import Derived.Laws.BytesArg
import Derived.Test.YteiiepjegdlbeaaDoorScDrain
import Derived.Test.YteiiepjegdlbeaaDoorScLS
set_option maxHeartbeats 4000000
set_option maxRecDepth 10000
namespace Go.Proofs.YteiiepjegdlbeaaDoor
open Go.RowKit Go.Lib
namespace Sc
section
variable {w:World} {D B n:Nat} {f:Nat -> Nat} {pl:Nat × Nat × Nat × Nat}
theorem RowF.of_own {b:Nat} {v:Value} {l:List Value} {m:Nat} {g:Nat -> Nat} (h:w.ownsRow b 5 1 v m l) (hl:l=xs g m) (hb:B <= b) : RowF w B v m g:=by
 rcases h.2 with ⟨e1,e2⟩ | ⟨q,cap,cur,hv,hq,hg,h1,h2,h3,h4⟩
 . exact .inl ⟨e1,e2⟩
 . refine .inr ⟨q,0,cap,cur,hv,by omega,hg,h1,h2,by omega, ?_⟩
   rw [List.drop_zero, <- hl, <- h4,Nat.mul_one]
theorem push_no (h:SC w D B f 0 (noSt pl false) (noRaw (.slice none 0 0))) (q o m c:Nat) (g:Nat -> Nat) (hby:Bytes w q o m g) (hm:m <= 1099511627776) (hB:B <= w.heap.size) :
 Calls Tryd.prog 11 #[.pointer (some ⟨D,0,none⟩), .slice (some ⟨q,o,none⟩) m c] w fun e w' => e = .returned (.int .i64 0) /\ ∃ v,SC w' D B g m (noSt pl false) (noRaw v) /\ To D (noRaw (.slice none 0 0)) w (noRaw v) w':=by
 have c0:=h.c0
 have c5:=h.c5
 have f0:=h.fz 0
 have hlt:=h.lt0
 obtain ⟨i0,hi,hz0,hz1,hz2⟩:=info_parts scByte
 have hnw : ∀ j u,(xs g m)[j]? = some u -> w.cell? ((⟨q,o,none⟩ : Addr).add j)=some u:=fun j u hu => by
  rw [Addr.add_mid]
  have hj:j < m:=by
   rcases Nat.lt_or_ge j m with k | k
   . exact k
   . rw [List.getElem?_eq_none (by simp [xs]; omega)] at hu; cases hu
  rw [hby j hj]
  simpa [xs,hj] using hu
 have HKEEP:Hid (∀ w2:World,w.grownBy w2 none -> w2.cell? ⟨D,0,none⟩ = some (.slice none 0 0) /\ w2.frozen? ⟨D,0,none⟩ = false):=by
  intro w2 hg
  have hD:w2.heap[D]? = w.heap[D]? := hg.block D hlt (by simp)
  exact ⟨(World.cell?_of_block (a:=⟨D,0,none⟩) hD).trans c0,(World.frozen?_of_block (a:=⟨D,0,none⟩) hD).trans f0⟩
 have HFIN:Hid (∀ (v:Value) (w2:World),w2.ownsRow w.heap.size 5 1 v m (xs g m) -> w.grownBy w2 none -> SC (w2.setCell ⟨D,0,none⟩ v) D B g m (noSt pl false) (noRaw v) /\ To D (noRaw (.slice none 0 0)) w (noRaw v) (w2.setCell ⟨D,0,none⟩ v)):=by
  intro v w2 ho hg
  have hD:w2.heap[D]? = w.heap[D]? := hg.block D hlt (by simp)
  have hvl:=fun q e => (World.ownsRow.lt ho q e).1
  have hvD:v.ownBlock ≠ some D:=fun e => by have:=hvl D e; omega
  refine ⟨SC.none_of (Go.Joins.block_setCell (i:=0) (hD.trans h.cell) v) h.low ((RowF.of_own ho rfl hB).keep fun q e => RowKit.Below.heap_setCell _ _ _ _ fun e2 => hvD (by rw [show D=q from e2.symm]; exact e)) hvD,⟨⟨hg.os,hg.tape,hg.output,by have:=hg.size; simpa [World.setCell] using this,fun k hk hn => ?_⟩,fun q hq => ?_⟩⟩
  . exact (RowKit.Below.heap_setCell _ _ _ _ fun e => hn (by rw [e]; simp [foot])).trans (hg.block k hk (by simp))
  . rw [foot_no] at hq
    simp only [List.mem_cons,List.not_mem_nil,or_false,Option.some.injEq,reduceCtorEq,false_or] at hq
    rcases hq with e | e
    . left; rw [e]; simp [foot]
    . right; exact hvl q e.symm
 have HOWN:Hid (w.ownsRow w.heap.size 5 1 (.slice none 0 0) 0 []):=World.ownsRow_nil _ _ _ _
 have HNW:=hide' hnw
 have HM:=hide' hm
 clear h hnw hby hm hB
 dsimp only [noRaw,noSt] at c0 c5
 go_enter Tryd.func11,Tryd.ntmps11
 go_wp2_with (refine wpList_append_own _ rfl (.tmp 15) (.tmp 16) 22 rfl w.heap.size 5 i0 (.int .u8 0) 1 1 Tryd.underlying22 hi hz0 hz1 hz2 rfl (by decide) (.slice none 0 0) 0 [] rfl HOWN.out ⟨q,o,none⟩ m c (xs g m) rfl (by simp [xs]) HNW.out (by intro u hu; simp [xs] at hu; obtain ⟨_,_,rfl⟩:=hu; rfl) (by have:=HM.out; unfold maxLen; omega) (by have:=HM.out; omega) (Nat.le_refl _) ?_; intro v w2 hown hgrow hnil; obtain ⟨t0,t0f⟩:=HKEEP.out w2 hgrow; obtain ⟨pa,ca,rfl⟩:=own_shape hown; have HO:=hide' hown; have HG:=hide' hgrow; clear hown hgrow hnil)
 go_ret
 exact ⟨rfl,_,HFIN.out _ w2 (by have:=HO.out; rw [Nat.zero_add,List.nil_append] at this; exact this) HG.out⟩
end
end Sc
end Go.Proofs.YteiiepjegdlbeaaDoor
namespace Go.Proofs.YteiiepjegdlbeaaDoor
open Go.RowKit Go.Lib
def bs (f:Nat -> Nat) (n:Nat) : List Value:=(List.range n).map fun j => .int .u8 (f j:Nat)
theorem bs_length (f:Nat -> Nat) (n:Nat) : (bs f n).length=n:=by simp [bs]
theorem bs_get {f:Nat -> Nat} {n j:Nat} {u:Value} (h:(bs f n)[j]? = some u) : j < n /\ u = .int .u8 (f j:Nat):=by
 have hj:j < n:=by
  have:=(List.getElem?_eq_some_iff.1 h).1
  rwa [bs_length] at this
 simp [bs,hj] at h
 exact ⟨hj,h.symm⟩
theorem bs_one (f:Nat -> Nat) (n:Nat) : ∀ u ∈ bs f n,u.oneCell'=true:=by
 intro u hu
 simp [bs] at hu
 obtain ⟨a,_,rfl⟩:=hu
 rfl
inductive ArgS (w:World) (f:Nat -> Nat) (n:Nat) : Value -> Prop
 | nil (hn:n=0) : ArgS w f n (.slice none 0 0)
 | some (ad:Addr) (cap:Nat) (h1:n <= cap) (h2:cap <= maxLen) (hc : ∀ j,j < n -> w.cell? (ad.add j) = .some (.int .u8 (f j:Nat))) (hp:0 < n -> ∃ b o,ad=⟨b,o,none⟩) : ArgS w f n (.slice (.some ad) n cap)
theorem ArgS.below {w w':World} {f:Nat -> Nat} {n:Nat} {v:Value} (h:ArgS w f n v) {B:Nat} (hb:Below B w w') (hB:w.heap.size <= B) : ArgS w' f n v:=by
 cases h with
 | nil hn => exact .nil hn
 | some ad cap h1 h2 hc hp => exact .some ad cap h1 h2 (fun j hj => (hb.cell (p:=ad.add j) (Nat.lt_of_lt_of_le (block_lt_of_cell (hc j hj)) hB)).trans (hc j hj)) hp
theorem ArgS.span {w:World} {f:Nat -> Nat} {n:Nat} {v:Value} (h:ArgS w f n v) : ∃ pa cap,v = .slice pa n cap /\ n <= cap /\ (n=0 \/ ∃ b o,pa=Option.some ⟨b,o,none⟩ /\ Bytes w b o n f):=by
 cases h with
 | nil hn => subst hn; exact ⟨none,0,rfl,Nat.le_refl _, .inl rfl⟩
 | some ad cap h1 h2 hc hp =>
   refine ⟨_,cap,rfl,h1, ?_⟩
   by_cases h0:n=0
   . exact .inl h0
   . obtain ⟨b,o,rfl⟩:=hp (by omega)
     exact .inr ⟨b,o,rfl,fun j hj => by have:=hc j hj; rwa [show (Addr.add ⟨b,o,none⟩ j)=⟨b,o + j,none⟩ from by simp [Addr.add]] at this⟩
theorem byteInfo:(Tryd.prog.info? 5).map (fun i => (i.zero,i.size,i.bytes))=some (some (.int .u8 0),1,1):=by kernel_rfl
theorem owns_none (w:World) : (w.alloc (.cells #[] 5)).ownsRow w.heap.size 5 1 (.slice (some ⟨w.heap.size,0,none⟩) 0 0) 0 [] :=
 ⟨rfl, .inr ⟨w.heap.size,0, #[],rfl,Nat.le_refl _,(by show (w.heap.push _)[w.heap.size]? = _; simp),Nat.le_refl _,by decide,rfl,rfl⟩⟩
end Go.Proofs.YteiiepjegdlbeaaDoor
namespace Go.Proofs.YteiiepjegdlbeaaDoor
open Go.RowKit Go.Lib
theorem append_argS_if {w:World} {ops:Array Oper} {rest:List Oper} {o:Oper} {a:Act} {Q:Exit -> Act -> World -> Prop} (hw:Region.wanted o (yielded ops a.tmps)=true) (s x:Operand)
 (ho:o.op = .call { callee := .builtin .append,args := #[s,x],argTypes := #[22,22] }) (base:Nat) (v vx:Value) (n m:Nat) (cells:List Value) (f:Nat -> Nat) (hs:a.eval s=v) (hown:w.ownsRow base 5 1 v n cells)
 (hx:a.eval x=vx) (hA:ArgS w f m vx) (hv:v ≠ .slice none 0 0) (hb:n + m <= 140737488355328) (hbase:base <= w.heap.size)
 (h : ∀ v' w',w'.ownsRow base 5 1 v' (n + m) (cells ++ bs f m) -> w.grownBy w' v.ownBlock -> v' ≠ .slice none 0 0 -> wpList Tryd.prog ops Q rest (a.put o.dst v') w') : wpList Tryd.prog ops Q (o :: rest) a w:=by
 obtain ⟨i0,hi,hz0,hz1,hz2⟩:=info_parts byteInfo
 refine wpList_step fun K hK => ?_
 rw [if_pos hw]
 cases hA with
 | nil hn =>
   subst hn
   have hrun:=run_append_owned_none (P:=Tryd.prog) (w:=w) base 22 o.type 5 i0 1 Tryd.underlying22 hi v n cells hown
   unfold Oper.wp
   simp [execOp,ho,resolve,invoke,builtin,hs,hx,hrun,Result.andThen]
   exact hK _ _ (h v w (by simpa [bs] using hown) ⟨rfl,rfl,rfl,Nat.le_refl _,fun _ _ _ => rfl⟩ hv)
 | some ad cap h1 h2 hc =>
   refine wp_append_own w s x 22 ho base 5 i0 (.int .u8 0) 1 1 Tryd.underlying22 hi hz0 hz1 hz2 rfl (by decide) v n cells hs hown ad m cap (bs f m) hx (by rw [bs_length]; omega) ?_ (bs_one f m) (by unfold maxLen; omega) (by omega) hbase (fun v' w' h3 h4 h5 => hK _ _ (h v' w' h3 h4 (fun e => hv (h5.1 e).1)))
   intro j u hu
   obtain ⟨hj,rfl⟩:=bs_get hu
   exact hc j hj
namespace Sc
def WholeE (w:World) (f:Nat -> Nat) (n:Nat) (en:Bool) (e:Ending) (w':World) : Prop :=
 ∃ Q D R tk op V u how p,e = .returned (.tuple #[.pointer (some ⟨Q,0,none⟩), .bool true]) /\ Drv w' w.heap.size Q D R tk op V how p u.opn.reverse u.inn /\ StopE f n en 0 {} D w.heap.size (V.map (·.tk)) u R w' how p /\ Below w.heap.size w w'
theorem dr_new (n:Nat) : Dr.Ok {} /\ Dr.Nm {} /\ Dr.Sh {} n:=by
 refine ⟨⟨⟨fun h => (by cases h),fun h => absurd rfl h⟩,Nat.zero_le _⟩,fun l h => (by cases h),fun l h => (by cases h)⟩
theorem SC.ended' {w:World} {D B n:Nat} {f:Nat -> Nat} {pl:Nat × Nat × Nat × Nat} {v:Value} (h:SC w D B f n (noSt pl false) (noRaw v)) : SC (w.setCell ⟨D,5,none⟩ (.bool true)) D B f n (noSt pl true) (noRaw v) :=
 h.put 5 (.bool true) (noSt pl true) rfl ⟨rfl,rfl,rfl,rfl,rfl,rfl,rfl,rfl⟩
theorem wholeRun_any (w:World) (v:Value) (f:Nat -> Nat) (n:Nat) (en:Bool) (hS:Spans w) (hU:Lib.Utf8Tabs 2 3 w) (hf : ∀ j,f j < 256) (hA:ArgS w f n v) (hn:n <= 1073741824) :
 Calls Tryd.prog 9 #[v, .bool en] w (WholeE w f n en):=by
 have hT:Tb w.heap.size w:=⟨w,hS,hU,Nat.le_refl _,Below.refl _ _⟩
 obtain ⟨pa,cap,ev,_⟩:=hA.span
 subst ev
 have cN:=scNew_any w w.heap.size (Nat.le_refl _) f
 have CN:=hide' cN
 have HT:=hide' hT
 have HA:=hide' hA
 have HF:=hide' hf
 have HN:=hide' hn
 have iw:IntKind.i64.wrap ((n:Int) + 1)=n + 1:=by rw [IntKind.wrap_i64]; omega
 clear hT hS hU cN hA hf hn
 go_enter Tryd.func9,Tryd.ntmps9
 go_wp2_with fail
 refine CN.out.mono ?_
 rintro e w1 ⟨rfl,hS1,hb1,hl1⟩
 have hO:=owns_none w1
 have hbA:Below w1.heap.size w1 (w1.alloc (.cells #[] 5)):=(Below.refl _ _).alloc (Nat.le_refl _) _
 have hA2:=(HA.out.below hb1 (Nat.le_refl _)).below hbA (Nat.le_refl _)
 have HO:=hide' hO
 have HA2:=hide' hA2
 have HS1:=hide' (hS1.below hbA)
 have HB1:Hid (Below w.heap.size w (w1.alloc (.cells #[] 5))):=hb1.trans (hbA.mono hb1.size)
 have HL1:=hide' hl1
 have HS0:=hide' hS1
 have HB0:=hide' hb1
 clear hS1 hb1 hl1 hO hbA hA2 CN
 go_wp2_with (at_builtin; refine append_argS_if (by rfl) (.tmp 13) (.tmp 14) rfl w1.heap.size (.slice (some ⟨w1.heap.size,0,none⟩) 0 0) (.slice pa n cap) 0 n [] f rfl HO.out rfl HA2.out (by simp) (by have:=HN.out; omega) (by simp) ?_)
 intro v4 w4 hown hgrow hnn
 obtain ⟨q4,c4,e4,hby4⟩ : ∃ q c,v4 = .slice (some ⟨q,0,none⟩) n c /\ Bytes w4 q 0 n f:=by
  rcases hown.2 with ⟨e,_⟩ | ⟨q,c,cur,e,_⟩
  . exact absurd e hnn
  . refine ⟨q,c,e,fun j hj => ?_⟩
    have:=World.ownsRow.cells hown (g:=q) (by rw [e]; rfl) j (.int .u8 (f j)) (by simp [bs,hj])
    rw [Addr.add_lit] at this
    exact this
 subst e4
 have hb4:Below w1.heap.size w1 w4:=by
  refine ⟨hgrow.os,hgrow.tape,hgrow.output,by have:=hgrow.size; simp at this; omega,fun k hk => ?_⟩
  exact (hgrow.block k (by simp; omega) (by simp [Value.ownBlock]; omega)).trans (((Below.refl w1.heap.size w1).alloc (Nat.le_refl _) (.cells #[] 5)).block k hk)
 have hS4:=HS0.out.below hb4
 have hB4:Below w.heap.size w w4:=HB0.out.trans (hb4.mono HB0.out.size)
 have cP:=push_no hS4 q4 0 n c4 f hby4 (by have:=HN.out; omega) hB4.size
 have CP:=hide' cP
 have HS4:=hide' hS4
 have HB4:=hide' hB4
 clear hown hgrow hnn hby4 hb4 hS4 hB4 cP HO HA2 HS1 HB1 HL1
 go_wp2_with fail
 refine CP.out.mono ?_
 rintro e w5 ⟨rfl,v5,hS5,hTo5⟩
 have hB5:Below w.heap.size w w5:=HB4.out.trans (HS4.out.to_below hTo5)
 have HS5:=hide' hS5
 have HB5:=hide' hB5
 clear hS5 hB5 hTo5 CP HS4 HB4
 have key : ∀ w6,SC w6 w.heap.size w.heap.size f n (noSt (0,0,1,1) en) (noRaw v5) -> Below w.heap.size w w6 ->
  Hid (Calls Tryd.prog 12 #[.pointer (some ⟨w6.heap.size,0,none⟩), .pointer (some ⟨w.heap.size,0,none⟩), .int .i64 ((n:Int) + 1)] (w6.alloc (.cells #[.slice none 0 0, .int .i64 0, .int .i64 0, .int .i64 0, .int .i64 0, .int .i64 0, .slice none 0 0, .int .i64 0] 36)) fun e w' => e = .returned (.bool true) /\ DrainE (w6.alloc (.cells #[.slice none 0 0, .int .i64 0, .int .i64 0, .int .i64 0, .int .i64 0, .int .i64 0, .slice none 0 0, .int .i64 0] 36)) w.heap.size w6.heap.size w.heap.size (noRaw v5) (.slice none 0 0) (.slice none 0 0) [] f n en 0 {} w'):=by
  intro w6 hS6 hB6
  show Calls _ _ _ _ _
  rw [show ((n:Int) + 1)=((n + 1:Nat) : Int) by omega]
  have hbA:Below w6.heap.size w6 (w6.alloc (.cells #[.slice none 0 0, .int .i64 0, .int .i64 0, .int .i64 0, .int .i64 0, .int .i64 0, .slice none 0 0, .int .i64 0] 36)):=(Below.refl _ _).alloc (Nat.le_refl _) _
  have hS7:=hS6.below hbA
  have hT7:Tb w.heap.size (w6.alloc (.cells #[.slice none 0 0, .int .i64 0, .int .i64 0, .int .i64 0, .int .i64 0, .int .i64 0, .slice none 0 0, .int .i64 0] 36)):=(HT.out.to hB6).to (hbA.mono hB6.size)
  obtain ⟨d1,d2,d3⟩:=dr_new n
  refine drain_any (u0 := {}) (how0:=0) (p0:=(0,0,0,0)) ?_ ?_ hT7 HF.out HN.out (by simp) (Nat.le_refl _) (n + 1) ?_ (by have:=HN.out; omega)
  . refine ⟨heap_alloc_new w6 _,hB6.size,World.ownsRow_nil _ _ _ _,World.ownsRow_nil _ _ _ _,fun t m => (by cases m),fun hq => ?_,fun q e => (by cases e),fun q e => (by cases e)⟩
    have:=(hS6.lt _ hq).2
    omega
  . refine ⟨0, [], .refl _ _,d1,d2,d3, .refl _,Nat.zero_le _, .inl ⟨rfl,none, ?_, .inl rfl⟩⟩
    have e1:Rn.off f 0=f:=by funext j; simp [Rn.off]
    have e2:plw f n 0=(0,0,1,1):=by simp [plw,pla,Rn.plcFrom]
    rw [e1,e2]
    exact ⟨_,hS7.toE,rfl,rfl,rfl⟩
  . intro T u R w' h
    have:=h.len
    omega
 have HKEY:=hide' key
 have HFIN:Hid (∀ w6 w7,Below w.heap.size w w6 -> SC w6 w.heap.size w.heap.size f n (noSt (0,0,1,1) en) (noRaw v5) -> DrainE (w6.alloc (.cells #[.slice none 0 0, .int .i64 0, .int .i64 0, .int .i64 0, .int .i64 0, .int .i64 0, .slice none 0 0, .int .i64 0] 36)) w.heap.size w6.heap.size w.heap.size (noRaw v5) (.slice none 0 0) (.slice none 0 0) [] f n en 0 {} w7 -> WholeE w f n en (.returned (.tuple #[.pointer (some ⟨w6.heap.size,0,none⟩), .bool true])) w7):=by
  intro w6 w7 hB6 hS6 hd
  obtain ⟨V,u,R',tk',op',how,p,h1,h2,h3,h4⟩:=hd
  rw [List.nil_append] at h1
  refine ⟨_,_,R',tk',op',V,u,how,p,rfl,h1,h2,hB6.trans ?_⟩
  have hbA:Below w6.heap.size w6 (w6.alloc (.cells #[.slice none 0 0, .int .i64 0, .int .i64 0, .int .i64 0, .int .i64 0, .int .i64 0, .slice none 0 0, .int .i64 0] 36)):=(Below.refl _ _).alloc (Nat.le_refl _) _
  refine (hbA.mono hB6.size).trans ⟨h3.mv.os,h3.mv.tape,h3.mv.output,h3.mv.size,fun k hk => h3.mv.block k (by have:=hB6.size; simp; omega) (fun m => ?_)⟩
  simp only [dfoot,List.mem_cons] at m
  rcases m with m | m | m | m
  . cases m; have:=hB6.size; omega
  . cases m
  . cases m
  . have:=(hS6.lt k m).1; omega
 clear key
 cases en
 . have CD:=HKEY.out w5 HS5.out HB5.out
   have FD:=hide' (fun w7 => HFIN.out w5 w7 HB5.out HS5.out)
   clear HKEY HFIN HS5 HB5
   go_wp2_with fail
   refine CD.out.mono ?_
   rintro e w7 ⟨rfl,hd⟩
   have F:=FD.out w7 hd
   have HFF:=hide' F
   clear hd F CD FD
   go_wp2_with fail
   refine bodyPost_ret (v := .tuple #[.pointer (some ⟨w5.heap.size,0,none⟩), .bool true]) (by simp [results,Tryd.results9,go_sem]) rfl ?_
   exact HFF.out
 . have cE:=end_any HS5.out.toE
   have hS6:=HS5.out.ended'
   have hB6:Below w.heap.size w (w5.setCell ⟨w.heap.size,5,none⟩ (.bool true)):=HB5.out.setCell (p:=⟨w.heap.size,5,none⟩) (Nat.le_refl _) _
   have CD:=HKEY.out _ hS6 hB6
   have FD:=hide' (fun w7 => HFIN.out _ w7 hB6 hS6)
   simp only [noSt,Bool.false_eq_true,if_false] at cE
   generalize hw6:w5.setCell ⟨w.heap.size,5,none⟩ (.bool true)=w6 at cE CD FD
   have CE:=hide' cE
   clear HKEY HFIN HS5 HB5 cE hS6 hB6 hw6
   go_wp2_with fail
   refine CE.out.mono ?_
   rintro e w6' ⟨rfl,hw⟩
   replace hw:=hw.symm
   subst hw
   clear CE
   go_wp2_with fail
   refine CD.out.mono ?_
   rintro e w7 ⟨rfl,hd⟩
   have F:=FD.out w7 hd
   have HFF:=hide' F
   clear hd F CD FD
   go_wp2_with fail
   refine bodyPost_ret (v := .tuple #[.pointer (some ⟨w6.heap.size,0,none⟩), .bool true]) (by simp [results,Tryd.results9,go_sem]) rfl ?_
   exact HFF.out
end Sc
end Go.Proofs.YteiiepjegdlbeaaDoor
namespace Go.Proofs.YteiiepjegdlbeaaDoor
open Go.RowKit Go.Lib
namespace Sc
def StopM (f:Nat -> Nat) (n:Nat) (en:Bool) (how:Nat) (p:Nat × Nat × Nat × Nat) : Prop := ∃ b k T u,Told f n 0 {} T b u /\ Fin f n b u k /\ Stop f n en b u k how p
theorem StopE.math {f:Nat -> Nat} {n:Nat} {en:Bool} {D B:Nat} {T:List Tk} {u:Dr} {R:Raw} {w:World} {how:Nat} {p:Nat × Nat × Nat × Nat} (h:StopE f n en 0 {} D B T u R w how p) : StopM f n en how p:=by
 obtain ⟨b,k,a1,a2,a3,a4,a5,a6,a7,a8,a9,a10,_⟩:=h
 exact ⟨b,k,T,u,a1,a2,a10⟩
theorem Fin.how {f:Nat -> Nat} {n b:Nat} {u:Dr} {k:Wk} (h:Fin f n b u k) : k.how=1 \/ k.how=2:=by
 have:=h.go.how3 rfl
 have:=h.no
 omega
theorem stop_how {f:Nat -> Nat} {n:Nat} {how:Nat} {p:Nat × Nat × Nat × Nat} (h:StopM f n true how p) : how=3 \/ (how=2 /\ p.1 <= n /\ (∀ how' p',StopM f p.1 false how' p' -> how'=1) /\ (p.1 < n -> ∀ (g:Nat -> Nat) (m:Nat),p.1 < m -> (∀ j,j <= p.1 -> f j=g j) -> ∀ how' p',StopM g m false how' p' -> how'=2 /\ p'.1=p.1)):=by
 obtain ⟨b,k,T,u,hT,hF,hS⟩:=h
 have hTg:=hT.tags
 rcases hF.how with e | e
 . by_cases c : u.inn = 2 ∧ k.st = 0
   . exact .inl (hS.done e rfl c).1
   . obtain ⟨h1,h2⟩:=hS.over e rfl c
     right
     have h3:p.1=n:=by rw [h2]; show 0 + n=n; omega
     rw [h3]
     refine ⟨h1,Nat.le_refl _,fun how' p' hm => ?_,fun hlt => absurd hlt (by omega)⟩
     obtain ⟨b',k',T',u',hT',hF',hS'⟩:=hm
     obtain ⟨rfl,rfl,rfl⟩:=hTg.only hF hT'.tags hF'
     exact (hS'.wait e rfl).1
 . obtain ⟨h1,h2⟩:=hS.bad e
   obtain ⟨q1,⟨v,q2,q3,q4⟩,q5⟩:=hTg.bad hF e
   have h3:p.1=b + k.bad:=by rw [h2]; show 0 + (b + k.bad)=b + k.bad; omega
   right
   rw [h3]
   refine ⟨h1,by omega,fun how' p' hm => ?_,fun _ g m hm hfg how' p' hs => ?_⟩
   . obtain ⟨b',k',T',u',hT',hF',hS'⟩:=hm
     obtain ⟨rfl,rfl,rfl⟩:=q2.only q3 hT'.tags hF'
     exact (hS'.wait q4 rfl).1
   . obtain ⟨b',k',T',u',hT',hF',hS'⟩:=hs
     obtain ⟨r1,r2⟩:=q5 g m hm hfg
     obtain ⟨rfl,rfl,rfl⟩:=r1.only r2 hT'.tags hF'
     obtain ⟨s1,s2⟩:=hS'.bad e
     exact ⟨s1,by rw [s2]; show 0 + (b + k.bad)=b + k.bad; omega⟩
end Sc
end Go.Proofs.YteiiepjegdlbeaaDoor
