import Derived.Test.YteiiepjegdlbeaaDoorScLS
import Derived.BigQuiet
import Derived.Deep.CutRange
import Derived.Deep.CutBlock
import Derived.Deep.LoopGhost
set_option maxHeartbeats 8000000
set_option maxRecDepth 10000
namespace Go.Proofs.YteiiepjegdlbeaaDoor
open Go.RowKit Go.Lib
namespace Sc
theorem tokInfo3:(Tryd.prog.info? 43).map (fun i => (i.zero,i.size,i.bytes))=some (some (.agg tok0),12,128):=by kernel_rfl
theorem strInfo3:(Tryd.prog.info? 9).map (fun i => (i.zero,i.size,i.bytes))=some (some (.string ⟨#[]⟩),1,16):=by kernel_rfl
theorem pla_set (p:Nat × Nat × Nat × Nat) : setAll place0 0 (plaA p).toList=plaA p:=by kernel_rfl
theorem tok0_set:setAll tok0 0 tok0.toList=tok0:=by kernel_rfl
theorem TkV.set (t:TkV) : setAll tok0 0 t.arr.toList=t.arr:=tok_set _ _ _ _ _ _
structure Vars (W W':World) (tk pk:Array Value) : Prop where
 bel:Below W.heap.size W W'
 tok:W'.heap[W.heap.size]? = some (.cells tk 43 (0,0))
 pla:W'.heap[W.heap.size + 1]? = some (.cells pk 32 (0,0))
 size:W'.heap.size=W.heap.size + 2
theorem vars_fin (W:World) {tk pk:Array Value} (hsz:tk.size=12) (hst:setAll tok0 0 tk.toList=tk) (hpz:pk.size=4) (hpt:setAll place0 0 pk.toList=pk) :
 ((W.alloc (.cells tok0 43)).alloc (.cells place0 32)).there W.heap.size 0 tk.size /\
 (((W.alloc (.cells tok0 43)).alloc (.cells place0 32)).setCells W.heap.size 0 tk.toList).there (W.heap.size + 1) 0 pk.size /\
 Vars W ((((W.alloc (.cells tok0 43)).alloc (.cells place0 32)).setCells W.heap.size 0 tk.toList).setCells (W.heap.size + 1) 0 pk.toList) tk pk:=by
 have h6:((W.alloc (.cells tok0 43)).alloc (.cells place0 32)).heap[W.heap.size]? = some (.cells tok0 43 (0,0)) :=
  (((Below.refl _ _).alloc (Nat.le_refl _) _).block W.heap.size (by simp)).trans (heap_alloc_new W _)
 have h7:((W.alloc (.cells tok0 43)).alloc (.cells place0 32)).heap[W.heap.size + 1]? = some (.cells place0 32 (0,0)):=by
  have:=heap_alloc_new (W.alloc (.cells tok0 43)) (.cells place0 32)
  rw [show (W.alloc (.cells tok0 43)).heap.size=W.heap.size + 1 by simp] at this
  exact this
 refine ⟨there6 h6 hsz,there7 (far7 h7) hpz,⟨?_, ?_, ?_, ?_⟩⟩
 . exact below_cells (by omega) _ _ _ (below_cells (Nat.le_refl _) _ _ _ (((Below.refl W.heap.size W).alloc (Nat.le_refl _) _).alloc (by simp) _))
 . refine (heap_setCells_far (by omega) _ _ _).trans ?_
   have:=heap_setCells tk.toList 0 _ _ h6
   rw [hst] at this
   exact this
 . have:=heap_setCells pk.toList 0 _ _ (far7 (tk:=tk) h7)
   rw [hpt] at this
   exact this
 . rw [size_setCells,size_setCells]
   simp
theorem run_set (tk op:Value) (how:Nat) (p p':Nat × Nat × Nat × Nat) (inn:Nat) : setAll (runA tk op how p inn) 2 (plaA p').toList=runA tk op how p' inn:=by kernel_rfl
theorem Drv.place {w:World} {B Q D:Nat} {R:Raw} {tk op:Value} {T:List TkV} {how inn:Nat} {p:Nat × Nat × Nat × Nat} {o:List (List UInt8)} (h:Drv w B Q D R tk op T how p o inn) (p':Nat × Nat × Nat × Nat) : Drv (w.setCells Q 2 (plaA p').toList) B Q D R tk op T how p' o inn:=by
 have hne : ∀ q,q ≠ Q -> (w.setCells Q 2 (plaA p').toList).heap[q]? = w.heap[q]? := fun q e => heap_setCells_far e _ _ _
 refine ⟨?_,h.low,own_keep h.toks fun q e => hne q (h.aT q e).2,own_keep h.opn fun q e => hne q (h.aO q e).2.1,fun t m => ⟨own_keep (h.attrs t m).1 fun q e => hne q fun k => (h.attrs t m).2 q e (by simp [dfoot,k]),(h.attrs t m).2⟩,h.aQ,h.aT,h.aO⟩
 have:=heap_setCells (plaA p').toList 2 _ _ h.cell
 rw [run_set] at this
 exact this
theorem Drv.there {w:World} {B Q D:Nat} {R:Raw} {tk op:Value} {T:List TkV} {how inn:Nat} {p:Nat × Nat × Nat × Nat} {o:List (List UInt8)} (h:Drv w B Q D R tk op T how p o inn) (pk:Array Value) (hp:pk.size=4) : w.there Q 2 pk.size:=there_of h.cell 2 pk.size (by rw [hp]; show 2 + 4 <= 8; omega)
theorem ToX.cells {X:List (Option Nat)} {w:World} {Q o:Nat} (hq:some Q ∈ X) (vs:List Value) : ToX X X w (w.setCells Q o vs):=by
 have b:=below_cells (B:=0) (a:=w) (Nat.zero_le Q) vs o w (Below.refl _ _)
 exact ⟨⟨b.os,b.tape,b.output,by rw [size_setCells]; exact Nat.le_refl _,fun k _ hn => heap_setCells_far (fun e => hn (by rw [e]; exact hq)) _ _ _⟩,fun _ h => .inl h⟩
section
variable {w:World} {B Q D:Nat} {R:Raw} {tk op:Value} {T0:List TkV} {how0:Nat} {p0:Nat × Nat × Nat × Nat} {f:Nat -> Nat} {n a0:Nat} {en:Bool} {u0:Dr}
def TokC (f:Nat -> Nat) (n:Nat) (en:Bool) (a0:Nat) (u0:Dr) (D B:Nat) (T:List Tk) (u:Dr) (_R R1 R2:Raw) (w w':World) (tkx:Array Value) : Prop :=
 ∃ t av,tkx=(TkV.mk t av).arr /\ LS f n en a0 u0 D B (T ++ [t]) (u.after t) R2 w' /\ w'.ownsRow B 61 2 av t.attrs.length (acells t.attrs) /\ (∀ q,av.ownBlock=some q -> some q ∉ foot D R2 /\ (some q ∈ foot D R1 \/ w.heap.size <= q)) /\ t.kind <= 3 /\ (t.kind=2 -> u.opn ≠ [])
def CaseE (f:Nat -> Nat) (n:Nat) (en:Bool) (a0:Nat) (u0:Dr) (D B:Nat) (T:List Tk) (u:Dr) (R R1 R2:Raw) (w w':World) (tkx:Array Value) (p:Nat × Nat × Nat × Nat) (how:Nat) : Prop :=
 (how=0 /\ p=(0,0,0,0) /\ TokC f n en a0 u0 D B T u R R1 R2 w w' tkx) \/ (how ≠ 0 /\ StopE f n en a0 u0 D B T u R2 w' how p)
structure G5 (wc w1 W:World) (B Q D:Nat) (R1 R2:Raw) (tk op:Value) (T:List TkV) (how:Nat) (p:Nat × Nat × Nat × Nat) (u:Dr) (tkx:Array Value) : Prop where
 d:Drv W B Q D R2 tk op T how p u.opn.reverse u.inn
 x:ToX (dfoot D Q R1 tk op) (dfoot D Q R2 tk op) wc W
 k : ∀ q,q < w1.heap.size -> q ≠ Q -> W.heap[q]? = w1.heap[q]?
 s:W.heap[w1.heap.size]? = some (.cells tkx 43 (0,0))
 q:Q < w1.heap.size
 b:Tb B W
theorem G5.place {wc w1 W:World} {B Q D:Nat} {R1 R2:Raw} {tk op:Value} {T:List TkV} {how:Nat} {p:Nat × Nat × Nat × Nat} {u:Dr} {tkx:Array Value} (h:G5 wc w1 W B Q D R1 R2 tk op T how p u tkx) (p':Nat × Nat × Nat × Nat) : G5 wc w1 (W.setCells Q 2 (plaA p').toList) B Q D R1 R2 tk op T how p' u tkx :=
 ⟨h.d.place p',h.x.trans (ToX.cells (o:=2) (show some Q ∈ dfoot D Q R2 tk op by simp [dfoot]) (plaA p').toList),fun q h1 h2 => (heap_setCells_far h2 _ _ _).trans (h.k q h1 h2),(heap_setCells_far (by have:=h.q; omega) _ _ _).trans h.s,h.q,h.b.to (below_cells h.d.low (plaA p').toList 2 W (Below.refl _ _))⟩
def DLoop (w:World) (B Q D:Nat) (R:Raw) (tk op:Value) (T0:List TkV) (f:Nat -> Nat) (n:Nat) (en:Bool) (a0:Nat) (u0:Dr) (most gk:Nat) (i:Value) (wr:World) : Prop :=
 ∃ V u R' tk' op' how p,i = .int .i64 (List.length V:Nat) /\ most + 1 < gk + List.length V /\ Drv wr B Q D R' tk' op' (T0 ++ V) how p u.opn.reverse u.inn /\ LS f n en a0 u0 D B (V.map (·.tk)) u R' wr /\ ToX (dfoot D Q R tk op) (dfoot D Q R' tk' op') w wr /\ Tb B wr
def DrainE (w:World) (B Q D:Nat) (R:Raw) (tk op:Value) (T0:List TkV) (f:Nat -> Nat) (n:Nat) (en:Bool) (a0:Nat) (u0:Dr) (w':World) : Prop :=
 ∃ V u R' tk' op' how p,Drv w' B Q D R' tk' op' (T0 ++ V) how p u.opn.reverse u.inn /\ StopE f n en a0 u0 D B (V.map (·.tk)) u R' w' how p /\ ToX (dfoot D Q R tk op) (dfoot D Q R' tk' op') w w' /\ Tb B w'
theorem drain_any (hD:Drv w B Q D R tk op T0 how0 p0 u0.opn.reverse u0.inn) (hL:LS f n en a0 u0 D B [] u0 R w) (hT:Tb B w) (hf : ∀ j,f j < 256) (hbig:n <= 1073741824) (hT0:T0.length <= 1073741824) (hO0:u0.opn.length <= a0) (most:Nat) (hmost : ∀ T u R w,LS f n en a0 u0 D B T u R w -> T.length <= most) (hm2:most <= 1099511627776) :
 Calls Tryd.prog 12 #[.pointer (some ⟨Q,0,none⟩), .pointer (some ⟨D,0,none⟩), .int .i64 most] w fun e w' => e = .returned (.bool true) /\ DrainE w B Q D R tk op T0 f n en a0 u0 w':=by
 have HD:=hide' hD
 have HL:=hide' hL
 have HT:=hide' hT
 have HF:=hide' hf
 have HBG:=hide' hbig
 have HT0:=hide' hT0
 have HO0:=hide' hO0
 have HM:=hide' hmost
 clear hD hL hT hf hbig hT0 hO0 hmost
 go_enter Tryd.func12,Tryd.ntmps12
 go_wp2
 go_loopg [7] (most + 2) (fun gk i wr => DLoop w B Q D R tk op T0 f n en a0 u0 most gk i wr)
 case atStart =>
  exact ⟨[],u0,R,tk,op,how0,p0,rfl,by show most + 1 < most + 2 + 0; omega,by rw [List.append_nil]; exact HD.out,HL.out, .of_below (Below.refl _ _),HT.out⟩
 case round =>
  obtain ⟨V,u,R1,tk1,op1,how1,p1,rfl,hgk,hD1,hL1,hX1,hT1⟩:=hrel
  have hlen:=HM.out _ _ _ _ hL1
  rw [List.length_map] at hlen
  have g1:(V.length:Int) <= most:=by omega
  have c6:=hD1.c 6 op1 rfl
  obtain ⟨po,co,eo⟩:=own_shape hD1.opn
  rw [eo] at c6
  obtain ⟨DS,hDS⟩ : ∃ DS:World -> Prop,DS=fun wx => Drv wx B Q D R1 tk1 op1 (T0 ++ V) how1 p1 u.opn.reverse u.inn /\ LS f n en a0 u0 D B (V.map (·.tk)) u R1 wx /\ ToX (dfoot D Q R tk op) (dfoot D Q R1 tk1 op1) w wx /\ Tb B wx:=⟨_,rfl⟩
  have hB1:B <= wr.heap.size:=Nat.le_trans hD1.low (Nat.le_of_lt hD1.lt)
  have hds : ∀ wx,Below wr.heap.size wr wx -> DS wx:=fun wx hb => by
   rw [hDS]
   exact ⟨hD1.below hb,hL1.keep (hT1.below hb hB1) (fun q hq => hb.block q (hL1.lt q hq).2) (Nat.le_trans hB1 hb.size),hX1.trans (.of_below hb),hT1.below hb hB1⟩
  have HDS:=hide' hds
  have HDD:=hide' hDS
  have HGK:=hide' hgk
  have HLEN:=hide' hlen
  have hopn:=hD1.opn
  have HRL:Hid (u.opn.length <= 1073741824):=Nat.le_trans (hL1.opl HO0.out) HBG.out
  clear hDS hds hgk hlen hL1 hX1 hT1 hD1 hB1
  obtain ⟨nl,hnl⟩ : ∃ nl,nl=u.opn.headD []:=⟨_,rfl⟩
  have HNL:=hide' hnl
  clear hnl
  go_upto_if 22 with fail
  go_cut [8] from 12 to 119 (fun nm wx => nm = .string ⟨nl.toArray⟩ /\ DS wx)
  case first =>
   by_cases ho:u.opn = []
   . have z : ¬ 0 < u.opn.length:=by rw [ho]; simp
     have HO:=hide' ho
     clear hopn eo ho
     go_wp2_with fail
     go_meet
     exact ⟨by rw [HNL.out,HO.out]; rfl,HDS.out _ (Below.refl _ _)⟩
   . obtain ⟨a,r,ho⟩:=List.exists_cons_of_ne_nil ho
     obtain ⟨m,hm⟩ : ∃ m,u.opn.reverse.length=m + 1:=⟨r.length,by rw [ho]; simp⟩
     have hmr:m=r.length:=by rw [ho] at hm; simp at hm; omega
     obtain ⟨g,hg,hgc⟩ : ∃ g,po=some ⟨g,0,none⟩ /\ wr.cell? ⟨g,m,none⟩ = some (.string ⟨a.toArray⟩):=by
      rcases hopn.2 with ⟨_,e⟩ | ⟨g,cap,cur,e,_,hcur,_⟩
      . omega
      . rw [eo] at e
        have e2:po=some ⟨g,0,none⟩:=by cases e; rfl
        refine ⟨g,e2, ?_⟩
        have hc:=World.ownsRow.cells hopn (g:=g) (by rw [eo,e2]; rfl) m (.string ⟨a.toArray⟩) (by
         unfold strs
         rw [ho,List.reverse_cons,List.map_append,hmr]
         simp)
        rw [Addr.add_lit,Nat.zero_add] at hc
        exact hc
     have z:0 < u.opn.length:=by rw [ho]; simp
     have hl1:u.opn.length=m + 1:=by rw [ho,hmr]; simp
     rw [hg] at c6
     have i0:m <= 1073741824:=by have:=HRL.out; omega
     have i1:(u.opn.length:Int) - 1=m:=by omega
     have i2:IntKind.i64.wrap (m:Int)=m:=by rw [IntKind.wrap_i64]; omega
     have i3:(m:Int) < u.opn.length:=by omega
     have i5:m < u.opn.length:=by omega
     have HO:=hide' ho
     subst hg
     clear hopn eo ho hm hmr hl1 i0
     go_wp2_with fail
     go_quiet (fail)
     go_wp2_with fail
     go_meet
     exact ⟨by rw [HNL.out,HO.out]; rfl,HDS.out _ (below_drewN (Below.refl _ _) _)⟩
  case rest =>
   obtain ⟨rfl,hds⟩:=hcut
   rw [HDD.out] at hds
   obtain ⟨hD1,hL1,hX1,hT1⟩:=hds
   have hB1:B <= wc.heap.size:=Nat.le_trans hD1.low (Nat.le_of_lt hD1.lt)
   have c7:wc.cell? ⟨Q,7,none⟩ = some (.int .i64 (u.inn:Nat)):=hD1.c 7 _ rfl
   have cN:=next_ls hL1 hT1 hB1 HF.out HBG.out nl HNL.out
   have CN:=hide' cN
   have HD1:=hide' hD1
   have HX1:=hide' hX1
   have HL1QR:Hid (some Q ∉ foot D R1):=hD1.aQ
   have HQC:Hid (Q < wc.heap.size):=hD1.lt
   have HDT:Hid (∀ q,tk1.ownBlock=some q -> some q ∉ foot D R1 /\ q < wc.heap.size):=fun q e => ⟨(hD1.aT q e).1,(World.ownsRow.lt hD1.toks q e).2⟩
   have HDO:Hid (∀ q,op1.ownBlock=some q -> some q ∉ foot D R1 /\ q < wc.heap.size):=fun q e => ⟨(hD1.aO q e).1,(World.ownsRow.lt hD1.opn q e).2⟩
   have HRL0:=HRL
   clear cN hD1 hX1 hT1 hL1 hB1 c6 hopn eo HDS HDD HRL
   go_wp2_with fail
   refine CN.out.mono ?_
   rintro e w1 ⟨R2,hTo,hTb,hcase⟩
   have hx : ∃ tkx p how,e = .returned (.tuple #[.agg tkx,plaV p, .int .i64 ((how:Nat) : Int)]) /\ tkx.size=12 /\ setAll tok0 0 tkx.toList=tkx /\ tkx.all (·.oneCell')=true /\ CaseE f n en a0 u0 D B (V.map (·.tk)) u R R1 R2 wc w1 tkx p how:=by
    rcases hcase with ⟨t,av,rfl,q⟩ | ⟨how,p,rfl,q⟩
    . refine ⟨_,_,_,rfl,rfl,TkV.set _, ?_, .inl ⟨rfl,rfl,t,av,rfl,q⟩⟩
      obtain ⟨pa,c,e⟩:=own_shape q.2.1
      subst e
      exact tokOne _ _ _ _ _ _ _ _
    . have hn:how ≠ 0:=by
       obtain ⟨_,_,_,_,_,_,_,_,_,a,b,_⟩:=q
       exact a
      exact ⟨_,_,_,rfl,rfl,tok0_set,tok0One, .inr ⟨hn,q⟩⟩
   obtain ⟨tkx,p,how,rfl,y1,y2,y7,hcs⟩:=hx
   have hD2:=HD1.out.to hTo
   obtain ⟨pkx,hpk⟩ : ∃ pkx,pkx=plaA p:=⟨_,rfl⟩
   rw [show plaV p = .agg pkx from congrArg Value.agg hpk.symm]
   have y3:pkx.size=4:=by rw [hpk]; rfl
   have y4:setAll place0 0 pkx.toList=pkx:=by rw [hpk]; exact pla_set p
   have y5:(Tryd.prog.info? 43).map (·.size)=some tkx.size:=by rw [y1]; exact tokInfo
   have y6:(Tryd.prog.info? 32).map (·.size)=some pkx.size:=by rw [y3]; exact placeInfo
   have y8:pkx.all (·.oneCell')=true:=by rw [hpk]; exact plaOne p
   have Y1:=hide' y1
   have Y2:=hide' y2
   have Y3:=hide' y3
   have Y4:=hide' y4
   have Y5:=hide' y5
   have Y6:=hide' y6
   have Y7:=hide' y7
   have Y8:=hide' y8
   have HPK:=hide' hpk
   have HCS:=hide' hcs
   have HTo:=hide' hTo
   have HTb:=hide' hTb
   have HWC:Hid (wc.heap.size <= w1.heap.size):=hTo.mv.size
   have HD2:=hide' hD2
   clear y1 y2 y3 y4 y5 y6 y7 y8 hpk hcs hcase hTo hTb hD2 CN c7
   go_upto_region 8 with (first | refine wpList_store_mid rfl 43 (.tmp 9) (.tmp 43) rfl w1.heap.size 0 tkx rfl rfl (vars_fin w1 Y1.out Y2.out Y3.out Y4.out).1 Y5.out Y7.out ?_ | refine wpList_store_mid rfl 32 (.tmp 10) (.tmp 44) rfl (w1.heap.size + 1) 0 pkx rfl rfl (vars_fin w1 Y1.out Y2.out Y3.out Y4.out).2.1 Y6.out Y8.out ?_)
   have hV:=(vars_fin w1 Y1.out Y2.out Y3.out Y4.out).2.2
   change Code.wp _ _ _ _ ((((w1.alloc (.cells tok0 43)).alloc (.cells place0 32)).setCells w1.heap.size 0 tkx.toList).setCells (w1.heap.size + 1) 0 pkx.toList)
   generalize (((w1.alloc (.cells tok0 43)).alloc (.cells place0 32)).setCells w1.heap.size 0 tkx.toList).setCells (w1.heap.size + 1) 0 pkx.toList=W4 at hV ⊢
   have hD4:=HD2.out.below hV.bel
   have e1:=hD4.c 1 (.int .i64 (how1:Nat)) rfl
   have z1:=hD4.fz 1
   have HD4:=hide' hD4
   have HV:=hide' hV
   clear hD4 hV Y1 Y2 Y4 Y5 Y7
   go_upto_region 9 with fail
   have hD5:=HD4.out.put 1 (.int .i64 (how:Nat)) (how':=how) (p':=p1) (inn':=u.inn) rfl
   have hQT:w1.heap.size + 1 ≠ Q:=by have:=HD2.out.lt; omega
   have hQU:w1.heap.size ≠ Q:=by have:=HD2.out.lt; omega
   have hP5:(W4.setCell ⟨Q,1,none⟩ (.int .i64 (how:Nat))).heap[w1.heap.size + 1]? = some (.cells pkx 32 (0,0)):=(RowKit.Below.heap_setCell _ _ _ _ hQT).trans HV.out.pla
   have hG5:G5 wc w1 (W4.setCell ⟨Q,1,none⟩ (.int .i64 (how:Nat))) B Q D R1 R2 tk1 op1 (T0 ++ V) how p1 u tkx:=by
    have hk : ∀ q,q < w1.heap.size -> q ≠ Q -> (W4.setCell ⟨Q,1,none⟩ (.int .i64 (how:Nat))).heap[q]? = w1.heap[q]? := fun q h1 h2 => (RowKit.Below.heap_setCell _ _ _ _ h2).trans (HV.out.bel.block q h1)
    have hlo:=HD2.out.low
    refine ⟨hD5,(ToX.of_to (Q:=Q) (tk:=tk1) (op:=op1) HTo.out).trans ((ToX.of_below HV.out.bel).trans (ToX.put (Q:=Q) (X:=dfoot D Q R2 tk1 op1) (by simp [dfoot]) 1 (.int .i64 (how:Nat)))),hk,(RowKit.Below.heap_setCell _ _ _ _ hQU).trans HV.out.tok,HD2.out.lt,HTb.out.to ⟨HV.out.bel.os,HV.out.bel.tape,HV.out.bel.output,by have:=HV.out.bel.size; simpa [World.setCell] using this,fun k h => hk k (by have:=HD2.out.lt; omega) (by omega)⟩⟩
   generalize W4.setCell ⟨Q,1,none⟩ (.int .i64 (how:Nat))=W5 at hD5 hP5 hG5 ⊢
   have HG5:=hide' hG5
   have HP5:=hide' hP5
   clear hD5 hP5 hQT hQU hG5 e1 z1 HD4 HV HD2 HTo HTb HD1
   go_upto_if 55 with (first | refine wpList_load_row rfl 32 (.tmp 10) rfl (w1.heap.size + 1) rfl 32 pkx (0,0) _ HP5.out Tryd.underlying32 rfl Y6.out ?_ | refine wpList_store_mid rfl 32 (.tmp 53) (.tmp 51) rfl Q 2 pkx rfl rfl (HG5.out.d.there _ Y3.out) Y6.out Y8.out ?_)
   have hG6:=HG5.out.place p
   rw [<- HPK.out] at hG6
   generalize W5.setCells Q 2 pkx.toList=W6 at hG6 ⊢
   have HG6:=hide' hG6
   clear hG6 HG5 HP5 Y3 Y6 Y8 HPK
   rcases HCS.out with ⟨h0,hp0,hTC⟩ | ⟨h0,hSt⟩
   . subst h0
     subst hp0
     obtain ⟨t,av,htx,hL2,hav,hsp,hk3,hk2⟩:=hTC
     obtain ⟨tv,htv⟩ : ∃ tv:TkV,tv=⟨t,av⟩:=⟨_,rfl⟩
     obtain ⟨z0,s1,pa,pm,pc,s3,z4,z5,z6,z7,z8,z9,z10,z11,hz,hzk,hzn⟩ : ∃ z0 s1 pa pm pc s3 z4 z5 z6 z7 z8 z9 z10 z11,tv.arr = #[.int .i64 z0, .string s1, .slice pa pm pc, .string s3, .int .i64 z4, .int .i64 z5, .int .i64 z6, .int .i64 z7, .int .i64 z8, .int .i64 z9, .int .i64 z10, .int .i64 z11] /\ z0=(t.kind:Int) /\ s1=⟨t.name.toArray⟩:=by
      obtain ⟨pa,c,e⟩:=own_shape hav
      subst htv
      subst e
      exact ⟨_,_,_,_,_,_,_,_,_,_,_,_,_,_,rfl,rfl,rfl⟩
     have hG:=HG6.out
     obtain ⟨pr,cr,er⟩:=own_shape hG.d.toks
     obtain ⟨N,hN⟩ : ∃ N,(T0 ++ V).length=N:=⟨_,rfl⟩
     rw [hN] at er
     have c0:=hG.d.c 0 tk1 rfl
     rw [er] at c0
     have z00:=hG.d.fz 0
     have hQ6:=hG.d.lt
     have hS6:W6.heap[w1.heap.size]? = some (.cells #[.int .i64 z0, .string s1, .slice pa pm pc, .string s3, .int .i64 z4, .int .i64 z5, .int .i64 z6, .int .i64 z7, .int .i64 z8, .int .i64 z9, .int .i64 z10, .int .i64 z11] 43 (0,0)):=by rw [<- hz,htv, <- htx]; exact hG.s
     have hT6:=lt_of_heap hS6
     obtain ⟨GT,hGT⟩ : ∃ GT:World -> Prop,GT=fun wx => ∃ tk',Drv wx B Q D R2 tk' op1 (T0 ++ (V ++ [tv])) 0 (0,0,0,0) u.opn.reverse u.inn /\ LS f n en a0 u0 D B ((V ++ [tv]).map (·.tk)) (u.after t) R2 wx /\ ToX (dfoot D Q R tk op) (dfoot D Q R2 tk' op1) w wx /\ Tb B wx /\ wx.heap[w1.heap.size]? = some (.cells #[.int .i64 z0, .string s1, .slice pa pm pc, .string s3, .int .i64 z4, .int .i64 z5, .int .i64 z6, .int .i64 z7, .int .i64 z8, .int .i64 z9, .int .i64 z10, .int .i64 z11] 43 (0,0)):=⟨_,rfl⟩
     obtain ⟨S',hSd⟩ : ∃ S':World -> Prop,S'=fun W' => W'.heap[w1.heap.size]? = some (.cells #[.int .i64 z0, .string s1, .slice pa pm pc, .string s3, .int .i64 z4, .int .i64 z5, .int .i64 z6, .int .i64 z7, .int .i64 z8, .int .i64 z9, .int .i64 z10, .int .i64 z11] 43 (0,0)):=⟨_,rfl⟩
     have hS0:S' W6.drew:=by rw [hSd]; exact hS6
     have hSA : ∀ W',S' W' -> ∀ o,S' (W'.alloc o):=fun W' h o => by rw [hSd] at h ⊢; exact (((Below.refl W'.heap.size W').alloc (Nat.le_refl _) o).block _ (lt_of_heap h)).trans h
     have hSR : ∀ W',S' W' -> W'.rangeAt w1.heap.size 0 [.int .i64 z0, .string s1, .slice pa pm pc, .string s3, .int .i64 z4, .int .i64 z5, .int .i64 z6, .int .i64 z7, .int .i64 z8, .int .i64 z9, .int .i64 z10, .int .i64 z11]:=fun W' h => by
      rw [hSd] at h
      have:=World.rangeAt_of_block h 0 12
      exact this
     have hfl:=hL2.lt
     have hav6:W6.ownsRow B 61 2 tv.av tv.tk.attrs.length (acells tv.tk.attrs):=by
      subst htv
      refine own_keep hav fun q e => hG.k q (World.ownsRow.lt hav q e).2 (fun k => ?_)
      subst k
      rcases (hsp _ e).2 with g | g
      . exact HL1QR.out g
      . have:=HQC.out; omega
     have hap6 : ∀ q,tv.av.ownBlock=some q -> some q ∉ dfoot D Q R2 tk1 op1:=fun q e k => by
      subst htv
      have hlt:=(World.ownsRow.lt hav q e).2
      simp only [dfoot,List.mem_cons] at k
      have hne:=hsp q e
      rcases k with k | k | k | k
      . cases k
        rcases hne.2 with g | g
        . exact HL1QR.out g
        . have:=HQC.out; omega
      . rcases hne.2 with g | g
        . exact (HDT.out q k.symm).1 g
        . have:=(HDT.out q k.symm).2; omega
      . rcases hne.2 with g | g
        . exact (HDO.out q k.symm).1 g
        . have:=(HDO.out q k.symm).2; omega
      . exact hne.1 k
     have HKEEP:Hid (∀ (ob:Obj) (w2:World),(W6.drew.alloc ob).grownBy w2 (Value.slice pr N cr).ownBlock -> w2.cell? ⟨Q,0,none⟩ = some (.slice pr N cr) /\ w2.frozen? ⟨Q,0,none⟩ = false):=by
      intro ob w2 hg
      have hD:w2.heap[Q]? = W6.heap[Q]? := (hg.block Q (by simp; omega) (fun e => (hG.d.aT Q (by rw [er]; exact e.symm)).2 rfl)).trans (((Below.refl W6.drew.heap.size W6.drew).alloc (Nat.le_refl _) ob).block Q hQ6)
      exact ⟨(World.cell?_of_block (a:=⟨Q,0,none⟩) hD).trans c0,(World.frozen?_of_block (a:=⟨Q,0,none⟩) hD).trans z00⟩
     have HFIN:Hid (∀ (ob:Obj) (g cap2:Nat) (w2:World),w2.ownsRow B 43 12 (.slice (some ⟨g,0,none⟩) (N + 1) cap2) (N + 1) (tcells (T0 ++ V) ++ [.int .i64 z0, .string s1, .slice pa pm pc, .string s3, .int .i64 z4, .int .i64 z5, .int .i64 z6, .int .i64 z7, .int .i64 z8, .int .i64 z9, .int .i64 z10, .int .i64 z11]) -> (W6.drew.alloc ob).grownBy w2 (Value.slice pr N cr).ownBlock -> ((Value.slice pr N cr).ownBlock=some g \/ g=(W6.drew.alloc ob).heap.size) ->
      S' w2 /\ S' (w2.setCell ⟨Q,0,none⟩ (.slice (some ⟨g,0,none⟩) (N + 1) cap2)) /\ GT (w2.setCell ⟨Q,0,none⟩ (.slice (some ⟨g,0,none⟩) (N + 1) cap2))):=by
      intro ob g cap2 w2 ho hg hat
      have hgw:W6.grownBy w2 tk1.ownBlock:=by
       have hs:=hg.size
       simp at hs
       refine ⟨hg.os,hg.tape,hg.output,by omega,fun i hi hn => ?_⟩
       exact (hg.block i (by simp; omega) (by rw [<- er]; exact hn)).trans (((Below.refl W6.drew.heap.size W6.drew).alloc (Nat.le_refl _) ob).block i hi)
      have hvv : ∀ q,(Value.slice (some ⟨g,0,none⟩) (N + 1) cap2).ownBlock=some q -> tk1.ownBlock=some q \/ W6.heap.size <= q:=fun q e => by
       cases e
       rcases hat with k | k
       . left; rw [er]; exact k
       . right; simp at k; show W6.heap.size <= g; omega
      have hsw:w2.heap[w1.heap.size]? = some (.cells #[.int .i64 z0, .string s1, .slice pa pm pc, .string s3, .int .i64 z4, .int .i64 z5, .int .i64 z6, .int .i64 z7, .int .i64 z8, .int .i64 z9, .int .i64 z10, .int .i64 z11] 43 (0,0)):=(hgw.block _ hT6 (fun e => by have:=(HDT.out _ e.symm).2; have:=HWC.out; omega)).trans hS6
      have hqt:w1.heap.size ≠ Q:=by have:=hG.q; omega
      have hsw2:(w2.setCell ⟨Q,0,none⟩ (.slice (some ⟨g,0,none⟩) (N + 1) cap2)).heap[w1.heap.size]? = some (.cells #[.int .i64 z0, .string s1, .slice pa pm pc, .string s3, .int .i64 z4, .int .i64 z5, .int .i64 z6, .int .i64 z7, .int .i64 z8, .int .i64 z9, .int .i64 z10, .int .i64 z11] 43 (0,0)):=(RowKit.Below.heap_setCell _ _ _ _ hqt).trans hsw
      obtain ⟨d1,d2⟩:=hG.d.tok (t:=tv) hgw (by rw [show tv.arr.toList = [.int .i64 z0, .string s1, .slice pa pm pc, .string s3, .int .i64 z4, .int .i64 z5, .int .i64 z6, .int .i64 z7, .int .i64 z8, .int .i64 z9, .int .i64 z10, .int .i64 z11] from by rw [hz],hN]; exact ho) hvv (fun q hq => Nat.lt_of_lt_of_le (hfl q hq).2 (by have:=hT6; omega)) hav6 hap6
      have hB2:B <= (w2.setCell ⟨Q,0,none⟩ (.slice (some ⟨g,0,none⟩) (N + 1) cap2)).heap.size:=Nat.le_trans d1.low (Nat.le_of_lt d1.lt)
      have hTb:Tb B (w2.setCell ⟨Q,0,none⟩ (.slice (some ⟨g,0,none⟩) (N + 1) cap2)):=hG.b.to ⟨d2.mv.os,d2.mv.tape,d2.mv.output,d2.mv.size,fun k hk => d2.mv.block k (by have:=hG.d.low; omega) (fun m => by
       simp only [dfoot,List.mem_cons] at m
       rcases m with m | m | m | m
       . cases m; have:=hG.d.low; omega
       . have:=(World.ownsRow.lt hG.d.toks k m.symm).1; omega
       . have:=(World.ownsRow.lt hG.d.opn k m.symm).1; omega
       . have:=(hfl k m).1; omega)⟩
      have hkk : ∀ q,some q ∈ foot D R2 -> (w2.setCell ⟨Q,0,none⟩ (.slice (some ⟨g,0,none⟩) (N + 1) cap2)).heap[q]? = w1.heap[q]? := fun q hq => by
       have h1:=(hfl q hq).2
       have h2:q ≠ Q:=fun e => hG.d.aQ (by rw [<- e]; exact hq)
       refine (RowKit.Below.heap_setCell _ _ _ _ h2).trans ((hgw.block q (by omega) (fun e => (hG.d.aT q e.symm).1 hq)).trans (hG.k q h1 h2))
      rw [hSd,hGT]
      refine ⟨hsw,hsw2,_, ?_, ?_,HX1.out.trans (hG.x.trans d2),hTb,hsw2⟩
      . rw [<- List.append_assoc]; exact d1
      . rw [List.map_append,List.map_singleton,htv]
        exact hL2.keep hTb hkk hB2
     have HOWN:Hid (W6.drew.ownsRow B 43 12 (.slice pr N cr) N (tcells (T0 ++ V))):=by
      have:=hG.d.toks
      rw [er,hN] at this
      exact this
     have HBW:Hid (B <= W6.heap.size):=Nat.le_trans hG.d.low (Nat.le_of_lt hG.d.lt)
     have hvl:V.length <= 1073741824:=by have:=hL2.len; rw [List.length_append,List.length_map] at this; have:=HBG.out; omega
     have HMX:Hid (N + 1 <= maxLen):=by
      show N + 1 <= maxLen
      have:=HT0.out
      rw [List.length_append] at hN
      unfold maxLen
      omega
     have HBY:Hid ((N + 1) * 128 <= 140737488355328):=by
      show (N + 1) * 128 <= 140737488355328
      have:=HT0.out
      rw [List.length_append] at hN
      omega
     obtain ⟨i0,hi,hz0,hz1,hz2⟩:=info_parts tokInfo3
     have HGT:=hide' hGT
     have HZK:=hide' hzk
     have HZN:=hide' hzn
     have HK3:=hide' hk3
     have HK2:=hide' hk2
     have HDO2:Hid (∀ q,op1.ownBlock=some q -> q < w1.heap.size):=fun q e => Nat.lt_of_lt_of_le (HDO.out q e).2 HWC.out
     have HRL:Hid (u.opn.length <= 1073741824):=HRL0.out
     have HLN:Hid (V.length + 1 <= most):=by
      have:=HM.out _ _ _ _ hL2
      rw [List.length_append,List.length_map] at this
      exact this
     clear hN hG er hSd hS6 hT6 hav6 hap6 hfl hsp hav hL2 htx htv hz hzk hzn hGT HG6 HCS hk3 hk2 hvl HL1QR HQC HDT HDO HWC
     go_upto_region 12 with fail
     go_cut [] from 12 to 119 (fun wx => GT wx)
     case first =>
      refine wp_region_held_drew (S:=S') (by kernel_rfl) hS0 (fun hHeld => ?_)
      simp only [List.size_toArray,List.length_cons,List.length_nil,Nat.reduceAdd]
      clear hS0
      refine wpAnyH_take (i:=0) (v := .pointer (some ⟨Q,0,none⟩)) rfl (by kernel_rfl) (by kernel_rfl) (by kernel_rfl) (fun _ _ _ h => h) (Or.inl ⟨by rfl, ?y0⟩) (by assumption) ?_
      case y0 => (intro w' hSw; go_simp; try rfl)
      try simp only [List.getElem_toArray,List.getElem_cons_zero,Act.put,List.setIfInBounds_toArray,List.set_cons_zero,List.set_cons_succ]
      refine wpAnyH_take (i:=1) (v := .pointer (some ⟨Q,0,none⟩)) rfl (by kernel_rfl) (by kernel_rfl) (by kernel_rfl) (fun _ _ _ h => h) (Or.inl ⟨by rfl, ?y1⟩) (by assumption) ?_
      case y1 => (intro w' hSw; go_simp; try rfl)
      try simp only [List.getElem_toArray,List.getElem_cons_zero,List.getElem_cons_succ,Act.put,List.setIfInBounds_toArray,List.set_cons_zero,List.set_cons_succ]
      refine wpAnyH_take (i:=2) (v := .pointer (some ⟨Q,0,none⟩)) rfl (by kernel_rfl) (by kernel_rfl) (by kernel_rfl) (fun _ _ _ h => h) (Or.inl ⟨by rfl, ?y2⟩) (by assumption) ?_
      case y2 => (intro w' hSw; go_simp; try rfl)
      try simp only [List.getElem_toArray,List.getElem_cons_zero,List.getElem_cons_succ,Act.put,List.setIfInBounds_toArray,List.set_cons_zero,List.set_cons_succ]
      refine wpAnyH_take (i:=3) (v := .pointer (some ⟨Q,0,none⟩)) rfl (by kernel_rfl) (by kernel_rfl) (by kernel_rfl) (fun _ _ _ h => h) (Or.inl ⟨by rfl, ?y3⟩) (by assumption) ?_
      case y3 => (intro w' hSw; go_simp; try rfl)
      try simp only [List.getElem_toArray,List.getElem_cons_zero,List.getElem_cons_succ,Act.put,List.setIfInBounds_toArray,List.set_cons_zero,List.set_cons_succ]
      refine wpAnyH_take (i:=5) (v := .agg #[.int .i64 z0, .string s1, .slice pa pm pc, .string s3, .int .i64 z4, .int .i64 z5, .int .i64 z6, .int .i64 z7, .int .i64 z8, .int .i64 z9, .int .i64 z10, .int .i64 z11]) rfl (by kernel_rfl) (by kernel_rfl) (by kernel_rfl) (fun _ _ _ h => h) (yieldsIf_load_mid (by rfl) 43 (.tmp 9) rfl w1.heap.size 0 rfl [.int .i64 z0, .string s1, .slice pa pm pc, .string s3, .int .i64 z4, .int .i64 z5, .int .i64 z6, .int .i64 z7, .int .i64 z8, .int .i64 z9, .int .i64 z10, .int .i64 z11] _ hSR Tryd.underlying43 rfl tokInfo) (by assumption) ?_
      try simp only [List.getElem_toArray,List.getElem_cons_zero,List.getElem_cons_succ,Act.put,List.setIfInBounds_toArray,List.set_cons_zero,List.set_cons_succ]
      refine wpAnyH_ready (rs := [4,6]) (by kernel_rfl) (by simp) ?_
      refine AllReadyH.cons rfl (fun K hK => ?_) ?_
      . try simp only [List.getElem_toArray,List.getElem_cons_zero,List.getElem_cons_succ]
        go_simp
        refine hK.out _ _ hHeld (fun hHeld => ?_)
        clear hK K
        try simp only [List.getElem_toArray,List.getElem_cons_zero,List.getElem_cons_succ,Act.put,List.setIfInBounds_toArray,List.set_cons_zero,List.set_cons_succ]
        refine wpAnyH_ready (rs := [6]) (by kernel_rfl) (by simp) ?_
        refine AllReadyH.cons rfl (fun K hK => ?_) AllReadyH.nil
        try simp only [List.getElem_toArray,List.getElem_cons_zero,List.getElem_cons_succ]
        go_simp
        have hAa:=hSA _ hHeld (.cells #[.int .i64 z0, .string s1, .slice pa pm pc, .string s3, .int .i64 z4, .int .i64 z5, .int .i64 z6, .int .i64 z7, .int .i64 z8, .int .i64 z9, .int .i64 z10, .int .i64 z11] 43)
        refine hK.out _ _ hAa (fun hHeld => ?_)
        clear hK K
        try simp only [List.getElem_toArray,List.getElem_cons_zero,List.getElem_cons_succ,Act.put,List.setIfInBounds_toArray,List.set_cons_zero,List.set_cons_succ]
        change wpAnyH _ _ _ _ _ _ _ _ (World.alloc W6.drew (.cells #[.int .i64 z0, .string s1, .slice pa pm pc, .string s3, .int .i64 z4, .int .i64 z5, .int .i64 z6, .int .i64 z7, .int .i64 z8, .int .i64 z9, .int .i64 z10, .int .i64 z11] 43))
        have hn7:=World.news_of_block (cs := #[.int .i64 z0, .string s1, .slice pa pm pc, .string s3, .int .i64 z4, .int .i64 z5, .int .i64 z6, .int .i64 z7, .int .i64 z8, .int .i64 z9, .int .i64 z10, .int .i64 z11]) (heap_alloc_new W6.drew (.cells #[.int .i64 z0, .string s1, .slice pa pm pc, .string s3, .int .i64 z4, .int .i64 z5, .int .i64 z6, .int .i64 z7, .int .i64 z8, .int .i64 z9, .int .i64 z10, .int .i64 z11] 43))
        have ho7:=HOWN.out.alloc (.cells #[.int .i64 z0, .string s1, .slice pa pm pc, .string s3, .int .i64 z4, .int .i64 z5, .int .i64 z6, .int .i64 z7, .int .i64 z8, .int .i64 z9, .int .i64 z10, .int .i64 z11] 43)
        have hb7:B <= (W6.drew.alloc (.cells #[.int .i64 z0, .string s1, .slice pa pm pc, .string s3, .int .i64 z4, .int .i64 z5, .int .i64 z6, .int .i64 z7, .int .i64 z8, .int .i64 z9, .int .i64 z10, .int .i64 z11] 43)).heap.size:=by have:=HBW.out; simp; omega
        refine wpAnyH_ready (rs := [7]) (by kernel_rfl) (by simp) ?_
        refine AllReadyH.cons rfl (fun K hK => ?_) AllReadyH.nil
        try simp only [List.getElem_toArray,List.getElem_cons_zero,List.getElem_cons_succ]
        rw [if_pos (by rfl)]
        refine wp_append_lies _ (.tmp 60) (.tmp 62) 29 rfl B 43 i0 (.agg tok0) 12 128 Tryd.underlying29 hi hz0 hz1 hz2 rfl (by decide) (.slice pr N cr) N (tcells (T0 ++ V)) rfl ho7 ⟨W6.heap.size,0,none⟩ 1 1 [.int .i64 z0, .string s1, .slice pa pm pc, .string s3, .int .i64 z4, .int .i64 z5, .int .i64 z6, .int .i64 z7, .int .i64 z8, .int .i64 z9, .int .i64 z10, .int .i64 z11] rfl rfl hn7 (by intro u hu; simp at hu; rcases hu with rfl | rfl | rfl | rfl | rfl | rfl | rfl | rfl | rfl | rfl | rfl | rfl <;> rfl) (by decide) HMX.out HBY.out hb7 _ rfl ?_
        intro g cap2 w2 hown2 hgrow2 hat2 hlt2
        have hF:=HFIN.out (.cells #[.int .i64 z0, .string s1, .slice pa pm pc, .string s3, .int .i64 z4, .int .i64 z5, .int .i64 z6, .int .i64 z7, .int .i64 z8, .int .i64 z9, .int .i64 z10, .int .i64 z11] 43) g cap2 w2 hown2 hgrow2 (by simpa using hat2)
        obtain ⟨t0c,t0f⟩:=HKEEP.out (.cells #[.int .i64 z0, .string s1, .slice pa pm pc, .string s3, .int .i64 z4, .int .i64 z5, .int .i64 z6, .int .i64 z7, .int .i64 z8, .int .i64 z9, .int .i64 z10, .int .i64 z11] 43) w2 hgrow2
        refine hK.out _ _ hF.1 (fun hHeld => ?_)
        clear hK K hown2 hgrow2 hat2 hlt2 hn7 ho7 hb7
        try simp only [Act.put,List.setIfInBounds_toArray,List.set_cons_zero,List.set_cons_succ]
        refine wpAnyH_take (i:=8) (v := .pointer (some ⟨Q,0,none⟩)) rfl (by kernel_rfl) (by kernel_rfl) (by kernel_rfl) (fun _ _ _ h => h) (Or.inl ⟨by rfl, ?y8⟩) (by assumption) ?_
        case y8 => (intro w' hSw; go_simp; try rfl)
        try simp only [List.getElem_toArray,List.getElem_cons_zero,List.getElem_cons_succ,Act.put,List.setIfInBounds_toArray,List.set_cons_zero,List.set_cons_succ]
        refine wpAnyH_take (i:=9) (v := .pointer (some ⟨Q,0,none⟩)) rfl (by kernel_rfl) (by kernel_rfl) (by kernel_rfl) (fun _ _ _ h => h) (Or.inl ⟨by rfl, ?y9⟩) (by assumption) ?_
        case y9 => (intro w' hSw; go_simp; try rfl)
        try simp only [List.getElem_toArray,List.getElem_cons_zero,List.getElem_cons_succ,Act.put,List.setIfInBounds_toArray,List.set_cons_zero,List.set_cons_succ]
        refine wpAnyH_ready (rs := [10]) (by kernel_rfl) (by simp) ?_
        refine AllReadyH.cons rfl (fun K hK => ?_) AllReadyH.nil
        try simp only [List.getElem_toArray,List.getElem_cons_zero,List.getElem_cons_succ]
        go_simp
        refine hK.out _ _ hF.2.1 (fun hHeld => ?_)
        clear hK K
        try simp only [List.getElem_toArray,List.getElem_cons_zero,List.getElem_cons_succ,Act.put,List.setIfInBounds_toArray,List.set_cons_zero,List.set_cons_succ]
        refine wpAnyH_done (by kernel_rfl) ?_ _
        go_wp2_with fail
        go_meet
        exact hF.2.2
      refine AllReadyH.cons rfl (fun K hK => ?_) AllReadyH.nil
      try simp only [List.getElem_toArray,List.getElem_cons_zero,List.getElem_cons_succ]
      go_simp
      have hAb:=hSA _ hHeld (.cells #[.int .i64 z0, .string s1, .slice pa pm pc, .string s3, .int .i64 z4, .int .i64 z5, .int .i64 z6, .int .i64 z7, .int .i64 z8, .int .i64 z9, .int .i64 z10, .int .i64 z11] 43)
      refine hK.out _ _ hAb (fun hHeld => ?_)
      clear hK K
      try simp only [List.getElem_toArray,List.getElem_cons_zero,List.getElem_cons_succ,Act.put,List.setIfInBounds_toArray,List.set_cons_zero,List.set_cons_succ]
      change wpAnyH _ _ _ _ _ _ _ _ (World.alloc W6.drew (.cells #[.int .i64 z0, .string s1, .slice pa pm pc, .string s3, .int .i64 z4, .int .i64 z5, .int .i64 z6, .int .i64 z7, .int .i64 z8, .int .i64 z9, .int .i64 z10, .int .i64 z11] 43))
      have c0b:(W6.drew.alloc (.cells #[.int .i64 z0, .string s1, .slice pa pm pc, .string s3, .int .i64 z4, .int .i64 z5, .int .i64 z6, .int .i64 z7, .int .i64 z8, .int .i64 z9, .int .i64 z10, .int .i64 z11] 43)).cell? ⟨Q,0,none⟩ = some (.slice pr N cr):=(World.cell?_alloc_lt _ _ _ hQ6).trans c0
      refine wpAnyH_ready (rs := [4]) (by kernel_rfl) (by simp) ?_
      refine AllReadyH.cons rfl (fun K hK => ?_) AllReadyH.nil
      try simp only [List.getElem_toArray,List.getElem_cons_zero,List.getElem_cons_succ]
      go_simp
      refine hK.out _ _ hHeld (fun hHeld => ?_)
      clear hK K
      try simp only [List.getElem_toArray,List.getElem_cons_zero,List.getElem_cons_succ,Act.put,List.setIfInBounds_toArray,List.set_cons_zero,List.set_cons_succ]
      have hn7:=World.news_of_block (cs := #[.int .i64 z0, .string s1, .slice pa pm pc, .string s3, .int .i64 z4, .int .i64 z5, .int .i64 z6, .int .i64 z7, .int .i64 z8, .int .i64 z9, .int .i64 z10, .int .i64 z11]) (heap_alloc_new W6.drew (.cells #[.int .i64 z0, .string s1, .slice pa pm pc, .string s3, .int .i64 z4, .int .i64 z5, .int .i64 z6, .int .i64 z7, .int .i64 z8, .int .i64 z9, .int .i64 z10, .int .i64 z11] 43))
      have ho7:=HOWN.out.alloc (.cells #[.int .i64 z0, .string s1, .slice pa pm pc, .string s3, .int .i64 z4, .int .i64 z5, .int .i64 z6, .int .i64 z7, .int .i64 z8, .int .i64 z9, .int .i64 z10, .int .i64 z11] 43)
      have hb7:B <= (W6.drew.alloc (.cells #[.int .i64 z0, .string s1, .slice pa pm pc, .string s3, .int .i64 z4, .int .i64 z5, .int .i64 z6, .int .i64 z7, .int .i64 z8, .int .i64 z9, .int .i64 z10, .int .i64 z11] 43)).heap.size:=by have:=HBW.out; simp; omega
      refine wpAnyH_ready (rs := [7]) (by kernel_rfl) (by simp) ?_
      refine AllReadyH.cons rfl (fun K hK => ?_) AllReadyH.nil
      try simp only [List.getElem_toArray,List.getElem_cons_zero,List.getElem_cons_succ]
      rw [if_pos (by rfl)]
      refine wp_append_lies _ (.tmp 60) (.tmp 62) 29 rfl B 43 i0 (.agg tok0) 12 128 Tryd.underlying29 hi hz0 hz1 hz2 rfl (by decide) (.slice pr N cr) N (tcells (T0 ++ V)) rfl ho7 ⟨W6.heap.size,0,none⟩ 1 1 [.int .i64 z0, .string s1, .slice pa pm pc, .string s3, .int .i64 z4, .int .i64 z5, .int .i64 z6, .int .i64 z7, .int .i64 z8, .int .i64 z9, .int .i64 z10, .int .i64 z11] rfl rfl hn7 (by intro u hu; simp at hu; rcases hu with rfl | rfl | rfl | rfl | rfl | rfl | rfl | rfl | rfl | rfl | rfl | rfl <;> rfl) (by decide) HMX.out HBY.out hb7 _ rfl ?_
      intro g cap2 w2 hown2 hgrow2 hat2 hlt2
      have hF:=HFIN.out (.cells #[.int .i64 z0, .string s1, .slice pa pm pc, .string s3, .int .i64 z4, .int .i64 z5, .int .i64 z6, .int .i64 z7, .int .i64 z8, .int .i64 z9, .int .i64 z10, .int .i64 z11] 43) g cap2 w2 hown2 hgrow2 (by simpa using hat2)
      obtain ⟨t0c,t0f⟩:=HKEEP.out (.cells #[.int .i64 z0, .string s1, .slice pa pm pc, .string s3, .int .i64 z4, .int .i64 z5, .int .i64 z6, .int .i64 z7, .int .i64 z8, .int .i64 z9, .int .i64 z10, .int .i64 z11] 43) w2 hgrow2
      refine hK.out _ _ hF.1 (fun hHeld => ?_)
      clear hK K hown2 hgrow2 hat2 hlt2 hn7 ho7 hb7
      try simp only [Act.put,List.setIfInBounds_toArray,List.set_cons_zero,List.set_cons_succ]
      refine wpAnyH_take (i:=8) (v := .pointer (some ⟨Q,0,none⟩)) rfl (by kernel_rfl) (by kernel_rfl) (by kernel_rfl) (fun _ _ _ h => h) (Or.inl ⟨by rfl, ?y8⟩) (by assumption) ?_
      case y8 => (intro w' hSw; go_simp; try rfl)
      try simp only [List.getElem_toArray,List.getElem_cons_zero,List.getElem_cons_succ,Act.put,List.setIfInBounds_toArray,List.set_cons_zero,List.set_cons_succ]
      refine wpAnyH_take (i:=9) (v := .pointer (some ⟨Q,0,none⟩)) rfl (by kernel_rfl) (by kernel_rfl) (by kernel_rfl) (fun _ _ _ h => h) (Or.inl ⟨by rfl, ?y9⟩) (by assumption) ?_
      case y9 => (intro w' hSw; go_simp; try rfl)
      try simp only [List.getElem_toArray,List.getElem_cons_zero,List.getElem_cons_succ,Act.put,List.setIfInBounds_toArray,List.set_cons_zero,List.set_cons_succ]
      refine wpAnyH_ready (rs := [10]) (by kernel_rfl) (by simp) ?_
      refine AllReadyH.cons rfl (fun K hK => ?_) AllReadyH.nil
      try simp only [List.getElem_toArray,List.getElem_cons_zero,List.getElem_cons_succ]
      go_simp
      refine hK.out _ _ hF.2.1 (fun hHeld => ?_)
      clear hK K
      try simp only [List.getElem_toArray,List.getElem_cons_zero,List.getElem_cons_succ,Act.put,List.setIfInBounds_toArray,List.set_cons_zero,List.set_cons_succ]
      refine wpAnyH_done (by kernel_rfl) ?_ _
      go_wp2_with fail
      go_meet
      exact hF.2.2
     case rest =>
      rw [HGT.out] at hcut
      obtain ⟨tk',hD7,hL7,hX7,hT7,hS7⟩:=hcut
      have k0:wc.cell? ⟨w1.heap.size,0,none⟩ = some (.int .i64 z0):=by rw [Lib.cell_of_heap hS7]; rfl
      have k1:wc.cell? ⟨w1.heap.size,1,none⟩ = some (.string s1):=by rw [Lib.cell_of_heap hS7]; rfl
      have c6:=hD7.c 6 op1 rfl
      have c7:=hD7.c 7 (.int .i64 (u.inn:Nat)) rfl
      have f6:=hD7.fz 6
      have f7:=hD7.fz 7
      obtain ⟨po,co,eo⟩:=own_shape hD7.opn
      obtain ⟨N2,hN2⟩ : ∃ N2,u.opn.reverse.length=N2:=⟨_,rfl⟩
      rw [hN2] at eo
      rw [eo] at c6
      have hQ7:=hD7.lt
      have hqt : ¬ w1.heap.size=Q:=fun e => by
       have h1:=hD7.cell
       rw [<- e,hS7] at h1
       injection h1 with h1
       injection h1 with h1
       have:=congrArg Array.size h1
       simp [runA] at this
      have hqu : ¬ Q=w1.heap.size:=fun e => hqt e.symm
      have HTO:Hid (op1.ownBlock ≠ some w1.heap.size):=fun e => by have:=HDO2.out _ e; omega
      have hlv:=HLN.out
      have iw:IntKind.i64.wrap ((V.length:Int) + 1)=V.length + 1:=by rw [IntKind.wrap_i64]; omega
      have HEND:Hid (∀ W' op' o' inn',Drv W' B Q D R2 tk' op' (T0 ++ (V ++ [tv])) 0 (0,0,0,0) o' inn' -> o'=(u.after t).opn.reverse -> inn'=(u.after t).inn -> LS f n en a0 u0 D B ((V ++ [tv]).map (·.tk)) (u.after t) R2 W' -> ToX (dfoot D Q R tk op) (dfoot D Q R2 tk' op') w W' -> Tb B W' -> DLoop w B Q D R tk op T0 f n en a0 u0 most (gk - 1) (.int .i64 ((V.length:Int) + 1)) W'):=by
       intro W' op' o' inn' h1 h2 h3 h4 h5 h6
       subst h2
       subst h3
       have:=HGK.out
       exact ⟨V ++ [tv],u.after t,R2,tk',op',0,(0,0,0,0),by simp,by rw [List.length_append,List.length_singleton]; omega,h1,h4,h5,h6⟩
      have HG9:Hid (gk - 1 < gk):=by have:=HGK.out; show gk - 1 < gk; omega
      have HD7:=hide' hD7
      have HL7:=hide' hL7
      have HX7:=hide' hX7
      have HT7:=hide' hT7
      have HS7:=hide' hS7
      have HEO:=hide' eo
      have HN2:=hide' hN2
      have hk3:=HK3.out
      have hzk:=HZK.out
      clear hD7 hL7 hX7 hT7 hS7 eo hN2 hlv HGK HGT
      rcases (show t.kind=0 \/ t.kind=1 \/ t.kind=2 \/ t.kind=3 by omega) with e | e | e | e
      . have HE:=hide' e
        obtain rfl:z0=0:=by rw [hzk,e]; rfl
        clear hzk hk3 e
        by_cases hn:N2=0
        . subst hn
          go_wp2_with fail
          go_roundg (gk - 1)
          case measure => exact HG9.out
          case rel => exact HEND.out _ _ _ _ HD7.out (by unfold Dr.after; rw [if_pos HE.out]) (by unfold Dr.after; rw [if_pos HE.out]) HL7.out HX7.out HT7.out
        . have b0:(N2 == 0)=false:=by simpa using hn
          have b1:((N2:Int) == 0)=false:=by simp; omega
          clear hn
          go_wp2_with fail
          go_roundg (gk - 1)
          case measure => exact HG9.out
          case rel => exact HEND.out _ _ _ _ HD7.out (by unfold Dr.after; rw [if_pos HE.out]) (by unfold Dr.after; rw [if_pos HE.out]) HL7.out HX7.out HT7.out
      . have HE:=hide' e
        obtain rfl:z0=1:=by rw [hzk,e]; rfl
        clear hzk hk3 e
        have hD:=HD7.out
        have hop:(u.after t).opn.reverse=u.opn.reverse ++ [t.name]:=by unfold Dr.after; rw [if_neg (by rw [HE.out]; decide),HE.out]; simp
        have hin:(u.after t).inn=1:=by unfold Dr.after; rw [if_neg (by rw [HE.out]; decide),HE.out]; rfl
        have HOP:=hide' hop
        have HIN:=hide' hin
        obtain ⟨GN,hGN⟩ : ∃ GN:World -> Prop,GN=fun wx => ∃ po' co',Drv wx B Q D R2 tk' (.slice po' (N2 + 1) co') (T0 ++ (V ++ [tv])) 0 (0,0,0,0) (u.opn.reverse ++ [t.name]) u.inn /\ LS f n en a0 u0 D B ((V ++ [tv]).map (·.tk)) (u.after t) R2 wx /\ ToX (dfoot D Q R tk op) (dfoot D Q R2 tk' (.slice po' (N2 + 1) co')) w wx /\ Tb B wx /\ wx.heap[w1.heap.size]? = some (.cells #[.int .i64 1, .string s1, .slice pa pm pc, .string s3, .int .i64 z4, .int .i64 z5, .int .i64 z6, .int .i64 z7, .int .i64 z8, .int .i64 z9, .int .i64 z10, .int .i64 z11] 43 (0,0)):=⟨_,rfl⟩
        obtain ⟨S2,hSd⟩ : ∃ S2:World -> Prop,S2=fun W' => W'.heap[w1.heap.size]? = some (.cells #[.int .i64 1, .string s1, .slice pa pm pc, .string s3, .int .i64 z4, .int .i64 z5, .int .i64 z6, .int .i64 z7, .int .i64 z8, .int .i64 z9, .int .i64 z10, .int .i64 z11] 43 (0,0)):=⟨_,rfl⟩
        have hS0:S2 wc.drew:=by rw [hSd]; exact HS7.out
        have hSA : ∀ W',S2 W' -> ∀ o,S2 (W'.alloc o):=fun W' h o => by rw [hSd] at h ⊢; exact (((Below.refl W'.heap.size W').alloc (Nat.le_refl _) o).block _ (lt_of_heap h)).trans h
        have hSK : ∀ W',S2 W' -> W'.cell? ⟨w1.heap.size,1,none⟩ = some (.string s1):=fun W' h => by rw [hSd] at h; rw [Lib.cell_of_heap h]; rfl
        have HKEEP:Hid (∀ (ob:Obj) (w2:World),(wc.drew.alloc ob).grownBy w2 (Value.slice po N2 co).ownBlock -> w2.cell? ⟨Q,6,none⟩ = some (.slice po N2 co) /\ w2.frozen? ⟨Q,6,none⟩ = false):=by
         intro ob w2 hg
         have hX:w2.heap[Q]? = wc.heap[Q]? := (hg.block Q (by simp; omega) (fun e => (hD.aO Q (by rw [HEO.out]; exact e.symm)).2.1 rfl)).trans (((Below.refl wc.drew.heap.size wc.drew).alloc (Nat.le_refl _) ob).block Q hQ7)
         exact ⟨(World.cell?_of_block (a:=⟨Q,6,none⟩) hX).trans c6,(World.frozen?_of_block (a:=⟨Q,6,none⟩) hX).trans f6⟩
        have HFIN:Hid (∀ (ob:Obj) (g cap2:Nat) (w2:World),w2.ownsRow B 9 1 (.slice (some ⟨g,0,none⟩) (N2 + 1) cap2) (N2 + 1) (strs u.opn.reverse ++ [.string s1]) -> (wc.drew.alloc ob).grownBy w2 (Value.slice po N2 co).ownBlock -> ((Value.slice po N2 co).ownBlock=some g \/ g=(wc.drew.alloc ob).heap.size) ->
         S2 w2 /\ S2 (w2.setCell ⟨Q,6,none⟩ (.slice (some ⟨g,0,none⟩) (N2 + 1) cap2)) /\ GN (w2.setCell ⟨Q,6,none⟩ (.slice (some ⟨g,0,none⟩) (N2 + 1) cap2))):=by
         intro ob g cap2 w2 ho hg hat
         have hfl:=HL7.out.lt
         have hgw:wc.grownBy w2 op1.ownBlock:=by
          have hs:=hg.size
          simp at hs
          refine ⟨hg.os,hg.tape,hg.output,by omega,fun i hi hn => ?_⟩
          exact (hg.block i (by simp; omega) (by rw [<- HEO.out]; exact hn)).trans (((Below.refl wc.drew.heap.size wc.drew).alloc (Nat.le_refl _) ob).block i hi)
         have hvv : ∀ q,(Value.slice (some ⟨g,0,none⟩) (N2 + 1) cap2).ownBlock=some q -> op1.ownBlock=some q \/ wc.heap.size <= q:=fun q e => by
          cases e
          rcases hat with k | k
          . left; rw [HEO.out]; exact k
          . right; simp at k; show wc.heap.size <= g; omega
         have hT6:=lt_of_heap HS7.out
         have hsw:w2.heap[w1.heap.size]? = some (.cells #[.int .i64 1, .string s1, .slice pa pm pc, .string s3, .int .i64 z4, .int .i64 z5, .int .i64 z6, .int .i64 z7, .int .i64 z8, .int .i64 z9, .int .i64 z10, .int .i64 z11] 43 (0,0)):=(hgw.block _ hT6 (fun e => HTO.out e.symm)).trans HS7.out
         have hsw2:(w2.setCell ⟨Q,6,none⟩ (.slice (some ⟨g,0,none⟩) (N2 + 1) cap2)).heap[w1.heap.size]? = some (.cells #[.int .i64 1, .string s1, .slice pa pm pc, .string s3, .int .i64 z4, .int .i64 z5, .int .i64 z6, .int .i64 z7, .int .i64 z8, .int .i64 z9, .int .i64 z10, .int .i64 z11] 43 (0,0)):=(RowKit.Below.heap_setCell _ _ _ _ hqt).trans hsw
         obtain ⟨d1,d2⟩:=hD.names (o':=u.opn.reverse ++ [t.name]) hgw (by
          rw [show (u.opn.reverse ++ [t.name]).length=N2 + 1 by rw [List.length_append,HN2.out]; rfl,show strs (u.opn.reverse ++ [t.name])=strs u.opn.reverse ++ [.string s1] by rw [HZN.out]; simp [strs]]
          exact ho) hvv (fun q hq => (hfl q hq).2)
         have hTb:Tb B (w2.setCell ⟨Q,6,none⟩ (.slice (some ⟨g,0,none⟩) (N2 + 1) cap2)):=HT7.out.to ⟨d2.mv.os,d2.mv.tape,d2.mv.output,d2.mv.size,fun k hk => d2.mv.block k (by have:=hD.low; omega) (fun m => by
          simp only [dfoot,List.mem_cons] at m
          rcases m with m | m | m | m
          . cases m; have:=hD.low; omega
          . have:=(World.ownsRow.lt hD.toks k m.symm).1; omega
          . have:=(World.ownsRow.lt hD.opn k m.symm).1; omega
          . have:=(hfl k m).1; omega)⟩
         have hkk : ∀ q,some q ∈ foot D R2 -> (w2.setCell ⟨Q,6,none⟩ (.slice (some ⟨g,0,none⟩) (N2 + 1) cap2)).heap[q]? = wc.heap[q]? := fun q hq => by
          have h2:q ≠ Q:=fun e => hD.aQ (by rw [<- e]; exact hq)
          exact (RowKit.Below.heap_setCell _ _ _ _ h2).trans (hgw.block q (hfl q hq).2 (fun e => (hD.aO q e.symm).1 hq))
         rw [hSd,hGN]
         exact ⟨hsw,hsw2,_,_,d1,HL7.out.keep hTb hkk (Nat.le_trans d1.low (Nat.le_of_lt d1.lt)),HX7.out.trans d2,hTb,hsw2⟩
        have HOWN:Hid (wc.drew.ownsRow B 9 1 (.slice po N2 co) N2 (strs u.opn.reverse)):=by
         have:=hD.opn
         rw [HEO.out,HN2.out] at this
         exact this
        have HBW:Hid (B <= wc.heap.size):=Nat.le_trans hD.low (Nat.le_of_lt hD.lt)
        have hN3:N2 <= 1073741824:=by
         have:=HRL.out
         rw [<- HN2.out,List.length_reverse]
         exact this
        have HMX:Hid (N2 + 1 <= maxLen):=by show N2 + 1 <= maxLen; unfold maxLen; omega
        have HBY:Hid ((N2 + 1) * 16 <= 140737488355328):=by show (N2 + 1) * 16 <= 140737488355328; omega
        obtain ⟨i0,hi,hz0,hz1,hz2⟩:=info_parts strInfo3
        have HGN:=hide' hGN
        clear hD hop hin hGN hSd hN3
        go_upto_region 15 with fail
        go_cut [] from 12 to 119 (fun wx => GN wx)
        case first =>
         refine wp_region_held_drew (S:=S2) (by kernel_rfl) hS0 (fun hHeld => ?_)
         simp only [List.size_toArray,List.length_cons,List.length_nil,Nat.reduceAdd]
         clear hS0
         refine wpAnyH_take (i:=0) (v := .pointer (some ⟨Q,0,none⟩)) rfl (by kernel_rfl) (by kernel_rfl) (by kernel_rfl) (fun _ _ _ h => h) (Or.inl ⟨by rfl, ?y0⟩) (by assumption) ?_
         case y0 => (intro w' hSw; go_simp; try rfl)
         try simp only [List.getElem_toArray,List.getElem_cons_zero,Act.put,List.setIfInBounds_toArray,List.set_cons_zero,List.set_cons_succ]
         refine wpAnyH_take (i:=1) (v := .pointer (some ⟨Q,0,none⟩)) rfl (by kernel_rfl) (by kernel_rfl) (by kernel_rfl) (fun _ _ _ h => h) (Or.inl ⟨by rfl, ?y1⟩) (by assumption) ?_
         case y1 => (intro w' hSw; go_simp; try rfl)
         try simp only [List.getElem_toArray,List.getElem_cons_zero,List.getElem_cons_succ,Act.put,List.setIfInBounds_toArray,List.set_cons_zero,List.set_cons_succ]
         refine wpAnyH_take (i:=2) (v := .pointer (some ⟨Q,0,none⟩)) rfl (by kernel_rfl) (by kernel_rfl) (by kernel_rfl) (fun _ _ _ h => h) (Or.inl ⟨by rfl, ?y2⟩) (by assumption) ?_
         case y2 => (intro w' hSw; go_simp; try rfl)
         try simp only [List.getElem_toArray,List.getElem_cons_zero,List.getElem_cons_succ,Act.put,List.setIfInBounds_toArray,List.set_cons_zero,List.set_cons_succ]
         refine wpAnyH_take (i:=3) (v := .pointer (some ⟨Q,6,none⟩)) rfl (by kernel_rfl) (by kernel_rfl) (by kernel_rfl) (fun _ _ _ h => h) (Or.inl ⟨by rfl, ?y3⟩) (by assumption) ?_
         case y3 => (intro w' hSw; go_simp; try rfl)
         try simp only [List.getElem_toArray,List.getElem_cons_zero,List.getElem_cons_succ,Act.put,List.setIfInBounds_toArray,List.set_cons_zero,List.set_cons_succ]
         refine wpAnyH_take (i:=5) (v := .pointer (some ⟨w1.heap.size,1,none⟩)) rfl (by kernel_rfl) (by kernel_rfl) (by kernel_rfl) (fun _ _ _ h => h) (Or.inl ⟨by rfl, ?y5⟩) (by assumption) ?_
         case y5 => (intro w' hSw; go_simp; try rfl)
         try simp only [List.getElem_toArray,List.getElem_cons_zero,List.getElem_cons_succ,Act.put,List.setIfInBounds_toArray,List.set_cons_zero,List.set_cons_succ]
         refine wpAnyH_take (i:=6) (v := .string s1) rfl (by kernel_rfl) (by kernel_rfl) (by kernel_rfl) (fun _ _ _ h => h) (Or.inl ⟨by rfl, ?y6⟩) (by assumption) ?_
         case y6 => (intro w' hSw; have q1:=hSK w' hSw; go_simp; try rfl)
         try simp only [List.getElem_toArray,List.getElem_cons_zero,List.getElem_cons_succ,Act.put,List.setIfInBounds_toArray,List.set_cons_zero,List.set_cons_succ]
         refine wpAnyH_ready (rs := [4,7]) (by kernel_rfl) (by simp) ?_
         refine AllReadyH.cons rfl (fun K hK => ?_) ?_
         . try simp only [List.getElem_toArray,List.getElem_cons_zero,List.getElem_cons_succ]
           go_simp
           refine hK.out _ _ hHeld (fun hHeld => ?_)
           clear hK K
           try simp only [List.getElem_toArray,List.getElem_cons_zero,List.getElem_cons_succ,Act.put,List.setIfInBounds_toArray,List.set_cons_zero,List.set_cons_succ]
           refine wpAnyH_ready (rs := [7]) (by kernel_rfl) (by simp) ?_
           refine AllReadyH.cons rfl (fun K hK => ?_) AllReadyH.nil
           try simp only [List.getElem_toArray,List.getElem_cons_zero,List.getElem_cons_succ]
           go_simp
           have hA:=hSA _ hHeld (.cells #[.string s1] 9)
           refine hK.out _ _ hA (fun hHeld => ?_)
           clear hK K
           try simp only [List.getElem_toArray,List.getElem_cons_zero,List.getElem_cons_succ,Act.put,List.setIfInBounds_toArray,List.set_cons_zero,List.set_cons_succ]
           change wpAnyH _ _ _ _ _ _ _ _ (World.alloc wc.drew (.cells #[.string s1] 9))
           have hn7:=World.news_of_block (cs := #[.string s1]) (heap_alloc_new wc.drew (.cells #[.string s1] 9))
           have ho7:=HOWN.out.alloc (.cells #[.string s1] 9)
           have hb7:B <= (wc.drew.alloc (.cells #[.string s1] 9)).heap.size:=by have:=HBW.out; simp; omega
           refine wpAnyH_ready (rs := [8]) (by kernel_rfl) (by simp) ?_
           refine AllReadyH.cons rfl (fun K hK => ?_) AllReadyH.nil
           try simp only [List.getElem_toArray,List.getElem_cons_zero,List.getElem_cons_succ]
           rw [if_pos (by rfl)]
           refine wp_append_lies _ (.tmp 74) (.tmp 77) 33 rfl B 9 i0 (.string ⟨#[]⟩) 1 16 Tryd.underlying33 hi hz0 hz1 hz2 rfl (by decide) (.slice po N2 co) N2 (strs u.opn.reverse) rfl ho7 ⟨wc.heap.size,0,none⟩ 1 1 [.string s1] rfl rfl hn7 (by intro u hu; simp at hu; subst hu; rfl) (by decide) HMX.out HBY.out hb7 _ rfl ?_
           intro g cap2 w2 hown2 hgrow2 hat2 hlt2
           have hF:=HFIN.out (.cells #[.string s1] 9) g cap2 w2 hown2 hgrow2 (by simpa using hat2)
           obtain ⟨t0c,t0f⟩:=HKEEP.out (.cells #[.string s1] 9) w2 hgrow2
           refine hK.out _ _ hF.1 (fun hHeld => ?_)
           clear hK K hown2 hgrow2 hat2 hlt2 hn7 ho7 hb7
           try simp only [Act.put,List.setIfInBounds_toArray,List.set_cons_zero,List.set_cons_succ]
           refine wpAnyH_take (i:=9) (v := .pointer (some ⟨Q,0,none⟩)) rfl (by kernel_rfl) (by kernel_rfl) (by kernel_rfl) (fun _ _ _ h => h) (Or.inl ⟨by rfl, ?y9⟩) (by assumption) ?_
           case y9 => (intro w' hSw; go_simp; try rfl)
           try simp only [List.getElem_toArray,List.getElem_cons_zero,List.getElem_cons_succ,Act.put,List.setIfInBounds_toArray,List.set_cons_zero,List.set_cons_succ]
           refine wpAnyH_take (i:=10) (v := .pointer (some ⟨Q,6,none⟩)) rfl (by kernel_rfl) (by kernel_rfl) (by kernel_rfl) (fun _ _ _ h => h) (Or.inl ⟨by rfl, ?y10⟩) (by assumption) ?_
           case y10 => (intro w' hSw; go_simp; try rfl)
           try simp only [List.getElem_toArray,List.getElem_cons_zero,List.getElem_cons_succ,Act.put,List.setIfInBounds_toArray,List.set_cons_zero,List.set_cons_succ]
           refine wpAnyH_ready (rs := [11]) (by kernel_rfl) (by simp) ?_
           refine AllReadyH.cons rfl (fun K hK => ?_) AllReadyH.nil
           try simp only [List.getElem_toArray,List.getElem_cons_zero,List.getElem_cons_succ]
           go_simp
           refine hK.out _ _ hF.2.1 (fun hHeld => ?_)
           clear hK K
           try simp only [List.getElem_toArray,List.getElem_cons_zero,List.getElem_cons_succ,Act.put,List.setIfInBounds_toArray,List.set_cons_zero,List.set_cons_succ]
           refine wpAnyH_done (by kernel_rfl) ?_ _
           go_wp2_with fail
           go_meet
           exact hF.2.2
         refine AllReadyH.cons rfl (fun K hK => ?_) AllReadyH.nil
         try simp only [List.getElem_toArray,List.getElem_cons_zero,List.getElem_cons_succ]
         go_simp
         have hA:=hSA _ hHeld (.cells #[.string s1] 9)
         refine hK.out _ _ hA (fun hHeld => ?_)
         clear hK K
         try simp only [List.getElem_toArray,List.getElem_cons_zero,List.getElem_cons_succ,Act.put,List.setIfInBounds_toArray,List.set_cons_zero,List.set_cons_succ]
         change wpAnyH _ _ _ _ _ _ _ _ (World.alloc wc.drew (.cells #[.string s1] 9))
         have c6b:(wc.drew.alloc (.cells #[.string s1] 9)).cell? ⟨Q,6,none⟩ = some (.slice po N2 co):=(World.cell?_alloc_lt _ _ _ hQ7).trans c6
         refine wpAnyH_ready (rs := [4]) (by kernel_rfl) (by simp) ?_
         refine AllReadyH.cons rfl (fun K hK => ?_) AllReadyH.nil
         try simp only [List.getElem_toArray,List.getElem_cons_zero,List.getElem_cons_succ]
         go_simp
         refine hK.out _ _ hHeld (fun hHeld => ?_)
         clear hK K
         try simp only [List.getElem_toArray,List.getElem_cons_zero,List.getElem_cons_succ,Act.put,List.setIfInBounds_toArray,List.set_cons_zero,List.set_cons_succ]
         have hn7:=World.news_of_block (cs := #[.string s1]) (heap_alloc_new wc.drew (.cells #[.string s1] 9))
         have ho7:=HOWN.out.alloc (.cells #[.string s1] 9)
         have hb7:B <= (wc.drew.alloc (.cells #[.string s1] 9)).heap.size:=by have:=HBW.out; simp; omega
         refine wpAnyH_ready (rs := [8]) (by kernel_rfl) (by simp) ?_
         refine AllReadyH.cons rfl (fun K hK => ?_) AllReadyH.nil
         try simp only [List.getElem_toArray,List.getElem_cons_zero,List.getElem_cons_succ]
         rw [if_pos (by rfl)]
         refine wp_append_lies _ (.tmp 74) (.tmp 77) 33 rfl B 9 i0 (.string ⟨#[]⟩) 1 16 Tryd.underlying33 hi hz0 hz1 hz2 rfl (by decide) (.slice po N2 co) N2 (strs u.opn.reverse) rfl ho7 ⟨wc.heap.size,0,none⟩ 1 1 [.string s1] rfl rfl hn7 (by intro u hu; simp at hu; subst hu; rfl) (by decide) HMX.out HBY.out hb7 _ rfl ?_
         intro g cap2 w2 hown2 hgrow2 hat2 hlt2
         have hF:=HFIN.out (.cells #[.string s1] 9) g cap2 w2 hown2 hgrow2 (by simpa using hat2)
         obtain ⟨t0c,t0f⟩:=HKEEP.out (.cells #[.string s1] 9) w2 hgrow2
         refine hK.out _ _ hF.1 (fun hHeld => ?_)
         clear hK K hown2 hgrow2 hat2 hlt2 hn7 ho7 hb7
         try simp only [Act.put,List.setIfInBounds_toArray,List.set_cons_zero,List.set_cons_succ]
         refine wpAnyH_take (i:=9) (v := .pointer (some ⟨Q,0,none⟩)) rfl (by kernel_rfl) (by kernel_rfl) (by kernel_rfl) (fun _ _ _ h => h) (Or.inl ⟨by rfl, ?y9⟩) (by assumption) ?_
         case y9 => (intro w' hSw; go_simp; try rfl)
         try simp only [List.getElem_toArray,List.getElem_cons_zero,List.getElem_cons_succ,Act.put,List.setIfInBounds_toArray,List.set_cons_zero,List.set_cons_succ]
         refine wpAnyH_take (i:=10) (v := .pointer (some ⟨Q,6,none⟩)) rfl (by kernel_rfl) (by kernel_rfl) (by kernel_rfl) (fun _ _ _ h => h) (Or.inl ⟨by rfl, ?y10⟩) (by assumption) ?_
         case y10 => (intro w' hSw; go_simp; try rfl)
         try simp only [List.getElem_toArray,List.getElem_cons_zero,List.getElem_cons_succ,Act.put,List.setIfInBounds_toArray,List.set_cons_zero,List.set_cons_succ]
         refine wpAnyH_ready (rs := [11]) (by kernel_rfl) (by simp) ?_
         refine AllReadyH.cons rfl (fun K hK => ?_) AllReadyH.nil
         try simp only [List.getElem_toArray,List.getElem_cons_zero,List.getElem_cons_succ]
         go_simp
         refine hK.out _ _ hF.2.1 (fun hHeld => ?_)
         clear hK K
         try simp only [List.getElem_toArray,List.getElem_cons_zero,List.getElem_cons_succ,Act.put,List.setIfInBounds_toArray,List.set_cons_zero,List.set_cons_succ]
         refine wpAnyH_done (by kernel_rfl) ?_ _
         go_wp2_with fail
         go_meet
         exact hF.2.2
        case rest =>
         rw [HGN.out] at hcut
         obtain ⟨po',co',hD8,hL8,hX8,hT8,hS8⟩:=hcut
         have m0:wc.cell? ⟨w1.heap.size,0,none⟩ = some (.int .i64 1):=by rw [Lib.cell_of_heap hS8]; rfl
         have m6:=hD8.c 6 (.slice po' (N2 + 1) co') rfl
         have m7:=hD8.c 7 (.int .i64 (u.inn:Nat)) rfl
         have n7:=hD8.fz 7
         have b1:((N2:Int) + 1 == 0)=false:=by simp; omega
         have HD8:=hide' hD8
         have HL8:=hide' hL8
         have HX8:=hide' hX8
         have HT8:=hide' hT8
         clear hD8 hL8 hX8 hT8 hS8 k0 k1 c6 c7 f6 f7 HKEEP HFIN HOWN HGN
         go_wp2_with fail
         go_roundg (gk - 1)
         case measure => exact HG9.out
         case rel =>
          have h9:=HD8.out.put 7 (.int .i64 1) (how':=0) (p':=(0,0,0,0)) (inn':=1) rfl
          have hx:=ToX.put (w:=wc) (Q:=Q) (X:=dfoot D Q R2 tk' (.slice po' (N2 + 1) co')) (by simp [dfoot]) 7 (.int .i64 1)
          have hT9:Tb B (wc.setCell ⟨Q,7,none⟩ (.int .i64 1)):=HT8.out.to ((Below.refl B wc).setCell (p:=⟨Q,7,none⟩) HD8.out.low _)
          exact HEND.out _ _ _ _ h9 HOP.out.symm HIN.out.symm (HL8.out.keep hT9 (fun q hq => RowKit.Below.heap_setCell _ _ _ _ (fun e => HD8.out.aQ (by rw [<- show q=Q from e]; exact hq))) (Nat.le_trans h9.low (Nat.le_of_lt h9.lt))) (HX8.out.trans hx) hT9
      . have HE:=hide' e
        obtain rfl:z0=2:=by rw [hzk,e]; rfl
        have hne:=HK2.out e
        clear hzk hk3 e
        have hop:(u.after t).opn=u.opn.tail:=by unfold Dr.after; rw [if_neg (by rw [HE.out]; decide),HE.out]; rfl
        have hin:(u.after t).inn=if u.opn.tail = [] then 2 else u.inn:=by unfold Dr.after; rw [if_neg (by rw [HE.out]; decide),HE.out]; rfl
        obtain ⟨m,hm⟩ : ∃ m,N2=m + 1:=⟨N2 - 1,by have:=List.length_pos_iff.2 hne; have:=HN2.out; rw [List.length_reverse] at this; omega⟩
        have hml:u.opn.tail.reverse.length=m:=by rw [List.length_reverse,List.length_tail]; have:=HN2.out; rw [List.length_reverse] at this; omega
        subst hm
        have hD:=HD7.out
        obtain ⟨g,hg,hcap,hmx,hrow⟩ : ∃ g,po=some ⟨g,0,none⟩ /\ m + 1 <= co /\ co <= maxLen /\ wc.ownsRow B 9 1 (.slice (some ⟨g,0,none⟩) m co) m (strs u.opn.tail.reverse):=by
         rcases hD.opn.2 with ⟨_,e⟩ | ⟨g,cap,cur,e,e2,e3,e4,e5,e6,e7⟩
         . have:=HN2.out; omega
         . rw [HEO.out,HN2.out] at e
           cases e
           rw [HN2.out] at e4 e7
           refine ⟨g,rfl,e4,e5,⟨by unfold strs; rw [List.length_map,hml,Nat.mul_one], .inr ⟨g,co,cur,rfl,e2,e3,by omega,e5,e6, ?_⟩⟩⟩
           rw [Nat.mul_one] at e7 ⊢
           have h8:strs u.opn.tail.reverse=(strs u.opn.reverse).take m:=by
            unfold strs
            rw [<- List.dropLast_reverse,List.dropLast_eq_take,List.map_take,HN2.out]
            rfl
           rw [h8, <- e7,List.take_take,Nat.min_eq_left (by omega)]
        subst hg
        have hml2:co <= 9223372036854775807:=by unfold maxLen at hmx; omega
        have b1:(((m + 1:Nat) : Int) == 0)=false:=by simp; omega
        have i0:((m + 1:Nat) : Int) - 1=m:=by omega
        have i1:IntKind.i64.wrap (m:Int)=m:=by rw [IntKind.wrap_i64]; omega
        have i2:(m:Int) <= co:=by omega
        have i3:(0:Int) <= m:=by omega
        have i4:m <= co:=by omega
        have hfl:=HL7.out.lt
        obtain ⟨d1,d2⟩:=hD.names (w1:=wc) (o':=u.opn.tail.reverse) (v' := .slice (some ⟨g,0,none⟩) m co) ⟨rfl,rfl,rfl,Nat.le_refl _,fun _ _ _ => rfl⟩ (by rw [hml]; exact hrow) (fun q e => by cases e; left; rw [HEO.out]; rfl) (fun q hq => (hfl q hq).2)
        have hkk : ∀ q,some q ∈ foot D R2 -> (wc.setCell ⟨Q,6,none⟩ (.slice (some ⟨g,0,none⟩) m co)).heap[q]? = wc.heap[q]? := fun q hq => RowKit.Below.heap_setCell _ _ _ _ (fun e => hD.aQ (by rw [<- show q=Q from e]; exact hq))
        have hTb:Tb B (wc.setCell ⟨Q,6,none⟩ (.slice (some ⟨g,0,none⟩) m co)):=HT7.out.to ((Below.refl B wc).setCell (p:=⟨Q,6,none⟩) hD.low _)
        have hL8:=HL7.out.keep hTb hkk (Nat.le_trans d1.low (Nat.le_of_lt d1.lt))
        have hX8:=HX7.out.trans d2
        have hS8:(wc.setCell ⟨Q,6,none⟩ (.slice (some ⟨g,0,none⟩) m co)).heap[w1.heap.size]? = some (.cells #[.int .i64 2, .string s1, .slice pa pm pc, .string s3, .int .i64 z4, .int .i64 z5, .int .i64 z6, .int .i64 z7, .int .i64 z8, .int .i64 z9, .int .i64 z10, .int .i64 z11] 43 (0,0)):=(RowKit.Below.heap_setCell _ _ _ _ hqt).trans HS7.out
        obtain ⟨GM,hGM⟩ : ∃ GM:World -> Prop,GM=fun wx => Drv wx B Q D R2 tk' (.slice (some ⟨g,0,none⟩) m co) (T0 ++ (V ++ [tv])) 0 (0,0,0,0) u.opn.tail.reverse u.inn /\ LS f n en a0 u0 D B ((V ++ [tv]).map (·.tk)) (u.after t) R2 wx /\ ToX (dfoot D Q R tk op) (dfoot D Q R2 tk' (.slice (some ⟨g,0,none⟩) m co)) w wx /\ Tb B wx /\ wx.heap[w1.heap.size]? = some (.cells #[.int .i64 2, .string s1, .slice pa pm pc, .string s3, .int .i64 z4, .int .i64 z5, .int .i64 z6, .int .i64 z7, .int .i64 z8, .int .i64 z9, .int .i64 z10, .int .i64 z11] 43 (0,0)):=⟨_,rfl⟩
        have HFM:Hid (∀ W',Below (wc.setCell ⟨Q,6,none⟩ (.slice (some ⟨g,0,none⟩) m co)).heap.size (wc.setCell ⟨Q,6,none⟩ (.slice (some ⟨g,0,none⟩) m co)) W' -> GM W'):=by
         intro W' hb
         have hBs:B <= (wc.setCell ⟨Q,6,none⟩ (.slice (some ⟨g,0,none⟩) m co)).heap.size:=Nat.le_trans d1.low (Nat.le_of_lt d1.lt)
         rw [hGM]
         exact ⟨d1.below hb,hL8.keep (hTb.below hb hBs) (fun q hq => hb.block q (hL8.lt q hq).2) (Nat.le_trans hBs hb.size),hX8.trans (.of_below hb),hTb.below hb hBs,(hb.block _ (lt_of_heap hS8)).trans hS8⟩
        have HOP:=hide' hop
        have HIN:=hide' hin
        have HML:=hide' hml
        have HGM:=hide' hGM
        clear hop hin hml hGM hD hrow hmx hfl d1 d2 hkk hTb hL8 hX8 hS8 hne
        go_upto_region 20 with fail
        go_region
        have hcut:=HFM.out _ (Below.refl _ _).drew
        generalize (wc.setCell ⟨Q,6,none⟩ (.slice (some ⟨g,0,none⟩) m co)).drew=W9 at hcut ⊢
        rw [HGM.out] at hcut
        obtain ⟨hD8,hL8,hX8,hT8,hS8⟩:=hcut
        have m0:W9.cell? ⟨w1.heap.size,0,none⟩ = some (.int .i64 2):=by rw [Lib.cell_of_heap hS8]; rfl
        have m6:=hD8.c 6 (.slice (some ⟨g,0,none⟩) m co) rfl
        have m7:=hD8.c 7 (.int .i64 (u.inn:Nat)) rfl
        have n7:=hD8.fz 7
        have HD8:=hide' hD8
        have HL8:=hide' hL8
        have HX8:=hide' hX8
        have HT8:=hide' hT8
        clear hD8 hL8 hX8 hT8 hS8 k0 k1 c6 c7 f6 f7 HGM HFM b1 i0 i1 i2 i3 i4 hcap hml2
        by_cases hn:m=0
        . have hu0:u.opn.tail = []:=by have:=HML.out; rw [hn,List.length_reverse] at this; exact List.eq_nil_of_length_eq_zero this
          have HU0:=hide' hu0
          clear hu0
          subst hn
          go_wp2_with fail
          go_roundg (gk - 1)
          case measure => exact HG9.out
          case rel =>
           have h9:=HD8.out.put 7 (.int .i64 2) (how':=0) (p':=(0,0,0,0)) (inn':=2) rfl
           have hx:=ToX.put (w:=W9) (Q:=Q) (X:=dfoot D Q R2 tk' (.slice (some ⟨g,0,none⟩) 0 co)) (by simp [dfoot]) 7 (.int .i64 2)
           have hT9:Tb B (W9.setCell ⟨Q,7,none⟩ (.int .i64 2)):=HT8.out.to ((Below.refl B W9).setCell (p:=⟨Q,7,none⟩) HD8.out.low _)
           exact HEND.out _ _ _ _ h9 (by rw [HOP.out]) (by rw [HIN.out,if_pos HU0.out]) (HL8.out.keep hT9 (fun q hq => RowKit.Below.heap_setCell _ _ _ _ (fun e => HD8.out.aQ (by rw [<- show q=Q from e]; exact hq))) (Nat.le_trans h9.low (Nat.le_of_lt h9.lt))) (HX8.out.trans hx) hT9
        . have hu0:u.opn.tail ≠ []:=fun e => hn (by have:=HML.out; rw [e] at this; simpa using this.symm)
          have HU0:=hide' hu0
          have b0:(m == 0)=false:=by simpa using hn
          have b1:((m:Int) == 0)=false:=by simp; omega
          clear hn hu0
          go_wp2_with fail
          go_roundg (gk - 1)
          case measure => exact HG9.out
          case rel => exact HEND.out _ _ _ _ HD8.out (by rw [HOP.out]) (by rw [HIN.out,if_neg HU0.out]) HL8.out HX8.out HT8.out
      . have HE:=hide' e
        obtain rfl:z0=3:=by rw [hzk,e]; rfl
        clear hzk hk3 e
        have hop:(u.after t).opn=u.opn:=by unfold Dr.after; rw [if_neg (by rw [HE.out]; decide),HE.out]; rfl
        have hin:(u.after t).inn=if u.opn = [] then 2 else u.inn:=by unfold Dr.after; rw [if_neg (by rw [HE.out]; decide),HE.out]; rfl
        have HOP:=hide' hop
        have HIN:=hide' hin
        clear hop hin
        by_cases hn:N2=0
        . have hu0:u.opn = []:=by have:=HN2.out; rw [hn,List.length_reverse] at this; exact List.eq_nil_of_length_eq_zero this
          have HU0:=hide' hu0
          clear hu0
          subst hn
          go_wp2_with fail
          go_roundg (gk - 1)
          case measure => exact HG9.out
          case rel =>
           have h8:=HD7.out.put 7 (.int .i64 2) (how':=0) (p':=(0,0,0,0)) (inn':=2) rfl
           have hb:=HT7.out
           have hx:=ToX.put (w:=wc) (Q:=Q) (X:=dfoot D Q R2 tk' op1) (by simp [dfoot]) 7 (.int .i64 2)
           have hT8:Tb B (wc.setCell ⟨Q,7,none⟩ (.int .i64 2)):=hb.to ((Below.refl B wc).setCell (p:=⟨Q,7,none⟩) HD7.out.low _)
           exact HEND.out _ _ _ _ h8 (by rw [HOP.out]) (by rw [HIN.out,if_pos HU0.out]) (HL7.out.keep hT8 (fun q hq => RowKit.Below.heap_setCell _ _ _ _ (fun e => HD7.out.aQ (by rw [<- show q=Q from e]; exact hq))) (Nat.le_trans h8.low (Nat.le_of_lt h8.lt))) (HX7.out.trans hx) hT8
        . have hu0:u.opn ≠ []:=fun e => hn (by have:=HN2.out; rw [e] at this; simpa using this.symm)
          have HU0:=hide' hu0
          have b0:(N2 == 0)=false:=by simpa using hn
          have b1:((N2:Int) == 0)=false:=by simp; omega
          clear hn hu0
          go_wp2_with fail
          go_roundg (gk - 1)
          case measure => exact HG9.out
          case rel => exact HEND.out _ _ _ _ HD7.out (by rw [HOP.out]) (by rw [HIN.out,if_neg HU0.out]) HL7.out HX7.out HT7.out
   . have j0:((how:Int) != 0)=true:=by simp; omega
     have HSt:=hide' hSt
     clear h0 hSt HCS
     go_wp2_with fail
     refine bodyPost_ret (v := .bool true) (by simp [results,Tryd.results12,go_sem]) rfl ?_
     have hD6:=HG6.out.d
     have hB6:B <= W6.heap.size:=Nat.le_trans hD6.low (Nat.le_of_lt hD6.lt)
     exact ⟨rfl,V,u,R2,tk1,op1,how,p,hD6,HSt.out.keep HG6.out.b (fun q hq => HG6.out.k q (HSt.out.lt q hq).2 (fun e => hD6.aQ (by rw [<- e]; exact hq))) hB6,HX1.out.trans HG6.out.x,HG6.out.b⟩
end
end Sc
end Go.Proofs.YteiiepjegdlbeaaDoor
