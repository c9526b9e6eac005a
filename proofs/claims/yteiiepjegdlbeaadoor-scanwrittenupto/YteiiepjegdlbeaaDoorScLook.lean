import Derived.Test.YteiiepjegdlbeaaDoorScFail
import Derived.Test.YteiiepjegdlbeaaDoorFdPush
set_option maxHeartbeats 4000000
namespace Go.Proofs.YteiiepjegdlbeaaDoor
open Go.RowKit Go.Lib
namespace Sc
def Tb (B:Nat) (w:World) : Prop := ∃ w0,Spans w0 /\ Lib.Utf8Tabs 2 3 w0 /\ w0.heap.size <= B /\ Below B w0 w
theorem Tb.to {B:Nat} {w w':World} (h:Tb B w) (hb:Below B w w') : Tb B w':=by
 obtain ⟨w0,h1,h2,h3,h4⟩:=h
 exact ⟨w0,h1,h2,h3,h4.trans hb⟩
theorem Tb.below {B:Nat} {w w':World} (h:Tb B w) (hb:Below w.heap.size w w') (hB:B <= w.heap.size) : Tb B w':=h.to (hb.mono hB)
theorem Tb.spans {B:Nat} {w:World} (h:Tb B w) : Spans w:=by
 obtain ⟨w0,h1,h2,h3,h4⟩:=h
 exact h1.below h4 h3
theorem Tb.tabs {B:Nat} {w:World} (h:Tb B w) : Lib.Utf8Tabs 2 3 w:=by
 obtain ⟨w0,h1,h2,h3,h4⟩:=h
 exact tabs_below h2 h4 h3
theorem Tb.low {B:Nat} {w:World} (h:Tb B w) : 2 < B /\ 3 < B:=by
 obtain ⟨w0,h1,h2,h3,h4⟩:=h
 have a1:=block_lt_of_cell (h2.1 0 (by omega))
 have a2:=block_lt_of_cell (h2.2 0 (by omega)).1
 exact ⟨Nat.lt_of_lt_of_le a1 h3,Nat.lt_of_lt_of_le a2 h3⟩
theorem pk_cases (F:Nat -> Nat) (N T:Nat) : (Fd.pk F N T false).2.2.2=0 \/ Fd.pk F N T false=(0,0,0,1) \/ ((Fd.pk F N T false).2.2.2=2 /\ (Fd.pk F N T false).1=0 /\ (Fd.pk F N T false).2.2.1=0):=by
 unfold Fd.pk
 repeat' split
 all_goals (first | (left; rfl) | (right; left; rfl) | (right; right; exact ⟨rfl,rfl,rfl⟩) | skip)
 all_goals simp_all
theorem pk_goes {F:Nat -> Nat} {N N' T:Nat} (hx:(Fd.pk F N T false).2.2.2 ≠ 1) (hN:N <= N') : Fd.pk F N' T false=Fd.pk F N T false:=by
 cases h:Fd.pk F N T false with
 | mk r x => cases x with
   | mk a y => cases y with
     | mk z m =>
       rw [h] at hx
       exact Fd.pk_stays h hx hN false
def chV (x:Nat × Nat × Nat × Nat) (y:Nat × Nat × Nat × Nat) : Value := .tuple #[.agg #[.int .i32 (x.1:Nat), .int .i64 (y.1:Nat), .int .i64 (y.2.1:Nat), .int .i64 (y.2.2.1:Nat), .int .i64 (y.2.2.2:Nat), .int .i64 (x.2.2.1:Nat)], .int .i64 (x.2.2.2:Nat)]
theorem pkV_ch {F:Nat -> Nat} {N T:Nat} (a b c d:Nat) : ∃ y,Fd.pkV (Fd.pk F N T false) a b c d=chV (Fd.pk F N T false) y:=by
 rcases pk_cases F N T with h | h | h
 . exact ⟨(a,b,c,d),by unfold Fd.pkV chV; rw [if_pos h,h]; rfl⟩
 . exact ⟨(0,0,0,0),by rw [h]; rfl⟩
 . obtain ⟨h1,h2,h3⟩:=h
   refine ⟨(a + (Fd.pk F N T false).2.1,b + (Fd.pk F N T false).2.1,c,d + (Fd.pk F N T false).2.1), ?_⟩
   unfold Fd.pkV chV
   rw [if_neg (by omega),if_pos h1,h1,h2,h3]
   rfl
section
variable {w:World} {D B n:Nat} {f:Nat -> Nat} {S:St} {R:Raw}
theorem pk_feed {G:Nat -> Nat} {N T q e:Nat} (h1:N=T + (e - q)) (hqe:q <= e) (h2 : ∀ j,j < e - q -> G (T + j)=f (q + j)) : Fd.pk G N T false=Fd.pk f e q false:=by
 have e1:=Fd.pk_off G T (e - q) 0 false
 have e2:=Fd.pk_off f q (e - q) 0 false
 rw [Nat.add_zero] at e1 e2
 rw [h1, <- e1,show Fd.pk f e q false=Fd.pk f (q + (e - q)) q false by rw [Nat.add_sub_cancel' hqe], <- e2]
 exact Fd.pk_congr h2
theorem feedPeek_S (h:SC w D B f n S R) (hT:Tb B w) (d:Nat) (hd:R.fp=some d) (hq:S.q <= S.e) :
 Calls Tryd.prog 72 #[.pointer (some ⟨d,0,none⟩)] w fun e w' => (∃ y,e = .returned (chV (Fd.pk f S.e S.q false) y)) /\ Below w.heap.size w w':=by
 rcases h.feed with ⟨e,_⟩ | ⟨d',G,N,T,p,e,hB,hF,h1,h2,h3,h4,h5⟩
 . rw [hd] at e; cases e
 . rw [hd] at e
   cases e
   refine (feedPeek_abs hT.tabs h4 hF).mono ?_
   rintro e w' ⟨rfl,hb⟩
   rw [pk_feed h2 hq h5]
   obtain ⟨y,hy⟩:=pkV_ch (F:=f) (N:=S.e) (T:=S.q) T p.1 p.2.1 p.2.2
   exact ⟨⟨y,by rw [hy]⟩,hb⟩
theorem SC.feedPut (h:SC w D B f n S R) {w':World} {d q e:Nat} (hd:R.fp=some d) {v':Value} (hb:ButF d R.fv w w') (hv:v'.ownBlock=R.fv.ownBlock \/ ∃ X,w.heap.size <= X /\ v'.ownBlock=some X) (hF:FeedOf w' B R.fp v' f n q e) :
 SC w' D B f n { S with q:=q,e:=e } { R with fv:=v' } /\ To D R w { R with fv:=v' } w':=by
 have hne : ∀ j q,j ≠ 1 -> j ≠ 2 -> (foot D R)[j]? = some (some q) -> w'.heap[q]? = w.heap[q]? := by
  intro j q h1 h2 hq
  refine hb.block q (h.lt q (List.mem_of_getElem? hq)).2 (fun e => ?_) fun e => ?_
  . exact h1 (h.apart j 1 q hq (by rw [e, <- hd]; rfl))
  . exact h2 (h.apart j 2 q hq (by rw [<- e]; rfl))
 constructor
 . refine ⟨(hne 0 D (by omega) (by omega) rfl).trans h.cell,h.low,h.rest.keep fun q e => hne 3 q (by omega) (by omega) (by rw [<- e]; rfl),own_keep h.text fun q e => hne 4 q (by omega) (by omega) (by rw [<- e]; rfl),
    own_keep h.ref fun q e => hne 5 q (by omega) (by omega) (by rw [<- e]; rfl),own_keep h.tag fun q e => hne 6 q (by omega) (by omega) (by rw [<- e]; rfl),own_keep h.attrs fun q e => hne 7 q (by omega) (by omega) (by rw [<- e]; rfl),
    h.seen.keep fun q e => hne 8 q (by omega) (by omega) (by rw [<- e]; rfl),own_keep h.attr fun q e => hne 9 q (by omega) (by omega) (by rw [<- e]; rfl),own_keep h.val fun q e => hne 10 q (by omega) (by omega) (by rw [<- e]; rfl),hF, ?_⟩
   refine h.apart.set 2 v'.ownBlock fun q e j hq => ?_
   rcases hv with k1 | ⟨X,k1,k2⟩
   . exact h.apart j 2 q hq (by rw [<- e,k1]; rfl)
   . have:=(h.lt q (List.mem_of_getElem? hq)).2
     rw [k2] at e
     cases e
     omega
 . refine ⟨⟨hb.os,hb.tape,hb.output,hb.size,fun k hk hn => hb.block k hk (fun e => hn ?_) fun e => hn ?_⟩,fun q hq => ?_⟩
   . rw [e, <- hd]; simp [foot]
   . rw [<- e]; simp [foot]
   . simp only [foot,List.mem_cons,List.not_mem_nil,or_false] at hq ⊢
     rcases hq with e | e | e | e | e | e | e | e | e | e | e
     all_goals first
      | (left; simp [e]; done)
      | (rcases hv with k1 | ⟨X, k1, k2⟩
         . left; rw [<- k1]; simp [e]
         . right; rw [k2] at e; cases e; exact k1)
theorem feedPush_S (h:SC w D B f n S R) (hT:Tb B w) (hf : ∀ j,f j < 256) (hn:n <= 140737488355328) (d:Nat) (hd:R.fp=some d) (hq:S.q <= S.e) (he:S.e < n) (q o cap c:Nat) (er:R.rest = .slice (some ⟨q,o,none⟩) n cap) :
 Calls Tryd.prog 73 #[.pointer (some ⟨d,0,none⟩), .slice (some ⟨q,o + S.e,none⟩) 1 c] w fun e w' => e = .returned (.int .i64 0) /\ ∃ R',R' = { R with fv:=R'.fv } /\ SC w' D B f n { S with e:=S.e + 1 } R' /\ To D R w R' w':=by
 rcases h.feed with ⟨e,_⟩ | ⟨d',G,N,T,p,e,hB,hF,h1,h2,h3,h4,h5⟩
 . rw [hd] at e; cases e
 . rw [hd] at e
   cases e
   have hby:Bytes w q o n f:=by
    rcases h.rest.sl with ⟨e,_⟩ | ⟨q',o',cap',e,_,_,hby⟩
    . rw [er] at e; cases e
    . rw [er] at e; cases e; exact hby
   have hc : ∀ j u,(xs (fun _ => f S.e) 1)[j]? = some u -> w.cell? (Addr.add ⟨q,o + S.e,none⟩ j)=some u:=by
    intro j u hu
    obtain ⟨hj,rfl⟩:=xs_get _ _ _ _ hu
    obtain rfl:j=0:=by omega
    exact hby S.e he
   have e3:(foot D R)[3]? = some (some q):=by
    show some R.rest.ownBlock=_
    rw [er]
    rfl
   have a1:q ≠ d:=fun e => by have:=h.apart 1 3 q (by rw [e, <- hd]; rfl) e3; omega
   have a2:R.fv.ownBlock ≠ some q:=fun e => by have:=h.apart 2 3 q (by rw [<- e]; rfl) e3; omega
   refine (feedPush_abs (G:=fun j => if j < N then G j else f S.e) hF hT.tabs hT.low hB ⟨q,o + S.e,none⟩ 1 c (fun _ => f S.e) (fun j => by show (if j < N then G j else f S.e) < 256; split; exact h4 _; exact hf _) (fun j hj => by simp [hj]) (fun j hj => by show (if N + j < N then G (N + j) else f S.e)=f S.e; rw [if_neg (by omega)]) hc ⟨a1,a2⟩ (by omega)).mono ?_
   rintro e w' ⟨rfl,v',hF',hv',hb⟩
   have hFO:FeedOf w' B R.fp v' f n S.q (S.e + 1):=by
    refine .inr ⟨d,_,N + 1,T,p,hd,hB,hF',by omega,by omega,by omega,fun j => by show (if j < N then G j else f S.e) < 256; split; exact h4 _; exact hf _,fun j hj => ?_⟩
    show (if T + j < N then G (T + j) else f S.e)=f (S.q + j)
    by_cases c:T + j < N
    . rw [if_pos c]; exact h5 j (by omega)
    . rw [if_neg c,show S.q + j=S.e by omega]
   obtain ⟨k1,k2⟩:=h.feedPut hd hb hv' hFO
   exact ⟨rfl,_,rfl,k1,k2⟩
theorem feedNext_S (h:SC w D B f n S R) (hT:Tb B w) (d:Nat) (hd:R.fp=some d) (hq:S.q <= S.e) :
 Calls Tryd.prog 64 #[.pointer (some ⟨d,0,none⟩)] w fun e w' => (∃ y,e = .returned (chV (Fd.pk f S.e S.q false) y)) /\ SC w' D B f n { S with q:=S.q + (Fd.pk f S.e S.q false).2.2.1 } R /\ To D R w R w':=by
 rcases h.feed with ⟨e,_⟩ | ⟨d',G,N,T,p,e,hB,hF,h1,h2,h3,h4,h5⟩
 . rw [hd] at e; cases e
 . rw [hd] at e
   cases e
   have ep:=pk_feed h2 hq h5
   have hbd:=(Fd.pk_bound G N T false).2 (by omega)
   refine (feedNext_abs hT.tabs h4 hF).mono ?_
   rintro e w' ⟨rfl,hF',hb⟩
   rw [ep] at hF' hbd ⊢
   obtain ⟨y,hy⟩:=pkV_ch (F:=f) (N:=S.e) (T:=S.q) T p.1 p.2.1 p.2.2
   have hFO:FeedOf w' B R.fp R.fv f n (S.q + (Fd.pk f S.e S.q false).2.2.1) S.e:=by
    refine .inr ⟨d,G,N,_,_,hd,hB,hF',h1,by omega,h3,h4,fun j hj => ?_⟩
    rw [Nat.add_assoc,h5 _ (by omega),Nat.add_assoc]
   obtain ⟨k1,k2⟩:=h.feedPut hd (ButF.of_but hb) (.inl rfl) hFO
   exact ⟨⟨y,by rw [hy]⟩,k1,k2⟩
end
def Mn (f:Nat -> Nat) (q e:Nat) : Prop := ∀ m,q < m -> m < e -> (Fd.pk f m q false).2.2.2=1
def fedOf (w:World) (D:Nat) : Nat:=match w.cell? ⟨D,15,none⟩ with | some (.int _ k) => k.toNat | _ => 0
theorem fedOf_eq {w:World} {D x:Nat} (h:w.cell? ⟨D,15,none⟩ = some (.int .i64 (x:Nat))) : fedOf w D=x:=by
 unfold fedOf
 rw [h]
 simp
theorem heap_lt {w:World} {k:Nat} {o:Obj} (h:w.heap[k]? = some o) : k < w.heap.size:=by
 rcases Nat.lt_or_ge k w.heap.size with c | c
 . exact c
 . rw [Array.getElem?_eq_none (by omega)] at h
   cases h
def chA (x:Nat × Nat × Nat × Nat) (y:Nat × Nat × Nat × Nat) : Array Value := #[.int .i32 (x.1:Nat), .int .i64 (y.1:Nat), .int .i64 (y.2.1:Nat), .int .i64 (y.2.2.1:Nat), .int .i64 (y.2.2.2:Nat), .int .i64 (x.2.2.1:Nat)]
def zA:Array Value := #[.int .i32 0, .int .i64 0, .int .i64 0, .int .i64 0, .int .i64 0, .int .i64 0]
section
variable {w:World} {D B n:Nat} {f:Nat -> Nat} {S:St} {R:Raw}
theorem look_any (h:SC w D B f n S R) (hT:Tb B w) (hBw:B <= w.heap.size) (hf : ∀ j,f j < 256) (hn:n <= 140737488355328) (d:Nat) (hd:R.fp=some d) (hq:S.q <= S.fed) (he:S.e=S.fed) (hfn:S.fed <= n) (hMn:Mn f S.q S.fed) :
 Calls Tryd.prog 62 #[.pointer (some ⟨D,0,none⟩)] w fun e w' => (∃ y,e = .returned (chV (Fd.pk f n S.q false) y)) /\ ∃ x R',S.fed <= x /\ x <= n /\ R' = { R with fv:=R'.fv } /\ SC w' D B f n { S with fed:=x,e:=x } R' /\ Fd.pk f x S.q false=Fd.pk f n S.q false /\ To D R w R' w' /\ Mn f S.q x:=by
 have hb0:Below w.heap.size w (w.alloc (.cells zA 97)):=(Below.refl _ _).alloc (Nat.le_refl _) _
 have h0:=h.below hb0
 have c14:w.cell? ⟨D,14,none⟩ = some (.pointer (some ⟨d,0,none⟩)):=by have:=h.c14; rw [hd] at this; exact this
 have hlD:=h.lt0
 have cPk:=feedPeek_S h0 (hT.below hb0 hBw) d hd (by omega)
 rw [he] at cPk
 unfold zA at cPk
 have HH:=hide' h
 have HT:=hide' hT
 have HD:=hide' hd
 clear h hT h0 hb0 hd
 go_enter Tryd.func62,Tryd.ntmps62
 go_wp2_with fail
 refine cPk.mono ?_
 rintro e w1 ⟨⟨y,rfl⟩,hb1⟩
 have hs1:=hb1.size
 simp at hs1
 have hB1:Below w.heap.size w w1:=((Below.refl _ _).alloc (Nat.le_refl _) _:Below w.heap.size w (w.alloc _)).trans (hb1.mono (by simp))
 have hR1:w1.heap[w.heap.size]? = some (.cells zA 97 (0,0)):=(hb1.block w.heap.size (by simp)).trans (heap_alloc_new w _)
 have HB1:=hide' hB1
 have HR1:=hide' hR1
 clear cPk hb1 hB1 hR1
 unfold chV
 go_wp2_with fail
 obtain ⟨K,hK⟩ : ∃ K,K=w1.heap.size:=⟨_,rfl⟩
 rw [<- hK]
 have hKw:w.heap.size < K:=by omega
 have start : ∃ wr,wr=w1.alloc (.cells (chA (Fd.pk f S.fed S.q false) y) 97) /\ SC wr D B f n { S with fed:=S.fed,e:=S.fed } R /\ To D R w R wr /\ wr.heap[K]? = some (.cells (chA (Fd.pk f S.fed S.q false) y) 97 (0,0)) /\ wr.heap[w.heap.size]? = some (.cells zA 97 (0,0)) /\ (∀ q,some q ∈ foot D R -> q ≠ K /\ q ≠ w.heap.size):=by
  have hb:Below w.heap.size w (w1.alloc (.cells (chA (Fd.pk f S.fed S.q false) y) 97)):=HB1.out.alloc HB1.out.size _
  refine ⟨_,rfl, ?_, .of_below hb,by rw [hK]; exact heap_alloc_new w1 _, ?_,fun q hq => ?_⟩
  . have:=HH.out.below hb
    have e:({ S with fed:=S.fed,e:=S.fed } : St)=S:=by
     clear this hb
     cases S
     cases he
     rfl
    rw [e]
    exact this
  . exact (((Below.refl w1.heap.size w1).alloc (Nat.le_refl _) _).block w.heap.size (by omega)).trans HR1.out
  . have:=(HH.out.lt q hq).2
    omega
 obtain ⟨wr0,hw0,s1,s2,s3,s4,s5⟩:=start
 unfold chA at hw0
 rw [<- hw0]
 have HKe:=hide' hK
 clear hw0 hK
 go_loopw [5] (fun b wr => ∃ (x:Nat) (Rr:Raw) (y:Nat × Nat × Nat × Nat),b = .int .i64 ((Fd.pk f x S.q false).2.2.2:Nat) /\ S.fed <= x /\ x <= n /\ SC wr D B f n { S with fed:=x,e:=x } Rr /\ Hid (Rr = { R with fv:=Rr.fv }) /\ To D R w Rr wr /\ wr.heap[K]? = some (.cells (chA (Fd.pk f x S.q false) y) 97 (0,0)) /\ wr.heap[w.heap.size]? = some (.cells zA 97 (0,0)) /\ (∀ q,some q ∈ foot D Rr -> q ≠ K /\ q ≠ w.heap.size) /\ Hid (Mn f S.q x)) (fun _ wr => n - fedOf wr D)
 case atStart => exact ⟨S.fed,R,y,rfl,Nat.le_refl _,hfn,s1,(show _=_ from rfl),s2,s3,s4,s5,hMn⟩
 case round =>
  clear s1 s2 s3 s4 s5
  obtain ⟨x,Rr,y1,rfl,hx1,hx2,hS,hRr,hTo,hK1,hR1,hft,hmn⟩:=hrel
  have hD0:=hS.lt0
  have d14:wr.cell? ⟨D,14,none⟩ = some (.pointer (some ⟨d,0,none⟩)):=by
   have:=hS.c14
   rw [hRr.out] at this
   have e:({ R with fv:=Rr.fv } : Raw).fp=some d:=HD.out
   rw [e] at this
   exact this
  have d15:=hS.c15
  have g15:=hS.fz 15
  have d0:wr.cell? ⟨D,0,none⟩ = some R.rest:=by
   have:=hS.c0
   rw [hRr.out] at this
   exact this
  by_cases hw:Fd.pk f x S.q false=(0,0,0,1) /\ x < n
  . obtain ⟨hp1,hxn⟩:=hw
    obtain ⟨q,o,cap,er,hc,hm⟩ : ∃ q o cap,R.rest = .slice (some ⟨q,o,none⟩) n cap /\ n <= cap /\ cap <= maxLen:=by
     rcases HH.out.rest.sl with ⟨e,e2⟩ | ⟨q,o,cap,e,h1,h2,_⟩
     . omega
     . exact ⟨q,o,cap,e,h1,h2⟩
    have er':Rr.rest = .slice (some ⟨q,o,none⟩) n cap:=by rw [hRr.out]; exact er
    have ed':Rr.fp=some d:=by rw [hRr.out]; exact HD.out
    have hTr:=HT.out.to (HH.out.to_below hTo)
    have hm':cap <= 9223372036854775807:=by unfold maxLen at hm; omega
    rw [er] at d0
    have e5:(Fd.pk f x S.q false).2.2.2=1:=by rw [hp1]
    rw [e5]
    have i1:(x:Int) < n:=by omega
    have HS:=hide' hS
    have HTo:=hide' hTo
    have HTr:=hide' hTr
    have HP1:=hide' hp1
    have HK1:=hide' hK1
    have HR1':=hide' hR1
    have HER:=hide' er'
    have HED:=hide' ed'
    have HFT:=hide' hft
    have HD15:=hide' d15
    clear hS hTo hTr hp1 hK1 hR1 er' ed' hft e5 er
    go_wp2
    go_quiet (fail)
    go_wp2
    have hS2:=(HS.out.drewN nq).drew
    have hTo2:=(HTo.out.drewN nq).drew
    have hK2:(wr.drewN nq).drew.heap[K]? = _:=HK1.out
    have hR2:(wr.drewN nq).drew.heap[w.heap.size]? = _:=HR1'.out
    have hT2:Tb B (wr.drewN nq).drew:=(HTr.out.below (below_drewN (Below.refl _ _) nq) (Nat.le_trans hBw HTo.out.mv.size)).below (Below.refl _ _).drew (Nat.le_trans hBw HTo.out.mv.size)
    have cPu:=feedPush_S (c:=cap - x) hS2 hT2 hf hn d HED.out (by show S.q <= x; omega) hxn q o cap HER.out
    generalize wr.drewN nq=w2 at *
    have x0:=hS2.c0
    rw [HER.out] at x0
    have x14:w2.drew.cell? ⟨D,14,none⟩ = some (.pointer (some ⟨d,0,none⟩)):=by
     have:=hS2.c14
     rw [HED.out] at this
     exact this
    have x15:=hS2.c15
    have xx:w2.drew.cell? ⟨D,0,none⟩ = some (.slice (some ⟨q,o,none⟩) n cap) /\ w2.drew.cell? ⟨D,14,none⟩ = some (.pointer (some ⟨d,0,none⟩)) /\ w2.drew.cell? ⟨D,15,none⟩ = some (.int .i64 (x:Nat)):=⟨x0,x14,x15⟩
    have HS2:=hide' hS2
    have HTo2:=hide' hTo2
    have HK2:=hide' hK2
    have HR2:=hide' hR2
    have HZ:Hid (∀ (w3:World) (R3:Raw),R3 = { Rr with fv:=R3.fv } -> SC w3 D B f n { S with fed:=x,e:=x + 1 } R3 -> w3.cell? ⟨D,0,none⟩ = some (.slice (some ⟨q,o,none⟩) n cap) /\ w3.cell? ⟨D,14,none⟩ = some (.pointer (some ⟨d,0,none⟩)) /\ w3.cell? ⟨D,15,none⟩ = some (.int .i64 (x:Nat))):=by
     intro w3 R3 e3 h3
     have a0:=h3.c0
     have a14:=h3.c14
     rw [e3] at a0 a14
     refine ⟨a0.trans (by rw [<- HER.out]), ?_,h3.c15⟩
     have e:({ Rr with fv:=R3.fv } : Raw).fp=some d:=HED.out
     rw [e] at a14
     exact a14
    clear HS HTo HK1 HR1' hS2 hTo2 hK2 hR2 hT2 x0 x14 x15 d0 d14 d15 g15 c14
    have i3:(x:Int) + 1 <= n:=by omega
    have i4:(x:Int) + 1 <= cap:=by omega
    have hwr:IntKind.i64.wrap ((x:Int) + 1)=(x:Int) + 1:=by rw [IntKind.wrap_i64]; omega
    have j1:(0:Int) <= (x:Int):=by omega
    have j2:(x:Int) <= (x:Int) + 1:=by omega
    have j3:(0:Int) <= (x:Int) + 1:=by omega
    have j5:(x:Int) <= cap:=by omega
    have j6:((x:Int) + 1).toNat=x + 1:=by omega
    have j7:x + 1 - x=1:=by omega
    have j8 : ¬ cap=x:=by omega
    go_region_held (fun w' => w'.cell? ⟨D,0,none⟩ = some (.slice (some ⟨q,o,none⟩) n cap) /\ w'.cell? ⟨D,14,none⟩ = some (.pointer (some ⟨d,0,none⟩)) /\ w'.cell? ⟨D,15,none⟩ = some (.int .i64 (x:Nat))) (first | (with_reducible exact xx) | (with_reducible exact zz)) (first | (go_at_call 73; refine cPu.mono ?_; rintro e w3 ⟨rfl,R3,hR3,hS3,hTo3⟩; have zz:=HZ.out w3 R3 hR3 hS3))
    obtain ⟨z0,z14,z15⟩:=zz
    have g15:=hS3.fz 15
    have hS4:=hS3.put 15 (.int .i64 ((x + 1:Nat) : Int)) { S with fed:=x + 1,e:=x + 1 } rfl ⟨rfl,rfl,rfl,rfl,rfl,rfl,rfl,rfl⟩
    have hTo4:=(HTo2.out.trans hTo3).setCell (R':=R3) 15 (.int .i64 ((x + 1:Nat) : Int)) rfl
    have hlK:K < w2.drew.heap.size:=by
     rcases Nat.lt_or_ge K w2.drew.heap.size with k | k
     . exact k
     . have:=HK2.out
       rw [Array.getElem?_eq_none (by omega)] at this
       cases this
    have hDK:K ≠ D:=fun e => (HFT.out D (by simp [foot])).1 e.symm
    have hDw:w.heap.size ≠ D:=fun e => (HFT.out D (by simp [foot])).2 e.symm
    have hK4:(w3.setCell ⟨D,15,none⟩ (.int .i64 ((x + 1:Nat) : Int))).heap[K]? = some (.cells (chA (Fd.pk f x S.q false) y1) 97 (0,0)) :=
     (RowKit.Below.heap_setCell _ _ _ _ hDK).trans ((hTo3.mv.block K hlK fun hm => (HFT.out K hm).1 rfl).trans HK2.out)
    have hR4:(w3.setCell ⟨D,15,none⟩ (.int .i64 ((x + 1:Nat) : Int))).heap[w.heap.size]? = some (.cells zA 97 (0,0)) :=
     (RowKit.Below.heap_setCell _ _ _ _ hDw).trans ((hTo3.mv.block w.heap.size (by omega) fun hm => (HFT.out _ hm).2 rfl).trans HR2.out)
    have hft4 : ∀ q,some q ∈ foot D R3 -> q ≠ K /\ q ≠ w.heap.size:=by
     intro q hq
     rcases hTo3.own q hq with e | e
     . exact HFT.out q e
     . constructor <;> omega
    have hT4:=HT.out.to (HH.out.to_below hTo4)
    have hed3:R3.fp=some d:=by rw [hR3]; exact HED.out
    have cPk:=feedPeek_S hS4 hT4 d hed3 (by show S.q <= x + 1; omega)
    have hRr3:R3 = { R with fv:=R3.fv }:=by
     rw [hR3,hRr.out]
    have HS4:=hide' hS4
    have HTo4:=hide' hTo4
    have HK4:=hide' hK4
    have HR4:=hide' hR4
    have HFT4:=hide' hft4
    have HR3e:=hide' hRr3
    clear hS4 hTo4 hK4 hR4 hft4 hT4 hS3 hTo3 hR3 hRr3 HS2 HTo2 HK2 HR2 hlK cPu xx HZ hed3
    go_wp2_with fail
    refine cPk.mono ?_
    rintro e w5 ⟨⟨y5,rfl⟩,hb5⟩
    have hS5:=HS4.out.below hb5
    have hTo5:=HTo4.out.trans (.of_below hb5)
    have hK5:=(hb5.block K (by have:=HK4.out; rcases Nat.lt_or_ge K (w3.setCell ⟨D,15,none⟩ (.int .i64 ((x + 1:Nat) : Int))).heap.size with k | k; exact k; rw [Array.getElem?_eq_none (by omega)] at this; cases this)).trans HK4.out
    have hR5:=(hb5.block w.heap.size (Nat.lt_of_lt_of_le hKw (by have:=HK4.out; rcases Nat.lt_or_ge K (w3.setCell ⟨D,15,none⟩ (.int .i64 ((x + 1:Nat) : Int))).heap.size with k | k; omega; rw [Array.getElem?_eq_none (by omega)] at this; cases this))).trans HR4.out
    have k0:w5.cell? ⟨K,0,none⟩ = some (.int .i32 ((Fd.pk f x S.q false).1:Nat)):=by rw [Lib.cell_of_heap hK5]; rfl
    have k1:w5.cell? ⟨K,1,none⟩ = some (.int .i64 (y1.1:Nat)):=by rw [Lib.cell_of_heap hK5]; rfl
    have k2:w5.cell? ⟨K,2,none⟩ = some (.int .i64 (y1.2.1:Nat)):=by rw [Lib.cell_of_heap hK5]; rfl
    have k3:w5.cell? ⟨K,3,none⟩ = some (.int .i64 (y1.2.2.1:Nat)):=by rw [Lib.cell_of_heap hK5]; rfl
    have k4:w5.cell? ⟨K,4,none⟩ = some (.int .i64 (y1.2.2.2:Nat)):=by rw [Lib.cell_of_heap hK5]; rfl
    have k5:w5.cell? ⟨K,5,none⟩ = some (.int .i64 ((Fd.pk f x S.q false).2.2.1:Nat)):=by rw [Lib.cell_of_heap hK5]; rfl
    have kf:=fun i => Lib.frozen_of_heap hK5 i
    have kf0:=kf 0
    have kf1:=kf 1
    have kf2:=kf 2
    have kf3:=kf 3
    have kf4:=kf 4
    have kf5:=kf 5
    have HS5:=hide' hS5
    have HTo5:=hide' hTo5
    have HK5:=hide' hK5
    have HR5:=hide' hR5
    clear hS5 hTo5 hK5 hR5 HS4 HTo4 HK4 HR4 hb5 cPk kf z0 z14 z15 g15
    unfold chV
    go_wp2_with fail
    go_roundw
    case rel =>
     have hbut:=((((((But.of_below (Below.refl w5.heap.size w5)).setCell (p:=⟨K,0,none⟩) rfl (.int .i32 ((Fd.pk f (x + 1) S.q false).1:Nat))).setCell (p:=⟨K,1,none⟩) rfl (.int .i64 (y5.1:Nat))).setCell (p:=⟨K,2,none⟩) rfl (.int .i64 (y5.2.1:Nat))).setCell (p:=⟨K,3,none⟩) rfl (.int .i64 (y5.2.2.1:Nat))).setCell (p:=⟨K,4,none⟩) rfl (.int .i64 (y5.2.2.2:Nat))).setCell (p:=⟨K,5,none⟩) rfl (.int .i64 ((Fd.pk f (x + 1) S.q false).2.2.1:Nat))
     dsimp only at hbut
     refine ⟨x + 1,R3,y5,rfl,by omega,by omega,HS5.out.keep fun q hq => hbut.block q (HS5.out.lt q hq).2 (HFT4.out q hq).1,HR3e, ?_, ?_, ?_,HFT4.out,fun m h1 h2 => ?_⟩
     . exact ⟨⟨hbut.os.trans HTo5.out.mv.os,hbut.tape.trans HTo5.out.mv.tape,hbut.output.trans HTo5.out.mv.output,Nat.le_trans HTo5.out.mv.size hbut.size,fun k hk hn => (hbut.block k (Nat.lt_of_lt_of_le hk HTo5.out.mv.size) (by omega)).trans (HTo5.out.mv.block k hk hn)⟩,HTo5.out.own⟩
     . exact Go.Joins.block_setCell (i:=5) (Go.Joins.block_setCell (i:=4) (Go.Joins.block_setCell (i:=3) (Go.Joins.block_setCell (i:=2) (Go.Joins.block_setCell (i:=1) (Go.Joins.block_setCell (i:=0) HK5.out _) _) _) _) _) _
     . exact (hbut.block w.heap.size (heap_lt HR5.out) (by omega)).trans HR5.out
     . by_cases c : m < x
       . exact hmn.out m h1 c
       . obtain rfl:m=x:=by omega
         rw [HP1.out]
    case measure =>
     have hbut:=((((((But.of_below (Below.refl w5.heap.size w5)).setCell (p:=⟨K,0,none⟩) rfl (.int .i32 ((Fd.pk f (x + 1) S.q false).1:Nat))).setCell (p:=⟨K,1,none⟩) rfl (.int .i64 (y5.1:Nat))).setCell (p:=⟨K,2,none⟩) rfl (.int .i64 (y5.2.1:Nat))).setCell (p:=⟨K,3,none⟩) rfl (.int .i64 (y5.2.2.1:Nat))).setCell (p:=⟨K,4,none⟩) rfl (.int .i64 (y5.2.2.2:Nat))).setCell (p:=⟨K,5,none⟩) rfl (.int .i64 ((Fd.pk f (x + 1) S.q false).2.2.1:Nat))
     have e1:=fedOf_eq ((World.cell?_of_block (a:=⟨D,15,none⟩) (hbut.block D HS5.out.lt0 hDK.symm)).trans HS5.out.c15)
     have e2:fedOf wr D=x:=fedOf_eq HD15.out
     rw [e1,e2]
     show n - (x + 1) < n - x
     omega
  . have k0:wr.cell? ⟨K,0,none⟩ = some (.int .i32 ((Fd.pk f x S.q false).1:Nat)):=by rw [Lib.cell_of_heap hK1]; rfl
    have k1:wr.cell? ⟨K,1,none⟩ = some (.int .i64 (y1.1:Nat)):=by rw [Lib.cell_of_heap hK1]; rfl
    have k2:wr.cell? ⟨K,2,none⟩ = some (.int .i64 (y1.2.1:Nat)):=by rw [Lib.cell_of_heap hK1]; rfl
    have k3:wr.cell? ⟨K,3,none⟩ = some (.int .i64 (y1.2.2.1:Nat)):=by rw [Lib.cell_of_heap hK1]; rfl
    have k4:wr.cell? ⟨K,4,none⟩ = some (.int .i64 (y1.2.2.2:Nat)):=by rw [Lib.cell_of_heap hK1]; rfl
    have k5:wr.cell? ⟨K,5,none⟩ = some (.int .i64 ((Fd.pk f x S.q false).2.2.1:Nat)):=by rw [Lib.cell_of_heap hK1]; rfl
    have r0:wr.cell? ⟨w.heap.size,0,none⟩ = some (.int .i32 0):=by rw [Lib.cell_of_heap hR1]; rfl
    have r1:wr.cell? ⟨w.heap.size,1,none⟩ = some (.int .i64 0):=by rw [Lib.cell_of_heap hR1]; rfl
    have r2:wr.cell? ⟨w.heap.size,2,none⟩ = some (.int .i64 0):=by rw [Lib.cell_of_heap hR1]; rfl
    have r3:wr.cell? ⟨w.heap.size,3,none⟩ = some (.int .i64 0):=by rw [Lib.cell_of_heap hR1]; rfl
    have r4:wr.cell? ⟨w.heap.size,4,none⟩ = some (.int .i64 0):=by rw [Lib.cell_of_heap hR1]; rfl
    have r5:wr.cell? ⟨w.heap.size,5,none⟩ = some (.int .i64 0):=by rw [Lib.cell_of_heap hR1]; rfl
    have rf0:=Lib.frozen_of_heap hR1 0
    have rf1:=Lib.frozen_of_heap hR1 1
    have rf2:=Lib.frozen_of_heap hR1 2
    have rf3:=Lib.frozen_of_heap hR1 3
    have rf4:=Lib.frozen_of_heap hR1 4
    have rf5:=Lib.frozen_of_heap hR1 5
    have hpk:Fd.pk f x S.q false=Fd.pk f n S.q false:=by
     by_cases c:(Fd.pk f x S.q false).2.2.2=1
     . rcases pk_cases f x S.q with e | e | e
       . omega
       . have:x=n:=by
          have : ¬ x < n:=fun k => hw ⟨e,k⟩
          omega
         rw [this]
       . omega
     . exact (pk_goes c hx2).symm
    have fin : ∀ W,But w.heap.size wr W -> (∃ y,Ending.returned (.tuple #[.agg #[.int .i32 ((Fd.pk f x S.q false).1:Nat), .int .i64 (y1.1:Nat), .int .i64 (y1.2.1:Nat), .int .i64 (y1.2.2.1:Nat), .int .i64 (y1.2.2.2:Nat), .int .i64 ((Fd.pk f x S.q false).2.2.1:Nat)], .int .i64 ((Fd.pk f x S.q false).2.2.2:Nat)]) = .returned (chV (Fd.pk f n S.q false) y)) /\ ∃ x R',S.fed <= x /\ x <= n /\ R' = { R with fv:=R'.fv } /\ SC W D B f n { S with fed:=x,e:=x } R' /\ Fd.pk f x S.q false=Fd.pk f n S.q false /\ To D R w R' W /\ Mn f S.q x:=by
     intro W hb
     refine ⟨⟨y1,by rw [hpk]; rfl⟩,x,Rr,hx1,hx2,hRr.out,hS.keep fun q hq => hb.block q (hS.lt q hq).2 (hft q hq).2,hpk, ?_,hmn.out⟩
     exact ⟨⟨hb.os.trans hTo.mv.os,hb.tape.trans hTo.mv.tape,hb.output.trans hTo.mv.output,Nat.le_trans hTo.mv.size hb.size,fun k hk hn => (hb.block k (Nat.lt_of_lt_of_le hk hTo.mv.size) (by omega)).trans (hTo.mv.block k hk hn)⟩,hTo.own⟩
    have hlen : ∃ pa cap,R.rest = .slice pa n cap:=by
     rcases HH.out.rest.sl with ⟨e,e2⟩ | ⟨q,o,cap,e,h1,h2,_⟩
     . exact ⟨none,0,by rw [e,e2]⟩
     . exact ⟨_,_,e⟩
    obtain ⟨pa,cap,er⟩:=hlen
    rw [er] at d0
    have hcase:((Fd.pk f x S.q false).2.2.2=1 /\ x=n) \/ (Fd.pk f x S.q false).2.2.2=0 \/ (Fd.pk f x S.q false).2.2.2=2:=by
     rcases pk_cases f x S.q with e | e | e
     . exact .inr (.inl e)
     . left
       refine ⟨by rw [e], ?_⟩
       have : ¬ x < n:=fun k => hw ⟨e,k⟩
       omega
     . exact .inr (.inr e.1)
    clear hpk hS hTo hK1 hR1 hft hw c14 er
    have hKw' : ¬ K=w.heap.size:=by omega
    rcases hcase with ⟨c1,c2⟩ | c1 | c1
    . rw [c1] at fin ⊢
      have c2' : ¬ (x:Int) < n:=by omega
      have FIN:=hide' fin
      clear c1 fin c2
      go_wp2
      go_quiet (fail)
      go_wp2
      refine bodyPost_ret (v := .tuple #[.agg #[.int .i32 ((Fd.pk f x S.q false).1:Nat), .int .i64 (y1.1:Nat), .int .i64 (y1.2.1:Nat), .int .i64 (y1.2.2.1:Nat), .int .i64 (y1.2.2.2:Nat), .int .i64 ((Fd.pk f x S.q false).2.2.1:Nat)], .int .i64 (1:Nat)]) (by simp [results,Tryd.results62,go_sem,r0,r1,r2,r3,r4,r5]) rfl (FIN.out _ ?_)
      exact ((((((But.of_below (below_drewN (Below.refl _ _) _)).setCell (p:=⟨w.heap.size,0,none⟩) rfl _).setCell (p:=⟨w.heap.size,1,none⟩) rfl _).setCell (p:=⟨w.heap.size,2,none⟩) rfl _).setCell (p:=⟨w.heap.size,3,none⟩) rfl _).setCell (p:=⟨w.heap.size,4,none⟩) rfl _).setCell (p:=⟨w.heap.size,5,none⟩) rfl _
    . rw [c1] at fin ⊢
      have FIN:=hide' fin
      clear c1 fin
      go_wp2
      go_quiet (fail)
      go_wp2
      refine bodyPost_ret (v := .tuple #[.agg #[.int .i32 ((Fd.pk f x S.q false).1:Nat), .int .i64 (y1.1:Nat), .int .i64 (y1.2.1:Nat), .int .i64 (y1.2.2.1:Nat), .int .i64 (y1.2.2.2:Nat), .int .i64 ((Fd.pk f x S.q false).2.2.1:Nat)], .int .i64 (0:Nat)]) (by simp [results,Tryd.results62,go_sem,r0,r1,r2,r3,r4,r5]) rfl (FIN.out _ ?_)
      exact ((((((But.of_below (below_drewN (Below.refl _ _) _)).setCell (p:=⟨w.heap.size,0,none⟩) rfl _).setCell (p:=⟨w.heap.size,1,none⟩) rfl _).setCell (p:=⟨w.heap.size,2,none⟩) rfl _).setCell (p:=⟨w.heap.size,3,none⟩) rfl _).setCell (p:=⟨w.heap.size,4,none⟩) rfl _).setCell (p:=⟨w.heap.size,5,none⟩) rfl _
    . rw [c1] at fin ⊢
      have FIN:=hide' fin
      clear c1 fin
      go_wp2
      go_quiet (fail)
      go_wp2
      refine bodyPost_ret (v := .tuple #[.agg #[.int .i32 ((Fd.pk f x S.q false).1:Nat), .int .i64 (y1.1:Nat), .int .i64 (y1.2.1:Nat), .int .i64 (y1.2.2.1:Nat), .int .i64 (y1.2.2.2:Nat), .int .i64 ((Fd.pk f x S.q false).2.2.1:Nat)], .int .i64 (2:Nat)]) (by simp [results,Tryd.results62,go_sem,r0,r1,r2,r3,r4,r5]) rfl (FIN.out _ ?_)
      exact ((((((But.of_below (below_drewN (Below.refl _ _) _)).setCell (p:=⟨w.heap.size,0,none⟩) rfl _).setCell (p:=⟨w.heap.size,1,none⟩) rfl _).setCell (p:=⟨w.heap.size,2,none⟩) rfl _).setCell (p:=⟨w.heap.size,3,none⟩) rfl _).setCell (p:=⟨w.heap.size,4,none⟩) rfl _).setCell (p:=⟨w.heap.size,5,none⟩) rfl _
end
end Sc
end Go.Proofs.YteiiepjegdlbeaaDoor
