import Derived.Test.YteiiepjegdlbeaaDoorScTellB
import Derived.Test.YteiiepjegdlbeaaDoorScMono
import Derived.Test.YteiiepjegdlbeaaDoorScOk
set_option maxHeartbeats 8000000
set_option maxRecDepth 10000
namespace Go.Proofs.YteiiepjegdlbeaaDoor
open Go.RowKit Go.Lib
namespace Sc
def place0:Array Value := #[.int .i64 0, .int .i64 0, .int .i64 0, .int .i64 0]
theorem placeInfo:(Tryd.prog.info? 32).map (·.size)=some 4:=by kernel_rfl
theorem place0One:place0.all (·.oneCell')=true:=by simp [place0,Value.oneCell']
theorem results_three {P:Program} {fn:Func} {a b c:Nat} {t u:TypeId} (hr:fn.results = #[.cell a t, .cell b u, .tmp c]) (tmps:Array Value) (p q:Addr) (hp:tmps[a]?.getD undef = .pointer (some p)) (hq:tmps[b]?.getD undef = .pointer (some q)) (v v2 v3:Value) (w:World) (h:(loadVar t p).run P w = .ok v w) (h2:(loadVar u q).run P w = .ok v2 w) (h3:tmps[c]?.getD undef=v3) : (results fn tmps).run P w = .ok (.tuple #[v,v2,v3]) w:=by
 unfold results
 rw [hr]
 simp [asAddr,hp,hq,h,h2,h3]
section
variable {w:World} {D B n:Nat} {f:Nat -> Nat} {S:St} {R:Raw}
theorem ok_new (nm:List UInt8) : Ok nm 0 {}:=by
 refine ⟨rfl, ?_, ?_, ?_, ?_, ?_, ?_, ?_, ?_, ?_, ?_, ?_, ?_, ?_⟩
 all_goals simp
theorem rdy_new {d i:Nat} {m:List UInt8} (hT:Tb B w) (hB:B <= w.heap.size) (hf : ∀ j,f j < 256) (hbig:n <= 1099511627776) (hpl:S.pl.1 <= 1099511627776 /\ S.pl.2.1 <= 1099511627776 /\ S.pl.2.2.1 <= 1099511627776 /\ S.pl.2.2.2 <= 1099511627776) : Rdy w B n f (newSt S i m) (newRaw R d) d :=
 ⟨hT,hB,rfl,rfl,rfl,Nat.le_refl _,Nat.zero_le _,fun m' h1 h2 => by have:(newSt S i m).fed=0:=rfl; omega,hf,hbig,hpl⟩
end
def Scn (w:World) (D B:Nat) (f:Nat -> Nat) (n:Nat) (pl:Nat × Nat × Nat × Nat) (en:Bool) (ph:Option (Nat × List UInt8 × Wk)) (R:Raw) : Prop :=
 ∃ S,SCe w D B f n S R /\ S.pl=pl /\ S.ended=en /\ match ph with
  | none => R.fp=none
  | some (i,m,k) => ∃ d,R.fp=some d /\ S.inn=i /\ S.nm=m /\ S.k=k /\ (k.how=2 -> R.bp=pla pl f n k.bad) /\ (k.how=1 -> SC w D B f n S R /\ Rdy w B n f S R d /\ Ok m S.fed k /\ k.st <= 19)
def Chose (w:World) (D B:Nat) (f:Nat -> Nat) (n:Nat) (pl:Nat × Nat × Nat × Nat) (en:Bool) (i:Nat) (m:List UInt8) (k0:Wk) (R:Raw) (W:World) : Prop :=
 ∃ S1 R1 d,SC W D B f n S1 R1 /\ To D R w R1 W /\ Rdy W B n f S1 R1 d /\ Ok m S1.fed k0 /\ k0.st <= 19 /\ S1.inn=i /\ S1.nm=m /\ S1.pl=pl /\ S1.ended=en /\ S1.k=k0
section
variable {w:World} {D B n:Nat} {f:Nat -> Nat} {R:Raw} {pl:Nat × Nat × Nat × Nat} {en:Bool}
theorem Scn.below {w':World} {ph:Option (Nat × List UInt8 × Wk)} (h:Scn w D B f n pl en ph R) (hT:Tb B w') (hb:Below w.heap.size w w') (hB:B <= w'.heap.size) : Scn w' D B f n pl en ph R:=by
 obtain ⟨S,h1,h2,h3,h4⟩:=h
 refine ⟨S,h1.below hb,h2,h3, ?_⟩
 match ph,h4 with
 | none,h4 => exact h4
 | some (i,m,k),⟨d,q1,q2,q3,q4,q5,q6⟩ =>
   refine ⟨d,q1,q2,q3,q4,q5,fun e => ?_⟩
   obtain ⟨r1,r2,r3,r4⟩:=q6 e
   exact ⟨r1.below hb,⟨hT,hB,r2.fp,r2.q,r2.e,r2.qe,r2.fn,r2.mn,r2.lt,r2.big,r2.pl⟩,r3,r4⟩
theorem Scn.keep {w':World} {ph:Option (Nat × List UInt8 × Wk)} (h:Scn w D B f n pl en ph R) (hT:Tb B w') (hk : ∀ q,some q ∈ foot D R -> w'.heap[q]? = w.heap[q]?) (hB:B <= w'.heap.size) : Scn w' D B f n pl en ph R:=by
 obtain ⟨S,h1,h2,h3,h4⟩:=h
 refine ⟨S,h1.keep hk,h2,h3, ?_⟩
 match ph,h4 with
 | none,h4 => exact h4
 | some (i,m,k),⟨d,q1,q2,q3,q4,q5,q6⟩ =>
   refine ⟨d,q1,q2,q3,q4,q5,fun e => ?_⟩
   obtain ⟨r1,r2,r3,r4⟩:=q6 e
   exact ⟨r1.keep hk,⟨hT,hB,r2.fp,r2.q,r2.e,r2.qe,r2.fn,r2.mn,r2.lt,r2.big,r2.pl⟩,r3,r4⟩
theorem Scn.lt {ph:Option (Nat × List UInt8 × Wk)} (h:Scn w D B f n pl en ph R) : ∀ q,some q ∈ foot D R -> B <= q /\ q < w.heap.size:=by
 obtain ⟨S,h1,_⟩:=h
 exact h1.lt
theorem chose_new {ph:Option (Nat × List UInt8 × Wk)} (h:Scn w D B f n pl en ph R) (hT:Tb B w) (hB:B <= w.heap.size) (hf : ∀ j,f j < 256) (hbig:n <= 1099511627776) (hpl:pl.1 <= 1099511627776 /\ pl.2.1 <= 1099511627776 /\ pl.2.2.1 <= 1099511627776 /\ pl.2.2.2 <= 1099511627776)
 (iv:Int) (l:List UInt8) (hl:l.length <= 70368744177664) (hne : ∀ k,ph ≠ some (inOf iv,nmOf iv l,k)) :
 ∀ W0,Below w.heap.size w W0 -> Calls Tryd.prog 21 #[.pointer (some ⟨D,0,none⟩), .int .i64 iv, .string ⟨l.toArray⟩] W0 fun e w' => e = .returned (.tuple #[]) /\ Chose W0 D B f n pl en (inOf iv) (nmOf iv l) {} R w':=by
 intro W0 hb0
 obtain ⟨S,h1,rfl,rfl,h4⟩:=h
 have hn:R.fp=none \/ S.inn ≠ inOf iv \/ S.nm ≠ nmOf iv l:=by
  match ph,h4 with
  | none,h4 => exact .inl h4
  | some (i,m,k),⟨d,q1,q2,q3,q4,q5,q6⟩ =>
    by_cases e1:S.inn=inOf iv
    . by_cases e2:S.nm=nmOf iv l
      . exact absurd (by rw [<- q2, <- q3,e1,e2]) (hne k)
      . exact .inr (.inr e2)
    . exact .inr (.inl e1)
 refine (choose_new (h1.below hb0) hf iv l hl hn).mono ?_
 rintro e w' ⟨rfl,d,hd,hS,hTo⟩
 have hB1:=(h1.below hb0).to_below hTo
 exact ⟨rfl,_,_,d,hS,hTo,rdy_new ((hT.below hb0 hB).to hB1) (Nat.le_trans hB (Nat.le_trans hb0.size hTo.mv.size)) hf hbig hpl,ok_new _,by show (0:Nat) <= 19; omega,rfl,rfl,rfl,rfl,rfl⟩
theorem chose_on {k:Wk} (iv:Int) (l:List UInt8) (h:Scn w D B f n pl en (some (inOf iv,nmOf iv l,k)) R) (hT:Tb B w) (hB:B <= w.heap.size) (h1:k.how=1) :
 ∀ W0,Below w.heap.size w W0 -> Calls Tryd.prog 21 #[.pointer (some ⟨D,0,none⟩), .int .i64 iv, .string ⟨l.toArray⟩] W0 fun e w' => e = .returned (.tuple #[]) /\ Chose W0 D B f n pl en (inOf iv) (nmOf iv l) k R w':=by
 intro W0 hb0
 obtain ⟨S,g1,rfl,rfl,d,q1,q2,q3,q4,q5,q6⟩:=h
 obtain ⟨r1,r2,r3,r4⟩:=q6 h1
 refine (choose_same (g1.below hb0) q1 iv l q2 q3).mono ?_
 rintro e w' ⟨rfl,rfl⟩
 exact ⟨rfl,S,R,d,r1.below hb0,To.refl _ _ _,⟨hT.below hb0 hB,Nat.le_trans hB hb0.size,r2.fp,r2.q,r2.e,r2.qe,r2.fn,r2.mn,r2.lt,r2.big,r2.pl⟩,r3,r4,q2,q3,rfl,rfl,q4⟩
end
def Ansr (tk:Array Value) (p:Nat × Nat × Nat × Nat) (how:Nat) : Ending := .returned (.tuple #[.agg tk,plaV p, .int .i64 (how:Nat)])
section
variable (w:World) (D B:Nat) (f:Nat -> Nat) (n:Nat) (pl:Nat × Nat × Nat × Nat) (en:Bool) (i:Nat) (m:List UInt8) (R:Raw)
def TagE (k:Wk) (e:Ending) (w':World) : Prop :=
 ∃ av v,e=Ansr (tokA k.kind k.tag av [] (pla pl f n k.tg) (pla pl f n k.ps)) (0,0,0,0) 0 /\ Scn w' D B (Rn.off f k.ps) (n - k.ps) (pla pl f n k.ps) en none (noRaw v) /\ To D R w (noRaw v) w' /\ Tb B w' /\
  w'.ownsRow B 61 2 av k.attrs.length (acells k.attrs) /\ ∀ q,av.ownBlock=some q -> some q ∉ foot D (noRaw v) /\ (some q ∈ foot D R \/ w.heap.size <= q)
def TextE (k:Wk) (e:Ending) (w':World) : Prop :=
 e=Ansr (tokA 0 [] (.slice none 0 0) k.text (pla pl f n k.tf) (pla pl f n k.tg)) (0,0,0,0) 0 /\ ∃ R',Scn w' D B (Rn.off f k.tg) (n - k.tg) (pla pl f n k.tg) en (some (i,m, { k with ps:=k.ps - k.tg,tg:=0,text := [] })) R' /\ To D R w R' w' /\ Tb B w'
def NoneE (p:Nat × Nat × Nat × Nat) (k:Wk) (e:Ending) (w':World) : Prop :=
 e=Ansr tok0 p k.how /\ ∃ R',Scn w' D B f n pl en (some (i,m,k)) R' /\ To D R w R' w' /\ Tb B w'
def NextE (k:Wk) (e:Ending) (w':World) : Prop :=
 if k.how=0 then (if k.text = [] then TagE w D B f n pl en R k e w' else TextE w D B f n pl en i m R k e w')
 else if k.how=1 then
  (if en=true then (if i=2 /\ k.st=0 then NoneE w D B f n pl en i m R (0,0,0,0) { k with how:=3 } e w' else NoneE w D B f n pl en i m R (pla pl f n n) (k.fails n) e w')
   else NoneE w D B f n pl en i m R (0,0,0,0) k e w')
 else NoneE w D B f n pl en i m R (if k.how=2 then pla pl f n k.bad else (0,0,0,0)) k e w'
end
theorem plaOne (p:Nat × Nat × Nat × Nat) : (#[.int .i64 (p.1:Nat), .int .i64 (p.2.1:Nat), .int .i64 (p.2.2.1:Nat), .int .i64 (p.2.2.2:Nat)] : Array Value).all (·.oneCell')=true:=by simp [Value.oneCell']
def plaA (p:Nat × Nat × Nat × Nat) : Array Value := #[.int .i64 (p.1:Nat), .int .i64 (p.2.1:Nat), .int .i64 (p.2.2.1:Nat), .int .i64 (p.2.2.2:Nat)]
theorem tok0One:tok0.all (·.oneCell')=true:=by simp [tok0,Value.oneCell']
structure Put2 (W W':World) (T:Nat) (tk pk:Array Value) : Prop where
 tok:(loadVar 43 ⟨T,0,none⟩).run Tryd.prog W' = .ok (.agg tk) W'
 pla:(loadVar 32 ⟨T + 1,0,none⟩).run Tryd.prog W' = .ok (.agg pk) W'
 far : ∀ q,q ≠ T -> q ≠ T + 1 -> W'.heap[q]? = W.heap[q]?
 bel:Below T W W'
section
variable {W:World} {T:Nat} {tk pk:Array Value}
theorem there6 (h6:W.heap[T]? = some (.cells tok0 43 (0,0))) (hsz:tk.size=12) : W.there T 0 tk.size:=there_of h6 0 tk.size (by rw [hsz]; exact Nat.le_refl _)
theorem there7 (h7:W.heap[T + 1]? = some (.cells place0 32 (0,0))) (hpz:pk.size=4) : W.there (T + 1) 0 pk.size:=there_of h7 0 pk.size (by rw [hpz]; exact Nat.le_refl _)
theorem far7 (h7:W.heap[T + 1]? = some (.cells place0 32 (0,0))) : (W.setCells T 0 tk.toList).heap[T + 1]? = some (.cells place0 32 (0,0)):=(heap_setCells_far (by omega) _ _ _).trans h7
theorem put2_a (h6:W.heap[T]? = some (.cells tok0 43 (0,0))) (h7:W.heap[T + 1]? = some (.cells place0 32 (0,0))) (hsz:tk.size=12) (hpz:pk.size=4) : Put2 W ((W.setCells T 0 tk.toList).setCells (T + 1) 0 pk.toList) T tk pk:=by
 have r1:(W.setCells T 0 tk.toList).rangeAt T 0 tk.toList:=World.rangeAt_setCells_same _ _ _ _ (by rw [Array.length_toList]; exact there6 h6 hsz)
 refine ⟨?_, ?_,fun q a b => (heap_setCells_far b _ _ _).trans (heap_setCells_far a _ _ _),below_cells (by omega) _ _ _ (below_cells (Nat.le_refl _) _ _ _ (Below.refl _ _))⟩
 . exact run_loadVar_mid _ T 0 43 tk.toList _ (World.rangeAt_setCells_apart r1 (T + 1) 0 pk.toList (.inl (by omega))) Tryd.underlying43 rfl (by rw [tokInfo,Array.length_toList,hsz])
 . exact run_loadVar_mid _ (T + 1) 0 32 pk.toList _ (World.rangeAt_setCells_same _ _ _ _ (by rw [Array.length_toList]; exact there7 (far7 h7) hpz)) Tryd.underlying32 rfl (by rw [placeInfo,Array.length_toList,hpz])
end
section
variable {w:World} {D B n:Nat} {f:Nat -> Nat} {S:St} {R:Raw} {pl:Nat × Nat × Nat × Nat} {en:Bool}
def Gone (w:World) (D B:Nat) (f:Nat -> Nat) (n:Nat) (pl:Nat × Nat × Nat × Nat) (en:Bool) (i:Nat) (m:List UInt8) (R:Raw) (k:Wk) (W:World) : Prop :=
 ∃ S2 R2 d,SCe W D B f n S2 R2 /\ To D R w R2 W /\ Tb B W /\ R2.fp=some d /\ S2.pl=pl /\ S2.ended=en /\ S2.inn=i /\ S2.nm=m /\ S2.k=k /\ k.ps <= n /\ (k.how=2 -> R2.bp=pla pl f n k.bad) /\ (k.how=1 -> SC W D B f n S2 R2 /\ Rdy W B n f S2 R2 d /\ Ok m S2.fed k /\ k.st <= 19)
theorem Steps.how3 {inn:Nat} {nm:List UInt8} {f:Nat -> Nat} {n:Nat} {s t:Wk} (h:Steps inn nm f n s t) (hs:s.how=1) : t.how <= 2:=by
 induction h with
 | refl => omega
 | @cons s t' u g0 h r ih =>
   rcases step_all g0 h with e | e | e
   . cases r with
     | refl => omega
     | cons g _ _ => omega
   . exact ih e
   . cases r with
     | refl => omega
     | cons g _ _ => omega
theorem goOn_chose {W1:World} {i:Nat} {m:List UInt8} {k0:Wk} (h:Chose w D B f n pl en i m k0 R W1) (hi:i <= 2) (hm:m.length <= 70368744177664) (h0:Steps i m f n {} k0) :
 Calls Tryd.prog 22 #[.pointer (some ⟨D,0,none⟩)] W1 fun e W => e = .returned (.tuple #[]) /\ ∃ k,Steps i m f n {} k /\ Ends i m f n k /\ Gone w D B f n pl en i m R k W:=by
 obtain ⟨S1,R1,d,h1,h2,h3,h4,h5,rfl,rfl,rfl,rfl,rfl⟩:=h
 refine (goOn_any h1 h3 h4 h5 hi hm crs twices adds).mono ?_
 rintro e W ⟨rfl,x,k2,R2,hW,hS,hE⟩
 have hk:=h0.trans hS
 have hTo:=h2.trans hW.go
 refine ⟨rfl,k2,hk,hE,Stt S1 x k2,R2,d,hW.sc,hTo,hW.tb,hW.fp,rfl,rfl,rfl,rfl,rfl,hW.psn,hW.bad,fun e => ?_⟩
 obtain ⟨q1,q2⟩:=hW.more (by omega)
 have ok:=hk.okm e (okm_new _)
 have hps:k2.ps <= x:=q2.qe
 have hxn:x <= n:=q2.fn
 refine ⟨q1,q2,⟨e,ok.text,ok.tag,ok.attr,ok.val,ok.ref,ok.ct,ok.attrs,ok.dat,ok.opn,ok.nam,ok.sig,ok.zer,fun g => ?_⟩,hk.st (by show (0:Nat) <= 19; omega)⟩
 have hnone:step S1.inn S1.nm f n k2=none:=by
  rcases hE with a | a
  . exact absurd e a
  . exact a
 have hn:n <= k2.ps:=by
  unfold step at hnone
  rcases g with g | g | g
  . rw [g] at hnone
    simp only [onRef] at hnone
    split at hnone
    . assumption
    . split at hnone
      . cases hnone
      . split at hnone <;> cases hnone
  . rw [g] at hnone
    simp only [onRef] at hnone
    split at hnone
    . assumption
    . split at hnone
      . cases hnone
      . split at hnone <;> cases hnone
  . rw [g] at hnone
    simp only at hnone
    split at hnone
    . cases hnone
    . split at hnone
      . assumption
      . split at hnone <;> cases hnone
 show x=k2.ps
 omega
theorem none_fin {W2 W':World} {S2:St} {R2:Raw} {i d:Nat} {m:List UInt8} {tk pk:Array Value} (h1:SCe W2 D B f n S2 R2) (h2:To D R w R2 W2) (h3:Tb B W2) (h4:R2.fp=some d) (h7:S2.inn=i) (h8:S2.nm=m) (h11:S2.k.how=2 -> R2.bp=pla S2.pl f n S2.k.bad) (h12:S2.k.how=1 -> SC W2 D B f n S2 R2 /\ Rdy W2 B n f S2 R2 d /\ Ok m S2.fed S2.k /\ S2.k.st <= 19)
 (hn6:some w.heap.size ∉ foot D R2) (hn7:some (w.heap.size + 1) ∉ foot D R2) (hB:B <= w.heap.size) (hp:Put2 W2.drew W' w.heap.size tk pk) : Scn W' D B f n S2.pl S2.ended (some (i,m,S2.k)) R2 /\ To D R w R2 W' /\ Tb B W':=by
 have hkeep : ∀ q,some q ∈ foot D R2 -> W'.heap[q]? = W2.heap[q]? := fun q hq => hp.far q (fun e => hn6 (by rw [<- e]; exact hq)) (fun e => hn7 (by rw [<- e]; exact hq))
 have hT:Tb B W':=h3.to ((Below.refl B W2).drew.trans (hp.bel.mono hB))
 have hs:W2.heap.size <= W'.heap.size:=hp.bel.size
 have hB2:B <= W2.heap.size:=Nat.le_trans hB h2.mv.size
 refine ⟨⟨S2,h1.keep hkeep,rfl,rfl,d,h4,h7,h8,rfl,h11,fun e => ?_⟩,⟨⟨hp.bel.os.trans h2.mv.os,hp.bel.tape.trans h2.mv.tape,hp.bel.output.trans h2.mv.output,Nat.le_trans h2.mv.size hs,fun k hk hn => (hp.far k (by omega) (by omega)).trans (h2.mv.block k hk hn)⟩,h2.own⟩,hT⟩
 obtain ⟨r1,r2,r3,r4⟩:=h12 e
 exact ⟨r1.keep hkeep,⟨hT,Nat.le_trans hB2 hs,r2.fp,r2.q,r2.e,r2.qe,r2.fn,r2.mn,r2.lt,r2.big,r2.pl⟩,r3,r4⟩
theorem next_go (hlt0 : ∀ q,some q ∈ foot D R -> q < w.heap.size) (hT:Tb B w) (hB:B <= w.heap.size) (hf : ∀ j,f j < 256) (hbig:n <= 1099511627776) (hpl:pl.1 <= 1099511627776 /\ pl.2.1 <= 1099511627776 /\ pl.2.2.1 <= 1099511627776 /\ pl.2.2.2 <= 1099511627776)
 (iv:Int) (l:List UInt8) (hl:l.length <= 70368744177664) (k0:Wk) (h01:k0.how=1) (hC : ∀ W0,Below w.heap.size w W0 -> Calls Tryd.prog 21 #[.pointer (some ⟨D,0,none⟩), .int .i64 iv, .string ⟨l.toArray⟩] W0 fun e w' => e = .returned (.tuple #[]) /\ Chose W0 D B f n pl en (inOf iv) (nmOf iv l) k0 R w')
 (h0:Steps (inOf iv) (nmOf iv l) f n {} k0) :
 Calls Tryd.prog 17 #[.pointer (some ⟨D,0,none⟩), .int .i64 iv, .string ⟨l.toArray⟩] w fun e w' => ∃ k,Steps (inOf iv) (nmOf iv l) f n {} k /\ Ends (inOf iv) (nmOf iv l) f n k /\ NextE w D B f n pl en (inOf iv) (nmOf iv l) R k e w':=by
 have hin:inOf iv <= 2:=by
  unfold inOf
  repeat' split
  all_goals omega
 have hnm:(nmOf iv l).length <= 70368744177664:=by
  unfold nmOf
  split
  . exact hl
  . simp
 obtain ⟨W0,hW0⟩ : ∃ W0,W0=(w.alloc (.cells tok0 43)).alloc (.cells place0 32):=⟨_,rfl⟩
 have hb0:Below w.heap.size w W0:=by rw [hW0]; exact ((Below.refl _ _).alloc (Nat.le_refl _) _).alloc (by simp) _
 have hs0:W0.heap.size=w.heap.size + 2:=by rw [hW0]; simp
 have cC:=hC W0 hb0
 have CC:=hide' cC
 have HB0:=hide' hb0
 have HT6:Hid (W0.heap[w.heap.size]? = some (.cells tok0 43 (0,0))):=by
  show W0.heap[w.heap.size]? = _
  rw [hW0]
  exact (((Below.refl _ _).alloc (Nat.le_refl _) _).block w.heap.size (by simp)).trans (heap_alloc_new w _)
 have HT7:Hid (W0.heap[w.heap.size + 1]? = some (.cells place0 32 (0,0))):=by
  show W0.heap[w.heap.size + 1]? = _
  rw [hW0]
  have:=heap_alloc_new (w.alloc (.cells tok0 43)) (.cells place0 32)
  rw [show (w.alloc (.cells tok0 43)).heap.size=w.heap.size + 1 by simp] at this
  exact this
 have HL0:=hide' hlt0
 have HTB:Hid (Tb B W0):=hT.below hb0 hB
 have HS0:=hide' hs0
 have HH0:=hide' h0
 have HIN:=hide' hin
 have HNM:=hide' hnm
 have HF:=hide' hf
 have HBG:=hide' hbig
 have HPL:=hide' hpl
 have HBW:=hide' hB
 have H01:=hide' h01
 clear hT hB hf hbig hpl hl h0 hin hnm hC cC hb0 hs0 hlt0 h01
 go_enter Tryd.func17,Tryd.ntmps17
 go_wp2_with fail
 change Calls _ _ _ ((w.alloc (.cells tok0 43)).alloc (.cells place0 32)) _
 rw [<- hW0]
 clear hW0
 refine CC.out.mono ?_
 rintro e W1 ⟨rfl,hCh⟩
 have c9:W1.cell? ⟨D,9,none⟩ = some (.int .i64 1):=by
  obtain ⟨S1,R1,d,q1,q2,q3,q4,q5,q6,q7,q8,q9,q10⟩:=hCh
  have:=q1.c9
  rw [q10,H01.out] at this
  exact this
 have cG:=goOn_chose hCh HIN.out HNM.out HH0.out
 have CG:=hide' cG
 clear hCh cG CC
 go_wp2_with fail
 refine CG.out.mono ?_
 rintro e W2 ⟨rfl,k,hk,hke,hG⟩
 obtain ⟨S2,R2,d,g1,g2,g3,g4,rfl,rfl,g7,g8,rfl,g10,g11,g12⟩:=hG
 have hlt2 : ∀ q,some q ∈ foot D R2 -> q < w.heap.size \/ W0.heap.size <= q:=fun q hq => by
  rcases g2.own q hq with e | e
  . exact .inl (HL0.out q e)
  . exact .inr e
 have hs0:=HS0.out
 have h6:=(g2.mv.block w.heap.size (by omega) fun hq => by have:=HL0.out _ hq; omega).trans HT6.out
 have h7:=(g2.mv.block (w.heap.size + 1) (by omega) fun hq => by have:=HL0.out _ hq; omega).trans HT7.out
 have hn6:some w.heap.size ∉ foot D R2:=fun hq => by rcases hlt2 _ hq with e | e <;> omega
 have hn7:some (w.heap.size + 1) ∉ foot D R2:=fun hq => by rcases hlt2 _ hq with e | e <;> omega
 have HG1:=hide' g1
 have HG2:Hid (To D R w R2 W2):=(To.of_below HB0.out).trans g2
 have HG3:=hide' g3
 have HG4:=hide' g4
 have HG7:=hide' g7
 have HG8:=hide' g8
 have HG10:=hide' g10
 have HG11:=hide' g11
 have HG12:=hide' g12
 have HSZ:Hid (W0.heap.size <= W2.heap.size):=g2.mv.size
 have HSZ6:Hid (w.heap.size < W2.heap.size):=by have:=g2.mv.size; show w.heap.size < W2.heap.size; omega
 have HSZ7:Hid (w.heap.size + 1 < W2.heap.size):=by have:=g2.mv.size; show w.heap.size + 1 < W2.heap.size; omega
 have H6:=hide' h6
 have H7:=hide' h7
 have HN6:=hide' hn6
 have HN7:=hide' hn7
 have HL2:=hide' hlt2
 have d9:=g1.c9
 have hkh:=hk.how3 rfl
 have HK:=hide' hk
 have HKE:=hide' hke
 have HINN:=hide' (hk.inn in_new)
 clear hk hke g1 g2 g3 g4 g7 g8 g10 g11 g12 h6 h7 hn6 hn7 hlt2 hs0 CG c9 HT6 HT7 HB0
 rcases (show S2.k.how=0 \/ S2.k.how=1 \/ S2.k.how=2 by omega) with e0 | e0 | e0
 . rw [e0] at d9
   have d18:=HG1.out.c18
   obtain ⟨pt,ct,et⟩:=own_shape HG1.out.text
   rw [et] at d18
   have HE0:=hide' e0
   clear et hkh
   by_cases hkt:S2.k.text = []
   . obtain ⟨pb,cb,eb⟩:=own_shape HG1.out.attrs
     rw [hkt] at d18
     simp only [List.length_nil] at d18
     have cT:=tellTag_any HG1.out HF.out HINN.out.tg HG10.out HBG.out HPL.out
     obtain ⟨tk,htk⟩ : ∃ tk,tk=tokA S2.k.kind S2.k.tag R2.attrs [] (pla S2.pl f n S2.k.tg) (pla S2.pl f n S2.k.ps):=⟨_,rfl⟩
     have hts:tk.size=12:=by rw [htk]; rfl
     have hto:tk.all (·.oneCell')=true:=by rw [htk,eb]; exact tokOne _ _ _ _ _ _ _ _
     rw [<- htk] at cT
     have CT:=hide' cT
     have HTS:=hide' hts
     have HTI:Hid ((Tryd.prog.info? 43).map (·.size)=some tk.size):=by show _=some tk.size; rw [hts]; exact tokInfo
     have HTO:=hide' hto
     have HFIN:Hid (∀ W3 W' v,SC W3 D B (Rn.off f S2.k.ps) (n - S2.k.ps) (noSt (pla S2.pl f n S2.k.ps) S2.ended) (noRaw v) -> To D R2 W2 (noRaw v) W3 -> W3.ownsRow B 61 2 R2.attrs S2.k.attrs.length (acells S2.k.attrs) -> (∀ q,R2.attrs.ownBlock=some q -> some q ∉ foot D (noRaw v)) -> Put2 W3 W' w.heap.size tk place0 -> ∃ k,Steps (inOf iv) (nmOf iv l) f n {} k /\ Ends (inOf iv) (nmOf iv l) f n k /\ NextE w D B f n S2.pl S2.ended (inOf iv) (nmOf iv l) R k (.returned (.tuple #[.agg tk, .agg place0, .int .i64 0])) W'):=by
      intro W3 W' v k1 k2 k3 k4 hp
      have hTo:To D R w (noRaw v) W3:=HG2.out.trans k2
      have hs0:=HS0.out
      have hnn : ∀ q,w.heap.size <= q -> q < W0.heap.size -> some q ∉ foot D (noRaw v):=fun q q1 q2 hq => by
       rcases k2.own q hq with e | e
       . rcases HL2.out q e with g | g <;> omega
       . have:=HSZ.out; omega
      have hkeep : ∀ q,some q ∈ foot D (noRaw v) -> W'.heap[q]? = W3.heap[q]? := fun q hq => hp.far q (fun e => hnn q (by omega) (by omega) hq) (fun e => hnn q (by omega) (by omega) hq)
      have hat : ∀ q,R2.attrs.ownBlock=some q -> q ≠ w.heap.size /\ q ≠ w.heap.size + 1:=fun q e => by
       rcases HL2.out q (by rw [<- e]; simp [foot]) with g | g <;> omega
      refine ⟨S2.k,HK.out,HKE.out, ?_⟩
      unfold NextE
      rw [if_pos e0,if_pos hkt]
      refine ⟨R2.attrs,v,by rw [htk]; rfl,⟨_,(k1.keep hkeep).toE,rfl,rfl,rfl⟩,⟨⟨hp.bel.os.trans hTo.mv.os,hp.bel.tape.trans hTo.mv.tape,hp.bel.output.trans hTo.mv.output,Nat.le_trans hTo.mv.size hp.bel.size,fun k hk hn => (hp.far k (by omega) (by omega)).trans (hTo.mv.block k hk hn)⟩,hTo.own⟩,(HG3.out.to (HG1.out.to_below k2)).to (hp.bel.mono HBW.out),own_keep k3 fun q e => hp.far q (hat q e).1 (hat q e).2,fun q e => ⟨k4 q e,HG2.out.own q (by rw [<- e]; simp [foot])⟩⟩
     clear hkt cT htk hts hto eb e0
     go_wp2_with fail
     refine CT.out.mono ?_
     rintro e W3 ⟨rfl,v,hS3,hTo3,hat,hsep⟩
     have h6:=(hTo3.mv.block w.heap.size HSZ6.out HN6.out).trans H6.out
     have h7:=(hTo3.mv.block (w.heap.size + 1) HSZ7.out HN7.out).trans H7.out
     have J6:=hide' h6
     have J7:=hide' h7
     have JF:=hide' (HFIN.out W3 · v hS3 hTo3 hat hsep)
     clear hS3 hTo3 hat hsep h6 h7 CT d9 d18
     go_wp2_with (first | refine wpList_store_mid rfl 43 (.tmp 6) (.tmp 78) rfl w.heap.size 0 tk rfl rfl (there6 J6.out HTS.out) HTI.out HTO.out ?_ | refine wpList_store_mid rfl 32 (.tmp 7) (.tmp 79) rfl (w.heap.size + 1) 0 place0 rfl rfl (there7 (far7 J7.out) rfl) placeInfo place0One ?_)
     have P2:=put2_a (tk:=tk) (pk:=place0) J6.out J7.out HTS.out rfl
     refine bodyPost_ret (v := .tuple #[.agg tk, .agg place0, .int .i64 0]) (results_three Tryd.results17 _ ⟨w.heap.size,0,none⟩ ⟨w.heap.size + 1,0,none⟩ rfl rfl _ _ _ _ P2.tok P2.pla rfl) rfl ?_
     exact JF.out _ P2
   . have i18:(0:Int) < S2.k.text.length:=by have:=List.length_pos_iff.2 hkt; omega
     have cT:=tellText_any HG1.out HF.out (Nat.le_trans HINN.out.tf HG10.out) HINN.out.tg HG10.out HBG.out HPL.out
     obtain ⟨tk,htk⟩ : ∃ tk,tk=tokA 0 [] (.slice none 0 0) S2.k.text (pla S2.pl f n S2.k.tf) (pla S2.pl f n S2.k.tg):=⟨_,rfl⟩
     have hts:tk.size=12:=by rw [htk]; rfl
     have hto:tk.all (·.oneCell')=true:=by rw [htk]; exact tokOne _ _ _ _ _ _ _ _
     rw [<- htk] at cT
     have CT:=hide' cT
     have HTS:=hide' hts
     have HTI:Hid ((Tryd.prog.info? 43).map (·.size)=some tk.size):=by show _=some tk.size; rw [hts]; exact tokInfo
     have HTO:=hide' hto
     have HFIN:Hid (∀ W3 W' R3,SCe W3 D B (Rn.off f S2.k.tg) (n - S2.k.tg) { S2 with pl:=pla S2.pl f n S2.k.tg,k := { S2.k with ps:=S2.k.ps - S2.k.tg,tg:=0,text := [] } } R3 -> To D R2 W2 R3 W3 -> R3.fp=R2.fp -> Put2 W3 W' w.heap.size tk place0 -> ∃ k,Steps (inOf iv) (nmOf iv l) f n {} k /\ Ends (inOf iv) (nmOf iv l) f n k /\ NextE w D B f n S2.pl S2.ended (inOf iv) (nmOf iv l) R k (.returned (.tuple #[.agg tk, .agg place0, .int .i64 0])) W'):=by
      intro W3 W' R3 k1 k2 k3 hp
      have hTo:To D R w R3 W3:=HG2.out.trans k2
      have hs0:=HS0.out
      have hnn : ∀ q,w.heap.size <= q -> q < W0.heap.size -> some q ∉ foot D R3:=fun q q1 q2 hq => by
       rcases k2.own q hq with e | e
       . rcases HL2.out q e with g | g <;> omega
       . have:=HSZ.out; omega
      have hkeep : ∀ q,some q ∈ foot D R3 -> W'.heap[q]? = W3.heap[q]? := fun q hq => hp.far q (fun e => hnn q (by omega) (by omega) hq) (fun e => hnn q (by omega) (by omega) hq)
      refine ⟨S2.k,HK.out,HKE.out, ?_⟩
      unfold NextE
      rw [if_pos e0,if_neg hkt]
      refine ⟨by rw [htk]; rfl,R3,⟨_,k1.keep hkeep,rfl,rfl,d,k3.trans HG4.out,HG7.out,HG8.out,rfl,fun g => (by have:S2.k.how=2:=g; omega),fun g => (by have:S2.k.how=1:=g; omega)⟩,⟨⟨hp.bel.os.trans hTo.mv.os,hp.bel.tape.trans hTo.mv.tape,hp.bel.output.trans hTo.mv.output,Nat.le_trans hTo.mv.size hp.bel.size,fun k hk hn => (hp.far k (by omega) (by omega)).trans (hTo.mv.block k hk hn)⟩,hTo.own⟩,(HG3.out.to (HG1.out.to_below k2)).to (hp.bel.mono HBW.out)⟩
     clear hkt cT htk hts hto e0
     go_wp2_with fail
     refine CT.out.mono ?_
     rintro e W3 ⟨rfl,R3,hS3,hTo3,hfp3⟩
     have h6:=(hTo3.mv.block w.heap.size HSZ6.out HN6.out).trans H6.out
     have h7:=(hTo3.mv.block (w.heap.size + 1) HSZ7.out HN7.out).trans H7.out
     have J6:=hide' h6
     have J7:=hide' h7
     have JF:=hide' (HFIN.out W3 · R3 hS3 hTo3 hfp3)
     clear hS3 hTo3 hfp3 h6 h7 CT d9 d18 i18
     go_wp2_with (first | refine wpList_store_mid rfl 43 (.tmp 6) (.tmp 75) rfl w.heap.size 0 tk rfl rfl (there6 J6.out HTS.out) HTI.out HTO.out ?_ | refine wpList_store_mid rfl 32 (.tmp 7) (.tmp 76) rfl (w.heap.size + 1) 0 place0 rfl rfl (there7 (far7 J7.out) rfl) placeInfo place0One ?_)
     have P2:=put2_a (tk:=tk) (pk:=place0) J6.out J7.out HTS.out rfl
     refine bodyPost_ret (v := .tuple #[.agg tk, .agg place0, .int .i64 0]) (results_three Tryd.results17 _ ⟨w.heap.size,0,none⟩ ⟨w.heap.size + 1,0,none⟩ rfl rfl _ _ _ _ P2.tok P2.pla rfl) rfl ?_
     exact JF.out _ P2
 . rw [e0] at d9
   have d5:=HG1.out.c5
   obtain ⟨g12,hrdy,hok,h19⟩:=HG12.out e0
   cases he:S2.ended
   . rw [he] at d5
     have HFIN:Hid (∀ W',Put2 W2.drew W' w.heap.size tok0 place0 -> ∃ k,Steps (inOf iv) (nmOf iv l) f n {} k /\ Ends (inOf iv) (nmOf iv l) f n k /\ NextE w D B f n S2.pl S2.ended (inOf iv) (nmOf iv l) R k (.returned (.tuple #[.agg tok0, .agg place0, .int .i64 ((1:Nat) : Int)])) W'):=by
      intro W' hp
      obtain ⟨q1,q2,q3⟩:=none_fin HG1.out HG2.out HG3.out HG4.out HG7.out HG8.out HG11.out HG12.out HN6.out HN7.out HBW.out hp
      refine ⟨S2.k,HK.out,HKE.out, ?_⟩
      unfold NextE
      rw [if_neg (by omega),if_pos e0,if_neg (by rw [he]; decide)]
      exact ⟨by rw [e0]; rfl,R2,q1,q2,q3⟩
     clear hkh e0 g12 hrdy hok h19 he
     obtain ⟨S',hSd⟩ : ∃ S':World -> Prop,S'=fun W' => ∀ q,q ≠ w.heap.size -> q ≠ w.heap.size + 1 -> W'.heap[q]? = W2.heap[q]? := ⟨_,rfl⟩
     have hSC : ∀ W' b,S' W' -> (b=w.heap.size \/ b=w.heap.size + 1) -> ∀ {vs:List Value},S' (W'.setCells b 0 vs):=fun W' b h hb vs => by
      rw [hSd] at h ⊢
      intro q q1 q2
      exact (heap_setCells_far (by omega) _ _ _).trans (h q q1 q2)
     have hS0:S' W2.drew:=by rw [hSd]; intro q _ _; rfl
     have hDT:D ≠ w.heap.size /\ D ≠ w.heap.size + 1:=⟨fun e => HN6.out (by rw [<- e]; simp [foot]),fun e => HN7.out (by rw [<- e]; simp [foot])⟩
     have far : ∀ i v,W2.cell? ⟨D,i,none⟩ = some v -> ∀ W',S' W' -> W'.cell? ⟨D,i,none⟩ = some v:=fun i v h W' hS => by rw [hSd] at hS; exact (World.cell?_of_block (a:=⟨D,i,none⟩) (hS D hDT.1 hDT.2)).trans h
     have s9:=far 9 _ d9
     have HSD:=hide' hSd
     have H6d:Hid (W2.drew.heap[w.heap.size]? = some (.cells tok0 43 (0,0))):=H6.out
     have H7d:Hid (W2.drew.heap[w.heap.size + 1]? = some (.cells place0 32 (0,0))):=H7.out
     clear far hDT hSd
     go_wp2_with fail
     refine wp_region_held_drew (S:=S') (by kernel_rfl) hS0 (fun hHeld => ?_)
     simp only [List.size_toArray,List.length_cons,List.length_nil,Nat.reduceAdd]
     clear hS0
     refine wpAnyH_take (i:=0) (v := .agg tok0) rfl (by kernel_rfl) (by kernel_rfl) (by kernel_rfl) (fun _ _ _ h => h) (Or.inl ⟨by rfl, ?y0⟩) (by assumption) ?_
     case y0 => (intro w' hSw; have q9:=s9 w' hSw; go_simp; try rfl)
     try simp only [List.getElem_toArray,List.getElem_cons_zero,Act.put,List.setIfInBounds_toArray,List.set_cons_zero,List.set_cons_succ]
     refine wpAnyH_take (i:=1) (v := .agg place0) rfl (by kernel_rfl) (by kernel_rfl) (by kernel_rfl) (fun _ _ _ h => h) (Or.inl ⟨by rfl, ?y1⟩) (by assumption) ?_
     case y1 => (intro w' hSw; have q9:=s9 w' hSw; go_simp; try rfl)
     try simp only [List.getElem_toArray,List.getElem_cons_zero,List.getElem_cons_succ,Act.put,List.setIfInBounds_toArray,List.set_cons_zero,List.set_cons_succ]
     refine wpAnyH_take (i:=2) (v := .pointer (some ⟨D,0,none⟩)) rfl (by kernel_rfl) (by kernel_rfl) (by kernel_rfl) (fun _ _ _ h => h) (Or.inl ⟨by rfl, ?y2⟩) (by assumption) ?_
     case y2 => (intro w' hSw; have q9:=s9 w' hSw; go_simp; try rfl)
     try simp only [List.getElem_toArray,List.getElem_cons_zero,List.getElem_cons_succ,Act.put,List.setIfInBounds_toArray,List.set_cons_zero,List.set_cons_succ]
     refine wpAnyH_take (i:=3) (v := .pointer (some ⟨D,0,none⟩)) rfl (by kernel_rfl) (by kernel_rfl) (by kernel_rfl) (fun _ _ _ h => h) (Or.inl ⟨by rfl, ?y3⟩) (by assumption) ?_
     case y3 => (intro w' hSw; have q9:=s9 w' hSw; go_simp; try rfl)
     try simp only [List.getElem_toArray,List.getElem_cons_zero,List.getElem_cons_succ,Act.put,List.setIfInBounds_toArray,List.set_cons_zero,List.set_cons_succ]
     refine wpAnyH_take (i:=4) (v := .pointer (some ⟨D,6,none⟩)) rfl (by kernel_rfl) (by kernel_rfl) (by kernel_rfl) (fun _ _ _ h => h) (Or.inl ⟨by rfl, ?y4⟩) (by assumption) ?_
     case y4 => (intro w' hSw; have q9:=s9 w' hSw; go_simp; try rfl)
     try simp only [List.getElem_toArray,List.getElem_cons_zero,List.getElem_cons_succ,Act.put,List.setIfInBounds_toArray,List.set_cons_zero,List.set_cons_succ]
     refine wpAnyH_take (i:=5) (v := .pointer (some ⟨D,9,none⟩)) rfl (by kernel_rfl) (by kernel_rfl) (by kernel_rfl) (fun _ _ _ h => h) (Or.inl ⟨by rfl, ?y5⟩) (by assumption) ?_
     case y5 => (intro w' hSw; have q9:=s9 w' hSw; go_simp; try rfl)
     try simp only [List.getElem_toArray,List.getElem_cons_zero,List.getElem_cons_succ,Act.put,List.setIfInBounds_toArray,List.set_cons_zero,List.set_cons_succ]
     refine wpAnyH_take (i:=6) (v := .int .i64 (1:Nat)) rfl (by kernel_rfl) (by kernel_rfl) (by kernel_rfl) (fun _ _ _ h => h) (Or.inl ⟨by rfl, ?y6⟩) (by assumption) ?_
     case y6 => (intro w' hSw; have q9:=s9 w' hSw; go_simp; try rfl)
     try simp only [List.getElem_toArray,List.getElem_cons_zero,List.getElem_cons_succ,Act.put,List.setIfInBounds_toArray,List.set_cons_zero,List.set_cons_succ]
     refine wpAnyH_ready (rs := [7]) (by kernel_rfl) (by simp) ?_
     refine AllReadyH.cons rfl (fun K hK => ?_) AllReadyH.nil
     try simp only [List.getElem_toArray,List.getElem_cons_zero,List.getElem_cons_succ]
     rw [if_pos (by rfl)]
     refine wp_store_mid 43 (.tmp 6) (.tmp 59) ?_ w.heap.size 0 (tok0) ?_ ?_ (there6 (tk:=tok0) H6d.out rfl) tokInfo (tok0One) ?_
     . rfl
     . rfl
     . rfl
     refine hK.out _ _ (hSC _ _ hHeld (.inl rfl)) (fun hHeld => ?_)
     clear hK K
     have h7t:=far7 (tk:=tok0) H7d.out
     generalize hWt:W2.drew.setCells w.heap.size 0 tok0.toList=Wt at hHeld h7t ⊢
     have HWT:=hide' hWt
     clear hWt
     simp only [Act.put]
     refine wpAnyH_ready (rs := [8]) (by kernel_rfl) (by simp) ?_
     refine AllReadyH.cons rfl (fun K hK => ?_) AllReadyH.nil
     try simp only [List.getElem_toArray,List.getElem_cons_zero,List.getElem_cons_succ]
     rw [if_pos (by rfl)]
     refine wp_store_mid 32 (.tmp 7) (.tmp 60) ?_ (w.heap.size + 1) 0 (place0) ?_ ?_ (there7 (pk:=place0) h7t rfl) placeInfo (place0One) ?_
     . rfl
     . rfl
     . rfl
     refine hK.out _ _ (hSC _ _ hHeld (.inr rfl)) (fun hHeld => ?_)
     clear hK K
     generalize hWu:Wt.setCells (w.heap.size + 1) 0 (place0).toList=Wu at hHeld ⊢
     have HWU:=hide' hWu
     clear hWu
     simp only [Act.put]
     refine wpAnyH_ready (rs := [9]) (by kernel_rfl) (by simp) ?_
     refine AllReadyH.cons rfl (fun K hK => ?_) AllReadyH.nil
     try simp only [List.getElem_toArray,List.getElem_cons_zero,List.getElem_cons_succ]
     go_simp
     refine hK.out _ _ hHeld (fun hHeld => ?_)
     clear hK K hHeld
     try simp only [List.getElem_toArray,List.getElem_cons_zero,List.getElem_cons_succ,Act.put,List.setIfInBounds_toArray,List.set_cons_zero,List.set_cons_succ]
     refine wpAnyH_done (by kernel_rfl) ?_ _
     go_wp2_with fail
     have P2:=put2_a (tk:=tok0) (pk:=place0) H6d.out H7d.out rfl rfl
     rw [HWT.out,HWU.out] at P2
     refine bodyPost_ret (v := .tuple #[.agg tok0, .agg (place0), .int .i64 ((1:Nat) : Int)]) (results_three Tryd.results17 _ ⟨w.heap.size,0,none⟩ ⟨w.heap.size + 1,0,none⟩ rfl rfl _ _ _ _ P2.tok P2.pla rfl) rfl ?_
     exact HFIN.out _ P2
   . rw [he] at d5
     by_cases hi:S2.inn=2 /\ S2.k.st=0
     . have cF:=finish_done g12 hi.1 hi.2
       have HFIN:Hid (∀ W3 W',SC W3 D B f n (S2.wk { S2.k with how:=3 }) R2 -> To D R2 W2 R2 W3 -> Put2 W3.drew W' w.heap.size tok0 place0 -> ∃ k,Steps (inOf iv) (nmOf iv l) f n {} k /\ Ends (inOf iv) (nmOf iv l) f n k /\ NextE w D B f n S2.pl S2.ended (inOf iv) (nmOf iv l) R k (.returned (.tuple #[.agg tok0, .agg place0, .int .i64 ((3:Nat) : Int)])) W'):=by
        intro W3 W' k1 k2 hp
        obtain ⟨q1,q2,q3⟩:=none_fin (S2:=S2.wk { S2.k with how:=3 }) k1.toE (HG2.out.trans k2) (HG3.out.to (HG1.out.to_below k2)) HG4.out HG7.out HG8.out (fun g => by cases g) (fun g => by cases g) HN6.out HN7.out HBW.out hp
        refine ⟨S2.k,HK.out,HKE.out, ?_⟩
        unfold NextE
        rw [if_neg (by omega),if_pos e0,if_pos he,if_pos ⟨by rw [<- HG7.out]; exact hi.1,hi.2⟩]
        exact ⟨rfl,R2,q1,q2,q3⟩
       have CF:=hide' cF
       clear hkh e0 g12 hrdy hok h19 cF he hi
       go_wp2_with fail
       refine CF.out.mono ?_
       rintro e W3 ⟨rfl,hS3,hTo3⟩
       have d9:=hS3.c9
       have h6:=(hTo3.mv.block w.heap.size HSZ6.out HN6.out).trans H6.out
       have h7:=(hTo3.mv.block (w.heap.size + 1) HSZ7.out HN7.out).trans H7.out
       have J6:=hide' h6
       have J7:=hide' h7
       have JF:=hide' (HFIN.out W3 · hS3 hTo3)
       clear hS3 hTo3 h6 h7 CF
       obtain ⟨S',hSd⟩ : ∃ S':World -> Prop,S'=fun W' => ∀ q,q ≠ w.heap.size -> q ≠ w.heap.size + 1 -> W'.heap[q]? = W3.heap[q]? := ⟨_,rfl⟩
       have hSC : ∀ W' b,S' W' -> (b=w.heap.size \/ b=w.heap.size + 1) -> ∀ {vs:List Value},S' (W'.setCells b 0 vs):=fun W' b h hb vs => by
        rw [hSd] at h ⊢
        intro q q1 q2
        exact (heap_setCells_far (by omega) _ _ _).trans (h q q1 q2)
       have hS0:S' W3.drew:=by rw [hSd]; intro q _ _; rfl
       have hDT:D ≠ w.heap.size /\ D ≠ w.heap.size + 1:=⟨fun e => HN6.out (by rw [<- e]; simp [foot]),fun e => HN7.out (by rw [<- e]; simp [foot])⟩
       have far : ∀ i v,W3.cell? ⟨D,i,none⟩ = some v -> ∀ W',S' W' -> W'.cell? ⟨D,i,none⟩ = some v:=fun i v h W' hS => by rw [hSd] at hS; exact (World.cell?_of_block (a:=⟨D,i,none⟩) (hS D hDT.1 hDT.2)).trans h
       have s9:=far 9 _ d9
       have HSD:=hide' hSd
       have H6d:Hid (W3.drew.heap[w.heap.size]? = some (.cells tok0 43 (0,0))):=J6.out
       have H7d:Hid (W3.drew.heap[w.heap.size + 1]? = some (.cells place0 32 (0,0))):=J7.out
       clear far hDT hSd
       go_wp2_with fail
       refine wp_region_held_drew (S:=S') (by kernel_rfl) hS0 (fun hHeld => ?_)
       simp only [List.size_toArray,List.length_cons,List.length_nil,Nat.reduceAdd]
       clear hS0
       refine wpAnyH_take (i:=0) (v := .agg tok0) rfl (by kernel_rfl) (by kernel_rfl) (by kernel_rfl) (fun _ _ _ h => h) (Or.inl ⟨by rfl, ?y0⟩) (by assumption) ?_
       case y0 => (intro w' hSw; have q9:=s9 w' hSw; go_simp; try rfl)
       try simp only [List.getElem_toArray,List.getElem_cons_zero,Act.put,List.setIfInBounds_toArray,List.set_cons_zero,List.set_cons_succ]
       refine wpAnyH_take (i:=1) (v := .agg place0) rfl (by kernel_rfl) (by kernel_rfl) (by kernel_rfl) (fun _ _ _ h => h) (Or.inl ⟨by rfl, ?y1⟩) (by assumption) ?_
       case y1 => (intro w' hSw; have q9:=s9 w' hSw; go_simp; try rfl)
       try simp only [List.getElem_toArray,List.getElem_cons_zero,List.getElem_cons_succ,Act.put,List.setIfInBounds_toArray,List.set_cons_zero,List.set_cons_succ]
       refine wpAnyH_take (i:=2) (v := .pointer (some ⟨D,0,none⟩)) rfl (by kernel_rfl) (by kernel_rfl) (by kernel_rfl) (fun _ _ _ h => h) (Or.inl ⟨by rfl, ?y2⟩) (by assumption) ?_
       case y2 => (intro w' hSw; have q9:=s9 w' hSw; go_simp; try rfl)
       try simp only [List.getElem_toArray,List.getElem_cons_zero,List.getElem_cons_succ,Act.put,List.setIfInBounds_toArray,List.set_cons_zero,List.set_cons_succ]
       refine wpAnyH_take (i:=3) (v := .pointer (some ⟨D,0,none⟩)) rfl (by kernel_rfl) (by kernel_rfl) (by kernel_rfl) (fun _ _ _ h => h) (Or.inl ⟨by rfl, ?y3⟩) (by assumption) ?_
       case y3 => (intro w' hSw; have q9:=s9 w' hSw; go_simp; try rfl)
       try simp only [List.getElem_toArray,List.getElem_cons_zero,List.getElem_cons_succ,Act.put,List.setIfInBounds_toArray,List.set_cons_zero,List.set_cons_succ]
       refine wpAnyH_take (i:=4) (v := .pointer (some ⟨D,6,none⟩)) rfl (by kernel_rfl) (by kernel_rfl) (by kernel_rfl) (fun _ _ _ h => h) (Or.inl ⟨by rfl, ?y4⟩) (by assumption) ?_
       case y4 => (intro w' hSw; have q9:=s9 w' hSw; go_simp; try rfl)
       try simp only [List.getElem_toArray,List.getElem_cons_zero,List.getElem_cons_succ,Act.put,List.setIfInBounds_toArray,List.set_cons_zero,List.set_cons_succ]
       refine wpAnyH_take (i:=5) (v := .pointer (some ⟨D,9,none⟩)) rfl (by kernel_rfl) (by kernel_rfl) (by kernel_rfl) (fun _ _ _ h => h) (Or.inl ⟨by rfl, ?y5⟩) (by assumption) ?_
       case y5 => (intro w' hSw; have q9:=s9 w' hSw; go_simp; try rfl)
       try simp only [List.getElem_toArray,List.getElem_cons_zero,List.getElem_cons_succ,Act.put,List.setIfInBounds_toArray,List.set_cons_zero,List.set_cons_succ]
       refine wpAnyH_take (i:=6) (v := .int .i64 (3:Nat)) rfl (by kernel_rfl) (by kernel_rfl) (by kernel_rfl) (fun _ _ _ h => h) (Or.inl ⟨by rfl, ?y6⟩) (by assumption) ?_
       case y6 => (intro w' hSw; have q9:=s9 w' hSw; go_simp; try rfl)
       try simp only [List.getElem_toArray,List.getElem_cons_zero,List.getElem_cons_succ,Act.put,List.setIfInBounds_toArray,List.set_cons_zero,List.set_cons_succ]
       refine wpAnyH_ready (rs := [7]) (by kernel_rfl) (by simp) ?_
       refine AllReadyH.cons rfl (fun K hK => ?_) AllReadyH.nil
       try simp only [List.getElem_toArray,List.getElem_cons_zero,List.getElem_cons_succ]
       rw [if_pos (by rfl)]
       refine wp_store_mid 43 (.tmp 6) (.tmp 59) ?_ w.heap.size 0 (tok0) ?_ ?_ (there6 (tk:=tok0) H6d.out rfl) tokInfo (tok0One) ?_
       . rfl
       . rfl
       . rfl
       refine hK.out _ _ (hSC _ _ hHeld (.inl rfl)) (fun hHeld => ?_)
       clear hK K
       have h7t:=far7 (tk:=tok0) H7d.out
       generalize hWt:W3.drew.setCells w.heap.size 0 tok0.toList=Wt at hHeld h7t ⊢
       have HWT:=hide' hWt
       clear hWt
       simp only [Act.put]
       refine wpAnyH_ready (rs := [8]) (by kernel_rfl) (by simp) ?_
       refine AllReadyH.cons rfl (fun K hK => ?_) AllReadyH.nil
       try simp only [List.getElem_toArray,List.getElem_cons_zero,List.getElem_cons_succ]
       rw [if_pos (by rfl)]
       refine wp_store_mid 32 (.tmp 7) (.tmp 60) ?_ (w.heap.size + 1) 0 (place0) ?_ ?_ (there7 (pk:=place0) h7t rfl) placeInfo (place0One) ?_
       . rfl
       . rfl
       . rfl
       refine hK.out _ _ (hSC _ _ hHeld (.inr rfl)) (fun hHeld => ?_)
       clear hK K
       generalize hWu:Wt.setCells (w.heap.size + 1) 0 (place0).toList=Wu at hHeld ⊢
       have HWU:=hide' hWu
       clear hWu
       simp only [Act.put]
       refine wpAnyH_ready (rs := [9]) (by kernel_rfl) (by simp) ?_
       refine AllReadyH.cons rfl (fun K hK => ?_) AllReadyH.nil
       try simp only [List.getElem_toArray,List.getElem_cons_zero,List.getElem_cons_succ]
       go_simp
       refine hK.out _ _ hHeld (fun hHeld => ?_)
       clear hK K hHeld
       try simp only [List.getElem_toArray,List.getElem_cons_zero,List.getElem_cons_succ,Act.put,List.setIfInBounds_toArray,List.set_cons_zero,List.set_cons_succ]
       refine wpAnyH_done (by kernel_rfl) ?_ _
       go_wp2_with fail
       have P2:=put2_a (tk:=tok0) (pk:=place0) H6d.out H7d.out rfl rfl
       rw [HWT.out,HWU.out] at P2
       refine bodyPost_ret (v := .tuple #[.agg tok0, .agg (place0), .int .i64 ((3:Nat) : Int)]) (results_three Tryd.results17 _ ⟨w.heap.size,0,none⟩ ⟨w.heap.size + 1,0,none⟩ rfl rfl _ _ _ _ P2.tok P2.pla rfl) rfl ?_
       exact JF.out _ P2
     . have cF:=finish_bad g12 hrdy hi
       obtain ⟨P,hP⟩ : ∃ P,pla S2.pl f n n=P:=⟨_,rfl⟩
       rw [hP] at cF
       have HFIN:Hid (∀ W3 W',SC W3 D B f n (S2.wk (S2.k.fails n)) { R2 with bp:=P } -> To D R2 W2 { R2 with bp:=P } W3 -> Put2 W3.drew W' w.heap.size tok0 (plaA P) -> ∃ k,Steps (inOf iv) (nmOf iv l) f n {} k /\ Ends (inOf iv) (nmOf iv l) f n k /\ NextE w D B f n S2.pl S2.ended (inOf iv) (nmOf iv l) R k (.returned (.tuple #[.agg tok0, .agg (plaA P), .int .i64 2])) W'):=by
        intro W3 W' k1 k2 hp
        obtain ⟨q1,q2,q3⟩:=none_fin (S2:=S2.wk (S2.k.fails n)) k1.toE (HG2.out.trans k2) (HG3.out.to (HG1.out.to_below k2)) HG4.out HG7.out HG8.out (fun _ => hP.symm) (fun g => by cases g) HN6.out HN7.out HBW.out hp
        refine ⟨S2.k,HK.out,HKE.out, ?_⟩
        unfold NextE
        rw [if_neg (by omega),if_pos e0,if_pos he,if_neg (fun g => hi ⟨by rw [HG7.out]; exact g.1,g.2⟩)]
        exact ⟨by rw [hP]; rfl,_,q1,q2,q3⟩
       have CF:=hide' cF
       clear hkh e0 g12 hrdy hok h19 cF he hi hP
       go_wp2_with fail
       refine CF.out.mono ?_
       rintro e W3 ⟨rfl,hS3,hTo3⟩
       have d9:=hS3.c9
       have d10:=hS3.c10
       have d11:=hS3.c11
       have d12:=hS3.c12
       have d13:=hS3.c13
       have h6:=(hTo3.mv.block w.heap.size HSZ6.out HN6.out).trans H6.out
       have h7:=(hTo3.mv.block (w.heap.size + 1) HSZ7.out HN7.out).trans H7.out
       have J6:=hide' h6
       have J7:=hide' h7
       have JF:=hide' (HFIN.out W3 · hS3 hTo3)
       clear hS3 hTo3 h6 h7 CF
       obtain ⟨S',hSd⟩ : ∃ S':World -> Prop,S'=fun W' => ∀ q,q ≠ w.heap.size -> q ≠ w.heap.size + 1 -> W'.heap[q]? = W3.heap[q]? := ⟨_,rfl⟩
       have hSC : ∀ W' b,S' W' -> (b=w.heap.size \/ b=w.heap.size + 1) -> ∀ {vs:List Value},S' (W'.setCells b 0 vs):=fun W' b h hb vs => by
        rw [hSd] at h ⊢
        intro q q1 q2
        exact (heap_setCells_far (by omega) _ _ _).trans (h q q1 q2)
       have hS0:S' W3.drew:=by rw [hSd]; intro q _ _; rfl
       have hDT:D ≠ w.heap.size /\ D ≠ w.heap.size + 1:=⟨fun e => HN6.out (by rw [<- e]; simp [foot]),fun e => HN7.out (by rw [<- e]; simp [foot])⟩
       have far : ∀ i v,W3.cell? ⟨D,i,none⟩ = some v -> ∀ W',S' W' -> W'.cell? ⟨D,i,none⟩ = some v:=fun i v h W' hS => by rw [hSd] at hS; exact (World.cell?_of_block (a:=⟨D,i,none⟩) (hS D hDT.1 hDT.2)).trans h
       have s10:=far 10 _ d10
       have s11:=far 11 _ d11
       have s12:=far 12 _ d12
       have s13:=far 13 _ d13
       have HSD:=hide' hSd
       have H6d:Hid (W3.drew.heap[w.heap.size]? = some (.cells tok0 43 (0,0))):=J6.out
       have H7d:Hid (W3.drew.heap[w.heap.size + 1]? = some (.cells place0 32 (0,0))):=J7.out
       clear far hDT d10 d11 d12 d13 hSd
       go_wp2_with fail
       refine wp_region_held_drew (S:=S') (by kernel_rfl) hS0 (fun hHeld => ?_)
       simp only [List.size_toArray,List.length_cons,List.length_nil,Nat.reduceAdd]
       clear hS0
       refine wpAnyH_take (i:=0) (v := .agg tok0) rfl (by kernel_rfl) (by kernel_rfl) (by kernel_rfl) (fun _ _ _ h => h) (Or.inl ⟨by rfl, ?y0⟩) (by assumption) ?_
       case y0 => (intro w' hSw; have q10:=s10 w' hSw; have q11:=s11 w' hSw; have q12:=s12 w' hSw; have q13:=s13 w' hSw; go_simp; try rfl)
       try simp only [List.getElem_toArray,List.getElem_cons_zero,Act.put,List.setIfInBounds_toArray,List.set_cons_zero,List.set_cons_succ]
       refine wpAnyH_take (i:=1) (v := .pointer (some ⟨D,0,none⟩)) rfl (by kernel_rfl) (by kernel_rfl) (by kernel_rfl) (fun _ _ _ h => h) (Or.inl ⟨by rfl, ?y1⟩) (by assumption) ?_
       case y1 => (intro w' hSw; have q10:=s10 w' hSw; have q11:=s11 w' hSw; have q12:=s12 w' hSw; have q13:=s13 w' hSw; go_simp; try rfl)
       try simp only [List.getElem_toArray,List.getElem_cons_zero,List.getElem_cons_succ,Act.put,List.setIfInBounds_toArray,List.set_cons_zero,List.set_cons_succ]
       refine wpAnyH_take (i:=2) (v := .pointer (some ⟨D,0,none⟩)) rfl (by kernel_rfl) (by kernel_rfl) (by kernel_rfl) (fun _ _ _ h => h) (Or.inl ⟨by rfl, ?y2⟩) (by assumption) ?_
       case y2 => (intro w' hSw; have q10:=s10 w' hSw; have q11:=s11 w' hSw; have q12:=s12 w' hSw; have q13:=s13 w' hSw; go_simp; try rfl)
       try simp only [List.getElem_toArray,List.getElem_cons_zero,List.getElem_cons_succ,Act.put,List.setIfInBounds_toArray,List.set_cons_zero,List.set_cons_succ]
       refine wpAnyH_take (i:=3) (v := .pointer (some ⟨D,6,none⟩)) rfl (by kernel_rfl) (by kernel_rfl) (by kernel_rfl) (fun _ _ _ h => h) (Or.inl ⟨by rfl, ?y3⟩) (by assumption) ?_
       case y3 => (intro w' hSw; have q10:=s10 w' hSw; have q11:=s11 w' hSw; have q12:=s12 w' hSw; have q13:=s13 w' hSw; go_simp; try rfl)
       try simp only [List.getElem_toArray,List.getElem_cons_zero,List.getElem_cons_succ,Act.put,List.setIfInBounds_toArray,List.set_cons_zero,List.set_cons_succ]
       refine wpAnyH_take (i:=4) (v := .pointer (some ⟨D,10,none⟩)) rfl (by kernel_rfl) (by kernel_rfl) (by kernel_rfl) (fun _ _ _ h => h) (Or.inl ⟨by rfl, ?y4⟩) (by assumption) ?_
       case y4 => (intro w' hSw; have q10:=s10 w' hSw; have q11:=s11 w' hSw; have q12:=s12 w' hSw; have q13:=s13 w' hSw; go_simp; try rfl)
       try simp only [List.getElem_toArray,List.getElem_cons_zero,List.getElem_cons_succ,Act.put,List.setIfInBounds_toArray,List.set_cons_zero,List.set_cons_succ]
       refine wpAnyH_take (i:=5) (v := .agg (plaA P)) rfl (by kernel_rfl) (by kernel_rfl) (by kernel_rfl) (fun _ _ _ h => h) (Or.inl ⟨by rfl, ?y5⟩) (by assumption) ?_
       case y5 => (intro w' hSw; have q10:=s10 w' hSw; have q11:=s11 w' hSw; have q12:=s12 w' hSw; have q13:=s13 w' hSw; go_simp; try rfl)
       try simp only [List.getElem_toArray,List.getElem_cons_zero,List.getElem_cons_succ,Act.put,List.setIfInBounds_toArray,List.set_cons_zero,List.set_cons_succ]
       refine wpAnyH_ready (rs := [6]) (by kernel_rfl) (by simp) ?_
       refine AllReadyH.cons rfl (fun K hK => ?_) AllReadyH.nil
       try simp only [List.getElem_toArray,List.getElem_cons_zero,List.getElem_cons_succ]
       rw [if_pos (by rfl)]
       refine wp_store_mid 43 (.tmp 6) (.tmp 46) ?_ w.heap.size 0 (tok0) ?_ ?_ (there6 (tk:=tok0) H6d.out rfl) tokInfo (tok0One) ?_
       . rfl
       . rfl
       . rfl
       refine hK.out _ _ (hSC _ _ hHeld (.inl rfl)) (fun hHeld => ?_)
       clear hK K
       have h7t:=far7 (tk:=tok0) H7d.out
       generalize hWt:W3.drew.setCells w.heap.size 0 tok0.toList=Wt at hHeld h7t ⊢
       have HWT:=hide' hWt
       clear hWt
       simp only [Act.put]
       refine wpAnyH_ready (rs := [7]) (by kernel_rfl) (by simp) ?_
       refine AllReadyH.cons rfl (fun K hK => ?_) AllReadyH.nil
       try simp only [List.getElem_toArray,List.getElem_cons_zero,List.getElem_cons_succ]
       rw [if_pos (by rfl)]
       refine wp_store_mid 32 (.tmp 7) (.tmp 51) ?_ (w.heap.size + 1) 0 (plaA P) ?_ ?_ (there7 (pk:=plaA P) h7t rfl) placeInfo (plaOne _) ?_
       . rfl
       . rfl
       . rfl
       refine hK.out _ _ (hSC _ _ hHeld (.inr rfl)) (fun hHeld => ?_)
       clear hK K
       generalize hWu:Wt.setCells (w.heap.size + 1) 0 (plaA P).toList=Wu at hHeld ⊢
       have HWU:=hide' hWu
       clear hWu
       simp only [Act.put]
       refine wpAnyH_ready (rs := [8]) (by kernel_rfl) (by simp) ?_
       refine AllReadyH.cons rfl (fun K hK => ?_) AllReadyH.nil
       try simp only [List.getElem_toArray,List.getElem_cons_zero,List.getElem_cons_succ]
       go_simp
       refine hK.out _ _ hHeld (fun hHeld => ?_)
       clear hK K hHeld
       try simp only [List.getElem_toArray,List.getElem_cons_zero,List.getElem_cons_succ,Act.put,List.setIfInBounds_toArray,List.set_cons_zero,List.set_cons_succ]
       refine wpAnyH_done (by kernel_rfl) ?_ _
       go_wp2_with fail
       have P2:=put2_a (tk:=tok0) (pk:=plaA P) H6d.out H7d.out rfl rfl
       rw [HWT.out,HWU.out] at P2
       refine bodyPost_ret (v := .tuple #[.agg tok0, .agg (plaA P), .int .i64 2]) (results_three Tryd.results17 _ ⟨w.heap.size,0,none⟩ ⟨w.heap.size + 1,0,none⟩ rfl rfl _ _ _ _ P2.tok P2.pla rfl) rfl ?_
       exact JF.out _ P2
 . rw [e0] at d9
   obtain ⟨P,hP⟩ : ∃ P,pla S2.pl f n S2.k.bad=P:=⟨_,rfl⟩
   have HBP:Hid (R2.bp=P):=(HG11.out e0).trans hP
   have HFIN:Hid (∀ W',Put2 W2.drew W' w.heap.size tok0 (plaA P) -> ∃ k,Steps (inOf iv) (nmOf iv l) f n {} k /\ Ends (inOf iv) (nmOf iv l) f n k /\ NextE w D B f n S2.pl S2.ended (inOf iv) (nmOf iv l) R k (.returned (.tuple #[.agg tok0, .agg (plaA P), .int .i64 2])) W'):=by
    intro W' hp
    obtain ⟨q1,q2,q3⟩:=none_fin HG1.out HG2.out HG3.out HG4.out HG7.out HG8.out HG11.out HG12.out HN6.out HN7.out HBW.out hp
    refine ⟨S2.k,HK.out,HKE.out, ?_⟩
    unfold NextE
    rw [if_neg (by omega),if_neg (by omega),if_pos e0]
    exact ⟨by rw [e0, <- hP]; rfl,R2,q1,q2,q3⟩
   clear hkh e0 hP
   have d10:=HG1.out.c10
   have d11:=HG1.out.c11
   have d12:=HG1.out.c12
   have d13:=HG1.out.c13
   rw [HBP.out] at d10 d11 d12 d13
   obtain ⟨S',hSd⟩ : ∃ S':World -> Prop,S'=fun W' => ∀ q,q ≠ w.heap.size -> q ≠ w.heap.size + 1 -> W'.heap[q]? = W2.heap[q]? := ⟨_,rfl⟩
   have hSC : ∀ W' b,S' W' -> (b=w.heap.size \/ b=w.heap.size + 1) -> ∀ {vs:List Value},S' (W'.setCells b 0 vs):=fun W' b h hb vs => by
    rw [hSd] at h ⊢
    intro q q1 q2
    exact (heap_setCells_far (by omega) _ _ _).trans (h q q1 q2)
   have hS0:S' W2.drew:=by rw [hSd]; intro q _ _; rfl
   have hDT:D ≠ w.heap.size /\ D ≠ w.heap.size + 1:=⟨fun e => HN6.out (by rw [<- e]; simp [foot]),fun e => HN7.out (by rw [<- e]; simp [foot])⟩
   have far : ∀ i v,W2.cell? ⟨D,i,none⟩ = some v -> ∀ W',S' W' -> W'.cell? ⟨D,i,none⟩ = some v:=fun i v h W' hS => by rw [hSd] at hS; exact (World.cell?_of_block (a:=⟨D,i,none⟩) (hS D hDT.1 hDT.2)).trans h
   have s10:=far 10 _ d10
   have s11:=far 11 _ d11
   have s12:=far 12 _ d12
   have s13:=far 13 _ d13
   have HSD:=hide' hSd
   have H6d:Hid (W2.drew.heap[w.heap.size]? = some (.cells tok0 43 (0,0))):=H6.out
   have H7d:Hid (W2.drew.heap[w.heap.size + 1]? = some (.cells place0 32 (0,0))):=H7.out
   clear far hDT d10 d11 d12 d13 hSd
   go_wp2_with fail
   refine wp_region_held_drew (S:=S') (by kernel_rfl) hS0 (fun hHeld => ?_)
   simp only [List.size_toArray,List.length_cons,List.length_nil,Nat.reduceAdd]
   clear hS0
   refine wpAnyH_take (i:=0) (v := .agg tok0) rfl (by kernel_rfl) (by kernel_rfl) (by kernel_rfl) (fun _ _ _ h => h) (Or.inl ⟨by rfl, ?y0⟩) (by assumption) ?_
   case y0 => (intro w' hSw; have q10:=s10 w' hSw; have q11:=s11 w' hSw; have q12:=s12 w' hSw; have q13:=s13 w' hSw; go_simp; try rfl)
   try simp only [List.getElem_toArray,List.getElem_cons_zero,Act.put,List.setIfInBounds_toArray,List.set_cons_zero,List.set_cons_succ]
   refine wpAnyH_take (i:=1) (v := .pointer (some ⟨D,0,none⟩)) rfl (by kernel_rfl) (by kernel_rfl) (by kernel_rfl) (fun _ _ _ h => h) (Or.inl ⟨by rfl, ?y1⟩) (by assumption) ?_
   case y1 => (intro w' hSw; have q10:=s10 w' hSw; have q11:=s11 w' hSw; have q12:=s12 w' hSw; have q13:=s13 w' hSw; go_simp; try rfl)
   try simp only [List.getElem_toArray,List.getElem_cons_zero,List.getElem_cons_succ,Act.put,List.setIfInBounds_toArray,List.set_cons_zero,List.set_cons_succ]
   refine wpAnyH_take (i:=2) (v := .pointer (some ⟨D,0,none⟩)) rfl (by kernel_rfl) (by kernel_rfl) (by kernel_rfl) (fun _ _ _ h => h) (Or.inl ⟨by rfl, ?y2⟩) (by assumption) ?_
   case y2 => (intro w' hSw; have q10:=s10 w' hSw; have q11:=s11 w' hSw; have q12:=s12 w' hSw; have q13:=s13 w' hSw; go_simp; try rfl)
   try simp only [List.getElem_toArray,List.getElem_cons_zero,List.getElem_cons_succ,Act.put,List.setIfInBounds_toArray,List.set_cons_zero,List.set_cons_succ]
   refine wpAnyH_take (i:=3) (v := .pointer (some ⟨D,6,none⟩)) rfl (by kernel_rfl) (by kernel_rfl) (by kernel_rfl) (fun _ _ _ h => h) (Or.inl ⟨by rfl, ?y3⟩) (by assumption) ?_
   case y3 => (intro w' hSw; have q10:=s10 w' hSw; have q11:=s11 w' hSw; have q12:=s12 w' hSw; have q13:=s13 w' hSw; go_simp; try rfl)
   try simp only [List.getElem_toArray,List.getElem_cons_zero,List.getElem_cons_succ,Act.put,List.setIfInBounds_toArray,List.set_cons_zero,List.set_cons_succ]
   refine wpAnyH_take (i:=4) (v := .pointer (some ⟨D,10,none⟩)) rfl (by kernel_rfl) (by kernel_rfl) (by kernel_rfl) (fun _ _ _ h => h) (Or.inl ⟨by rfl, ?y4⟩) (by assumption) ?_
   case y4 => (intro w' hSw; have q10:=s10 w' hSw; have q11:=s11 w' hSw; have q12:=s12 w' hSw; have q13:=s13 w' hSw; go_simp; try rfl)
   try simp only [List.getElem_toArray,List.getElem_cons_zero,List.getElem_cons_succ,Act.put,List.setIfInBounds_toArray,List.set_cons_zero,List.set_cons_succ]
   refine wpAnyH_take (i:=5) (v := .agg (plaA P)) rfl (by kernel_rfl) (by kernel_rfl) (by kernel_rfl) (fun _ _ _ h => h) (Or.inl ⟨by rfl, ?y5⟩) (by assumption) ?_
   case y5 => (intro w' hSw; have q10:=s10 w' hSw; have q11:=s11 w' hSw; have q12:=s12 w' hSw; have q13:=s13 w' hSw; go_simp; try rfl)
   try simp only [List.getElem_toArray,List.getElem_cons_zero,List.getElem_cons_succ,Act.put,List.setIfInBounds_toArray,List.set_cons_zero,List.set_cons_succ]
   refine wpAnyH_ready (rs := [6]) (by kernel_rfl) (by simp) ?_
   refine AllReadyH.cons rfl (fun K hK => ?_) AllReadyH.nil
   try simp only [List.getElem_toArray,List.getElem_cons_zero,List.getElem_cons_succ]
   rw [if_pos (by rfl)]
   refine wp_store_mid 43 (.tmp 6) (.tmp 46) ?_ w.heap.size 0 (tok0) ?_ ?_ (there6 (tk:=tok0) H6d.out rfl) tokInfo (tok0One) ?_
   . rfl
   . rfl
   . rfl
   refine hK.out _ _ (hSC _ _ hHeld (.inl rfl)) (fun hHeld => ?_)
   clear hK K
   have h7t:=far7 (tk:=tok0) H7d.out
   generalize hWt:W2.drew.setCells w.heap.size 0 tok0.toList=Wt at hHeld h7t ⊢
   have HWT:=hide' hWt
   clear hWt
   simp only [Act.put]
   refine wpAnyH_ready (rs := [7]) (by kernel_rfl) (by simp) ?_
   refine AllReadyH.cons rfl (fun K hK => ?_) AllReadyH.nil
   try simp only [List.getElem_toArray,List.getElem_cons_zero,List.getElem_cons_succ]
   rw [if_pos (by rfl)]
   refine wp_store_mid 32 (.tmp 7) (.tmp 51) ?_ (w.heap.size + 1) 0 (plaA P) ?_ ?_ (there7 (pk:=plaA P) h7t rfl) placeInfo (plaOne _) ?_
   . rfl
   . rfl
   . rfl
   refine hK.out _ _ (hSC _ _ hHeld (.inr rfl)) (fun hHeld => ?_)
   clear hK K
   generalize hWu:Wt.setCells (w.heap.size + 1) 0 (plaA P).toList=Wu at hHeld ⊢
   have HWU:=hide' hWu
   clear hWu
   simp only [Act.put]
   refine wpAnyH_ready (rs := [8]) (by kernel_rfl) (by simp) ?_
   refine AllReadyH.cons rfl (fun K hK => ?_) AllReadyH.nil
   try simp only [List.getElem_toArray,List.getElem_cons_zero,List.getElem_cons_succ]
   go_simp
   refine hK.out _ _ hHeld (fun hHeld => ?_)
   clear hK K hHeld
   try simp only [List.getElem_toArray,List.getElem_cons_zero,List.getElem_cons_succ,Act.put,List.setIfInBounds_toArray,List.set_cons_zero,List.set_cons_succ]
   refine wpAnyH_done (by kernel_rfl) ?_ _
   go_wp2_with fail
   have P2:=put2_a (tk:=tok0) (pk:=plaA P) H6d.out H7d.out rfl rfl
   rw [HWT.out,HWU.out] at P2
   refine bodyPost_ret (v := .tuple #[.agg tok0, .agg (plaA P), .int .i64 2]) (results_three Tryd.results17 _ ⟨w.heap.size,0,none⟩ ⟨w.heap.size + 1,0,none⟩ rfl rfl _ _ _ _ P2.tok P2.pla rfl) rfl ?_
   exact HFIN.out _ P2
end
section
variable {w:World} {D B n:Nat} {f:Nat -> Nat} {R:Raw} {pl:Nat × Nat × Nat × Nat} {en:Bool}
def KeptE (w:World) (D B:Nat) (f:Nat -> Nat) (n:Nat) (pl:Nat × Nat × Nat × Nat) (en:Bool) (i:Nat) (m:List UInt8) (R:Raw) (k:Wk) (e:Ending) (w':World) : Prop :=
 if k.how=0 then TagE w D B f n pl en R k e w' else NoneE w D B f n pl en i m R (if k.how=2 then pla pl f n k.bad else (0,0,0,0)) k e w'
theorem next_kept (iv:Int) (l:List UInt8) (k:Wk) (h:Scn w D B f n pl en (some (inOf iv,nmOf iv l,k)) R) (hT:Tb B w) (hB:B <= w.heap.size) (hf : ∀ j,f j < 256) (hbig:n <= 1099511627776) (hpl:pl.1 <= 1099511627776 /\ pl.2.1 <= 1099511627776 /\ pl.2.2.1 <= 1099511627776 /\ pl.2.2.2 <= 1099511627776)
 (hk:(k.how=0 /\ k.text = [] /\ k.tg <= k.ps /\ k.ps <= n) \/ k.how=2 \/ k.how=3) :
 Calls Tryd.prog 17 #[.pointer (some ⟨D,0,none⟩), .int .i64 iv, .string ⟨l.toArray⟩] w (KeptE w D B f n pl en (inOf iv) (nmOf iv l) R k):=by
 obtain ⟨S2,g1,rfl,rfl,d,g4,g7,g8,rfl,g11,g12⟩:=h
 have hlt0:=fun q hq => (g1.lt q hq).2
 obtain ⟨W0,hW0⟩ : ∃ W0,W0=(w.alloc (.cells tok0 43)).alloc (.cells place0 32):=⟨_,rfl⟩
 have hb0:Below w.heap.size w W0:=by rw [hW0]; exact ((Below.refl _ _).alloc (Nat.le_refl _) _).alloc (by simp) _
 have hs0:W0.heap.size=w.heap.size + 2:=by rw [hW0]; simp
 have cC:=choose_same (g1.below hb0) g4 iv l g7 g8
 have CC:=hide' cC
 have H6:Hid (W0.heap[w.heap.size]? = some (.cells tok0 43 (0,0))):=by
  show W0.heap[w.heap.size]? = _
  rw [hW0]
  exact (((Below.refl _ _).alloc (Nat.le_refl _) _).block w.heap.size (by simp)).trans (heap_alloc_new w _)
 have H7:Hid (W0.heap[w.heap.size + 1]? = some (.cells place0 32 (0,0))):=by
  show W0.heap[w.heap.size + 1]? = _
  rw [hW0]
  have:=heap_alloc_new (w.alloc (.cells tok0 43)) (.cells place0 32)
  rw [show (w.alloc (.cells tok0 43)).heap.size=w.heap.size + 1 by simp] at this
  exact this
 have HG1:=hide' (g1.below hb0)
 have HG2:Hid (To D R w R W0):=To.of_below hb0
 have HG3:Hid (Tb B W0):=hT.below hb0 hB
 have HG4:=hide' g4
 have HG7:=hide' g7
 have HG8:=hide' g8
 have HG11:=hide' g11
 have HL0:=hide' hlt0
 have HS0:=hide' hs0
 have HN6:Hid (some w.heap.size ∉ foot D R):=fun hq => by have:=hlt0 _ hq; omega
 have HN7:Hid (some (w.heap.size + 1) ∉ foot D R):=fun hq => by have:=hlt0 _ hq; omega
 have HSZ6:Hid (w.heap.size < W0.heap.size):=by show w.heap.size < W0.heap.size; omega
 have HSZ7:Hid (w.heap.size + 1 < W0.heap.size):=by show w.heap.size + 1 < W0.heap.size; omega
 have HF:=hide' hf
 have HBG:=hide' hbig
 have HPL:=hide' hpl
 have HBW:=hide' hB
 have d9:=(g1.below hb0).c9
 clear hT hB hf hbig hpl cC hb0 hs0 hlt0 g1 g4 g7 g8 g11 g12
 rcases hk with ⟨e0,hkt,htg,hps⟩ | e0 | e0
 . rw [e0] at d9
   have d18:=HG1.out.c18
   obtain ⟨pt,ct,et⟩:=own_shape HG1.out.text
   rw [et] at d18
   obtain ⟨pb,cb,eb⟩:=own_shape HG1.out.attrs
   rw [hkt] at d18
   simp only [List.length_nil] at d18
   have cT:=tellTag_any HG1.out HF.out htg hps HBG.out HPL.out
   obtain ⟨tk,htk⟩ : ∃ tk,tk=tokA S2.k.kind S2.k.tag R.attrs [] (pla S2.pl f n S2.k.tg) (pla S2.pl f n S2.k.ps):=⟨_,rfl⟩
   have hts:tk.size=12:=by rw [htk]; rfl
   have hto:tk.all (·.oneCell')=true:=by rw [htk,eb]; exact tokOne _ _ _ _ _ _ _ _
   rw [<- htk] at cT
   have CT:=hide' cT
   have HTS:=hide' hts
   have HTI:Hid ((Tryd.prog.info? 43).map (·.size)=some tk.size):=by show _=some tk.size; rw [hts]; exact tokInfo
   have HTO:=hide' hto
   have HFIN:Hid (∀ W3 W' v,SC W3 D B (Rn.off f S2.k.ps) (n - S2.k.ps) (noSt (pla S2.pl f n S2.k.ps) S2.ended) (noRaw v) -> To D R W0 (noRaw v) W3 -> W3.ownsRow B 61 2 R.attrs S2.k.attrs.length (acells S2.k.attrs) -> (∀ q,R.attrs.ownBlock=some q -> some q ∉ foot D (noRaw v)) -> Put2 W3 W' w.heap.size tk place0 -> KeptE w D B f n S2.pl S2.ended (inOf iv) (nmOf iv l) R S2.k (.returned (.tuple #[.agg tk, .agg place0, .int .i64 0])) W'):=by
    intro W3 W' v k1 k2 k3 k4 hp
    have hTo:To D R w (noRaw v) W3:=HG2.out.trans k2
    have hs0:=HS0.out
    have hnn : ∀ q,w.heap.size <= q -> q < W0.heap.size -> some q ∉ foot D (noRaw v):=fun q q1 q2 hq => by
     rcases k2.own q hq with e | e
     . have:=HL0.out q e; omega
     . omega
    have hkeep : ∀ q,some q ∈ foot D (noRaw v) -> W'.heap[q]? = W3.heap[q]? := fun q hq => hp.far q (fun e => hnn q (by omega) (by omega) hq) (fun e => hnn q (by omega) (by omega) hq)
    have hat : ∀ q,R.attrs.ownBlock=some q -> q ≠ w.heap.size /\ q ≠ w.heap.size + 1:=fun q e => by
     have:=HL0.out q (by rw [<- e]; simp [foot])
     omega
    unfold KeptE
    rw [if_pos e0]
    refine ⟨R.attrs,v,by rw [htk]; rfl,⟨_,(k1.keep hkeep).toE,rfl,rfl,rfl⟩,⟨⟨hp.bel.os.trans hTo.mv.os,hp.bel.tape.trans hTo.mv.tape,hp.bel.output.trans hTo.mv.output,Nat.le_trans hTo.mv.size hp.bel.size,fun k hk hn => (hp.far k (by omega) (by omega)).trans (hTo.mv.block k hk hn)⟩,hTo.own⟩,(HG3.out.to (HG1.out.to_below k2)).to (hp.bel.mono HBW.out),own_keep k3 fun q e => hp.far q (hat q e).1 (hat q e).2,fun q e => ⟨k4 q e,HG2.out.own q (by rw [<- e]; simp [foot])⟩⟩
   clear hkt cT htk hts hto eb et e0 htg hps
   go_enter Tryd.func17,Tryd.ntmps17
   go_wp2_with fail
   change Calls _ _ _ ((w.alloc (.cells tok0 43)).alloc (.cells place0 32)) _
   rw [<- hW0]
   clear hW0
   refine CC.out.mono ?_
   rintro e W1 ⟨rfl,hw⟩
   replace hw:=hw.symm
   subst hw
   clear CC
   go_wp2_with fail
   refine CT.out.mono ?_
   rintro e W3 ⟨rfl,v,hS3,hTo3,hat,hsep⟩
   have h6:=(hTo3.mv.block w.heap.size HSZ6.out HN6.out).trans H6.out
   have h7:=(hTo3.mv.block (w.heap.size + 1) HSZ7.out HN7.out).trans H7.out
   have J6:=hide' h6
   have J7:=hide' h7
   have JF:=hide' (HFIN.out W3 · v hS3 hTo3 hat hsep)
   clear hS3 hTo3 hat hsep h6 h7 CT d9 d18
   go_wp2_with (first | refine wpList_store_mid rfl 43 (.tmp 6) (.tmp 78) rfl w.heap.size 0 tk rfl rfl (there6 J6.out HTS.out) HTI.out HTO.out ?_ | refine wpList_store_mid rfl 32 (.tmp 7) (.tmp 79) rfl (w.heap.size + 1) 0 place0 rfl rfl (there7 (far7 J7.out) rfl) placeInfo place0One ?_)
   have P2:=put2_a (tk:=tk) (pk:=place0) J6.out J7.out HTS.out rfl
   refine bodyPost_ret (v := .tuple #[.agg tk, .agg place0, .int .i64 0]) (results_three Tryd.results17 _ ⟨w.heap.size,0,none⟩ ⟨w.heap.size + 1,0,none⟩ rfl rfl _ _ _ _ P2.tok P2.pla rfl) rfl ?_
   exact JF.out _ P2
 . rw [e0] at d9
   obtain ⟨P,hP⟩ : ∃ P,pla S2.pl f n S2.k.bad=P:=⟨_,rfl⟩
   have HBP:Hid (R.bp=P):=(HG11.out e0).trans hP
   have HFIN:Hid (∀ W',Put2 W0.drew W' w.heap.size tok0 (plaA P) -> KeptE w D B f n S2.pl S2.ended (inOf iv) (nmOf iv l) R S2.k (.returned (.tuple #[.agg tok0, .agg (plaA P), .int .i64 2])) W'):=by
    intro W' hp
    obtain ⟨q1,q2,q3⟩:=none_fin HG1.out HG2.out HG3.out HG4.out HG7.out HG8.out HG11.out (fun g => by omega) HN6.out HN7.out HBW.out hp
    unfold KeptE
    rw [if_neg (by omega),if_pos e0]
    exact ⟨by rw [e0, <- hP]; rfl,R,q1,q2,q3⟩
   clear e0 hP
   go_enter Tryd.func17,Tryd.ntmps17
   go_wp2_with fail
   change Calls _ _ _ ((w.alloc (.cells tok0 43)).alloc (.cells place0 32)) _
   rw [<- hW0]
   clear hW0
   refine CC.out.mono ?_
   rintro e W1 ⟨rfl,hw⟩
   replace hw:=hw.symm
   subst hw
   clear CC
   have d10:=HG1.out.c10
   have d11:=HG1.out.c11
   have d12:=HG1.out.c12
   have d13:=HG1.out.c13
   rw [HBP.out] at d10 d11 d12 d13
   obtain ⟨S',hSd⟩ : ∃ S':World -> Prop,S'=fun W' => ∀ q,q ≠ w.heap.size -> q ≠ w.heap.size + 1 -> W'.heap[q]? = W0.heap[q]? := ⟨_,rfl⟩
   have hSC : ∀ W' b,S' W' -> (b=w.heap.size \/ b=w.heap.size + 1) -> ∀ {vs:List Value},S' (W'.setCells b 0 vs):=fun W' b h hb vs => by
    rw [hSd] at h ⊢
    intro q q1 q2
    exact (heap_setCells_far (by omega) _ _ _).trans (h q q1 q2)
   have hS0:S' W0.drew:=by rw [hSd]; intro q _ _; rfl
   have hDT:D ≠ w.heap.size /\ D ≠ w.heap.size + 1:=⟨fun e => HN6.out (by rw [<- e]; simp [foot]),fun e => HN7.out (by rw [<- e]; simp [foot])⟩
   have far : ∀ i v,W0.cell? ⟨D,i,none⟩ = some v -> ∀ W',S' W' -> W'.cell? ⟨D,i,none⟩ = some v:=fun i v h W' hS => by rw [hSd] at hS; exact (World.cell?_of_block (a:=⟨D,i,none⟩) (hS D hDT.1 hDT.2)).trans h
   have s10:=far 10 _ d10
   have s11:=far 11 _ d11
   have s12:=far 12 _ d12
   have s13:=far 13 _ d13
   have HSD:=hide' hSd
   have H6d:Hid (W0.drew.heap[w.heap.size]? = some (.cells tok0 43 (0,0))):=H6.out
   have H7d:Hid (W0.drew.heap[w.heap.size + 1]? = some (.cells place0 32 (0,0))):=H7.out
   clear far hDT d10 d11 d12 d13 hSd
   go_wp2_with fail
   refine wp_region_held_drew (S:=S') (by kernel_rfl) hS0 (fun hHeld => ?_)
   simp only [List.size_toArray,List.length_cons,List.length_nil,Nat.reduceAdd]
   clear hS0
   refine wpAnyH_take (i:=0) (v := .agg tok0) rfl (by kernel_rfl) (by kernel_rfl) (by kernel_rfl) (fun _ _ _ h => h) (Or.inl ⟨by rfl, ?y0⟩) (by assumption) ?_
   case y0 => (intro w' hSw; have q10:=s10 w' hSw; have q11:=s11 w' hSw; have q12:=s12 w' hSw; have q13:=s13 w' hSw; go_simp; try rfl)
   try simp only [List.getElem_toArray,List.getElem_cons_zero,Act.put,List.setIfInBounds_toArray,List.set_cons_zero,List.set_cons_succ]
   refine wpAnyH_take (i:=1) (v := .pointer (some ⟨D,0,none⟩)) rfl (by kernel_rfl) (by kernel_rfl) (by kernel_rfl) (fun _ _ _ h => h) (Or.inl ⟨by rfl, ?y1⟩) (by assumption) ?_
   case y1 => (intro w' hSw; have q10:=s10 w' hSw; have q11:=s11 w' hSw; have q12:=s12 w' hSw; have q13:=s13 w' hSw; go_simp; try rfl)
   try simp only [List.getElem_toArray,List.getElem_cons_zero,List.getElem_cons_succ,Act.put,List.setIfInBounds_toArray,List.set_cons_zero,List.set_cons_succ]
   refine wpAnyH_take (i:=2) (v := .pointer (some ⟨D,0,none⟩)) rfl (by kernel_rfl) (by kernel_rfl) (by kernel_rfl) (fun _ _ _ h => h) (Or.inl ⟨by rfl, ?y2⟩) (by assumption) ?_
   case y2 => (intro w' hSw; have q10:=s10 w' hSw; have q11:=s11 w' hSw; have q12:=s12 w' hSw; have q13:=s13 w' hSw; go_simp; try rfl)
   try simp only [List.getElem_toArray,List.getElem_cons_zero,List.getElem_cons_succ,Act.put,List.setIfInBounds_toArray,List.set_cons_zero,List.set_cons_succ]
   refine wpAnyH_take (i:=3) (v := .pointer (some ⟨D,6,none⟩)) rfl (by kernel_rfl) (by kernel_rfl) (by kernel_rfl) (fun _ _ _ h => h) (Or.inl ⟨by rfl, ?y3⟩) (by assumption) ?_
   case y3 => (intro w' hSw; have q10:=s10 w' hSw; have q11:=s11 w' hSw; have q12:=s12 w' hSw; have q13:=s13 w' hSw; go_simp; try rfl)
   try simp only [List.getElem_toArray,List.getElem_cons_zero,List.getElem_cons_succ,Act.put,List.setIfInBounds_toArray,List.set_cons_zero,List.set_cons_succ]
   refine wpAnyH_take (i:=4) (v := .pointer (some ⟨D,10,none⟩)) rfl (by kernel_rfl) (by kernel_rfl) (by kernel_rfl) (fun _ _ _ h => h) (Or.inl ⟨by rfl, ?y4⟩) (by assumption) ?_
   case y4 => (intro w' hSw; have q10:=s10 w' hSw; have q11:=s11 w' hSw; have q12:=s12 w' hSw; have q13:=s13 w' hSw; go_simp; try rfl)
   try simp only [List.getElem_toArray,List.getElem_cons_zero,List.getElem_cons_succ,Act.put,List.setIfInBounds_toArray,List.set_cons_zero,List.set_cons_succ]
   refine wpAnyH_take (i:=5) (v := .agg (plaA P)) rfl (by kernel_rfl) (by kernel_rfl) (by kernel_rfl) (fun _ _ _ h => h) (Or.inl ⟨by rfl, ?y5⟩) (by assumption) ?_
   case y5 => (intro w' hSw; have q10:=s10 w' hSw; have q11:=s11 w' hSw; have q12:=s12 w' hSw; have q13:=s13 w' hSw; go_simp; try rfl)
   try simp only [List.getElem_toArray,List.getElem_cons_zero,List.getElem_cons_succ,Act.put,List.setIfInBounds_toArray,List.set_cons_zero,List.set_cons_succ]
   refine wpAnyH_ready (rs := [6]) (by kernel_rfl) (by simp) ?_
   refine AllReadyH.cons rfl (fun K hK => ?_) AllReadyH.nil
   try simp only [List.getElem_toArray,List.getElem_cons_zero,List.getElem_cons_succ]
   rw [if_pos (by rfl)]
   refine wp_store_mid 43 (.tmp 6) (.tmp 46) ?_ w.heap.size 0 (tok0) ?_ ?_ (there6 (tk:=tok0) H6d.out rfl) tokInfo (tok0One) ?_
   . rfl
   . rfl
   . rfl
   refine hK.out _ _ (hSC _ _ hHeld (.inl rfl)) (fun hHeld => ?_)
   clear hK K
   have h7t:=far7 (tk:=tok0) H7d.out
   generalize hWt:W0.drew.setCells w.heap.size 0 tok0.toList=Wt at hHeld h7t ⊢
   have HWT:=hide' hWt
   clear hWt
   simp only [Act.put]
   refine wpAnyH_ready (rs := [7]) (by kernel_rfl) (by simp) ?_
   refine AllReadyH.cons rfl (fun K hK => ?_) AllReadyH.nil
   try simp only [List.getElem_toArray,List.getElem_cons_zero,List.getElem_cons_succ]
   rw [if_pos (by rfl)]
   refine wp_store_mid 32 (.tmp 7) (.tmp 51) ?_ (w.heap.size + 1) 0 (plaA P) ?_ ?_ (there7 (pk:=plaA P) h7t rfl) placeInfo (plaOne _) ?_
   . rfl
   . rfl
   . rfl
   refine hK.out _ _ (hSC _ _ hHeld (.inr rfl)) (fun hHeld => ?_)
   clear hK K
   generalize hWu:Wt.setCells (w.heap.size + 1) 0 (plaA P).toList=Wu at hHeld ⊢
   have HWU:=hide' hWu
   clear hWu
   simp only [Act.put]
   refine wpAnyH_ready (rs := [8]) (by kernel_rfl) (by simp) ?_
   refine AllReadyH.cons rfl (fun K hK => ?_) AllReadyH.nil
   try simp only [List.getElem_toArray,List.getElem_cons_zero,List.getElem_cons_succ]
   go_simp
   refine hK.out _ _ hHeld (fun hHeld => ?_)
   clear hK K hHeld
   try simp only [List.getElem_toArray,List.getElem_cons_zero,List.getElem_cons_succ,Act.put,List.setIfInBounds_toArray,List.set_cons_zero,List.set_cons_succ]
   refine wpAnyH_done (by kernel_rfl) ?_ _
   go_wp2_with fail
   have P2:=put2_a (tk:=tok0) (pk:=plaA P) H6d.out H7d.out rfl rfl
   rw [HWT.out,HWU.out] at P2
   refine bodyPost_ret (v := .tuple #[.agg tok0, .agg (plaA P), .int .i64 2]) (results_three Tryd.results17 _ ⟨w.heap.size,0,none⟩ ⟨w.heap.size + 1,0,none⟩ rfl rfl _ _ _ _ P2.tok P2.pla rfl) rfl ?_
   exact HFIN.out _ P2
 . rw [e0] at d9
   have HFIN:Hid (∀ W',Put2 W0.drew W' w.heap.size tok0 place0 -> KeptE w D B f n S2.pl S2.ended (inOf iv) (nmOf iv l) R S2.k (.returned (.tuple #[.agg tok0, .agg place0, .int .i64 ((3:Nat) : Int)])) W'):=by
    intro W' hp
    obtain ⟨q1,q2,q3⟩:=none_fin HG1.out HG2.out HG3.out HG4.out HG7.out HG8.out HG11.out (fun g => by omega) HN6.out HN7.out HBW.out hp
    unfold KeptE
    rw [if_neg (by omega),if_neg (by omega)]
    exact ⟨by rw [e0]; rfl,R,q1,q2,q3⟩
   clear e0
   go_enter Tryd.func17,Tryd.ntmps17
   go_wp2_with fail
   change Calls _ _ _ ((w.alloc (.cells tok0 43)).alloc (.cells place0 32)) _
   rw [<- hW0]
   clear hW0
   refine CC.out.mono ?_
   rintro e W1 ⟨rfl,hw⟩
   replace hw:=hw.symm
   subst hw
   clear CC
   obtain ⟨S',hSd⟩ : ∃ S':World -> Prop,S'=fun W' => ∀ q,q ≠ w.heap.size -> q ≠ w.heap.size + 1 -> W'.heap[q]? = W0.heap[q]? := ⟨_,rfl⟩
   have hSC : ∀ W' b,S' W' -> (b=w.heap.size \/ b=w.heap.size + 1) -> ∀ {vs:List Value},S' (W'.setCells b 0 vs):=fun W' b h hb vs => by
    rw [hSd] at h ⊢
    intro q q1 q2
    exact (heap_setCells_far (by omega) _ _ _).trans (h q q1 q2)
   have hS0:S' W0.drew:=by rw [hSd]; intro q _ _; rfl
   have hDT:D ≠ w.heap.size /\ D ≠ w.heap.size + 1:=⟨fun e => HN6.out (by rw [<- e]; simp [foot]),fun e => HN7.out (by rw [<- e]; simp [foot])⟩
   have far : ∀ i v,W0.cell? ⟨D,i,none⟩ = some v -> ∀ W',S' W' -> W'.cell? ⟨D,i,none⟩ = some v:=fun i v h W' hS => by rw [hSd] at hS; exact (World.cell?_of_block (a:=⟨D,i,none⟩) (hS D hDT.1 hDT.2)).trans h
   have s9:=far 9 _ d9
   have HSD:=hide' hSd
   have H6d:Hid (W0.drew.heap[w.heap.size]? = some (.cells tok0 43 (0,0))):=H6.out
   have H7d:Hid (W0.drew.heap[w.heap.size + 1]? = some (.cells place0 32 (0,0))):=H7.out
   clear far hDT hSd
   go_wp2_with fail
   refine wp_region_held_drew (S:=S') (by kernel_rfl) hS0 (fun hHeld => ?_)
   simp only [List.size_toArray,List.length_cons,List.length_nil,Nat.reduceAdd]
   clear hS0
   refine wpAnyH_take (i:=0) (v := .agg tok0) rfl (by kernel_rfl) (by kernel_rfl) (by kernel_rfl) (fun _ _ _ h => h) (Or.inl ⟨by rfl, ?y0⟩) (by assumption) ?_
   case y0 => (intro w' hSw; have q9:=s9 w' hSw; go_simp; try rfl)
   try simp only [List.getElem_toArray,List.getElem_cons_zero,Act.put,List.setIfInBounds_toArray,List.set_cons_zero,List.set_cons_succ]
   refine wpAnyH_take (i:=1) (v := .agg place0) rfl (by kernel_rfl) (by kernel_rfl) (by kernel_rfl) (fun _ _ _ h => h) (Or.inl ⟨by rfl, ?y1⟩) (by assumption) ?_
   case y1 => (intro w' hSw; have q9:=s9 w' hSw; go_simp; try rfl)
   try simp only [List.getElem_toArray,List.getElem_cons_zero,List.getElem_cons_succ,Act.put,List.setIfInBounds_toArray,List.set_cons_zero,List.set_cons_succ]
   refine wpAnyH_take (i:=2) (v := .pointer (some ⟨D,0,none⟩)) rfl (by kernel_rfl) (by kernel_rfl) (by kernel_rfl) (fun _ _ _ h => h) (Or.inl ⟨by rfl, ?y2⟩) (by assumption) ?_
   case y2 => (intro w' hSw; have q9:=s9 w' hSw; go_simp; try rfl)
   try simp only [List.getElem_toArray,List.getElem_cons_zero,List.getElem_cons_succ,Act.put,List.setIfInBounds_toArray,List.set_cons_zero,List.set_cons_succ]
   refine wpAnyH_take (i:=3) (v := .pointer (some ⟨D,0,none⟩)) rfl (by kernel_rfl) (by kernel_rfl) (by kernel_rfl) (fun _ _ _ h => h) (Or.inl ⟨by rfl, ?y3⟩) (by assumption) ?_
   case y3 => (intro w' hSw; have q9:=s9 w' hSw; go_simp; try rfl)
   try simp only [List.getElem_toArray,List.getElem_cons_zero,List.getElem_cons_succ,Act.put,List.setIfInBounds_toArray,List.set_cons_zero,List.set_cons_succ]
   refine wpAnyH_take (i:=4) (v := .pointer (some ⟨D,6,none⟩)) rfl (by kernel_rfl) (by kernel_rfl) (by kernel_rfl) (fun _ _ _ h => h) (Or.inl ⟨by rfl, ?y4⟩) (by assumption) ?_
   case y4 => (intro w' hSw; have q9:=s9 w' hSw; go_simp; try rfl)
   try simp only [List.getElem_toArray,List.getElem_cons_zero,List.getElem_cons_succ,Act.put,List.setIfInBounds_toArray,List.set_cons_zero,List.set_cons_succ]
   refine wpAnyH_take (i:=5) (v := .pointer (some ⟨D,9,none⟩)) rfl (by kernel_rfl) (by kernel_rfl) (by kernel_rfl) (fun _ _ _ h => h) (Or.inl ⟨by rfl, ?y5⟩) (by assumption) ?_
   case y5 => (intro w' hSw; have q9:=s9 w' hSw; go_simp; try rfl)
   try simp only [List.getElem_toArray,List.getElem_cons_zero,List.getElem_cons_succ,Act.put,List.setIfInBounds_toArray,List.set_cons_zero,List.set_cons_succ]
   refine wpAnyH_take (i:=6) (v := .int .i64 (3:Nat)) rfl (by kernel_rfl) (by kernel_rfl) (by kernel_rfl) (fun _ _ _ h => h) (Or.inl ⟨by rfl, ?y6⟩) (by assumption) ?_
   case y6 => (intro w' hSw; have q9:=s9 w' hSw; go_simp; try rfl)
   try simp only [List.getElem_toArray,List.getElem_cons_zero,List.getElem_cons_succ,Act.put,List.setIfInBounds_toArray,List.set_cons_zero,List.set_cons_succ]
   refine wpAnyH_ready (rs := [7]) (by kernel_rfl) (by simp) ?_
   refine AllReadyH.cons rfl (fun K hK => ?_) AllReadyH.nil
   try simp only [List.getElem_toArray,List.getElem_cons_zero,List.getElem_cons_succ]
   rw [if_pos (by rfl)]
   refine wp_store_mid 43 (.tmp 6) (.tmp 59) ?_ w.heap.size 0 (tok0) ?_ ?_ (there6 (tk:=tok0) H6d.out rfl) tokInfo (tok0One) ?_
   . rfl
   . rfl
   . rfl
   refine hK.out _ _ (hSC _ _ hHeld (.inl rfl)) (fun hHeld => ?_)
   clear hK K
   have h7t:=far7 (tk:=tok0) H7d.out
   generalize hWt:W0.drew.setCells w.heap.size 0 tok0.toList=Wt at hHeld h7t ⊢
   have HWT:=hide' hWt
   clear hWt
   simp only [Act.put]
   refine wpAnyH_ready (rs := [8]) (by kernel_rfl) (by simp) ?_
   refine AllReadyH.cons rfl (fun K hK => ?_) AllReadyH.nil
   try simp only [List.getElem_toArray,List.getElem_cons_zero,List.getElem_cons_succ]
   rw [if_pos (by rfl)]
   refine wp_store_mid 32 (.tmp 7) (.tmp 60) ?_ (w.heap.size + 1) 0 (place0) ?_ ?_ (there7 (pk:=place0) h7t rfl) placeInfo (place0One) ?_
   . rfl
   . rfl
   . rfl
   refine hK.out _ _ (hSC _ _ hHeld (.inr rfl)) (fun hHeld => ?_)
   clear hK K
   generalize hWu:Wt.setCells (w.heap.size + 1) 0 (place0).toList=Wu at hHeld ⊢
   have HWU:=hide' hWu
   clear hWu
   simp only [Act.put]
   refine wpAnyH_ready (rs := [9]) (by kernel_rfl) (by simp) ?_
   refine AllReadyH.cons rfl (fun K hK => ?_) AllReadyH.nil
   try simp only [List.getElem_toArray,List.getElem_cons_zero,List.getElem_cons_succ]
   go_simp
   refine hK.out _ _ hHeld (fun hHeld => ?_)
   clear hK K hHeld
   try simp only [List.getElem_toArray,List.getElem_cons_zero,List.getElem_cons_succ,Act.put,List.setIfInBounds_toArray,List.set_cons_zero,List.set_cons_succ]
   refine wpAnyH_done (by kernel_rfl) ?_ _
   go_wp2_with fail
   have P2:=put2_a (tk:=tok0) (pk:=place0) H6d.out H7d.out rfl rfl
   rw [HWT.out,HWU.out] at P2
   refine bodyPost_ret (v := .tuple #[.agg tok0, .agg (place0), .int .i64 ((3:Nat) : Int)]) (results_three Tryd.results17 _ ⟨w.heap.size,0,none⟩ ⟨w.heap.size + 1,0,none⟩ rfl rfl _ _ _ _ P2.tok P2.pla rfl) rfl ?_
   exact HFIN.out _ P2
end
end Sc
end Go.Proofs.YteiiepjegdlbeaaDoor
