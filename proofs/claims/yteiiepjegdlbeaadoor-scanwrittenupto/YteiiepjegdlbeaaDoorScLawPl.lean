import Derived.Test.YteiiepjegdlbeaaDoorScBadM
import Derived.Test.YteiiepjegdlbeaaDoorScAwake
import Derived.Test.YteiiepjegdlbeaaDoorScTold
import Derived.Test.YteiiepjegdlbeaaDoorScRefMath
import Derived.Test.YteiiepjegdlbeaaDoorRfRead
import Derived.Test.YteiiepjegdlbeaaDoorScNxtC
import Derived.Deep.AppendSrc
import Derived.Laws.AppendOwn
import Derived.Test.YteiiepjegdlbeaaDoorScLS
import Derived.BigQuiet
set_option maxHeartbeats 4000000
set_option maxRecDepth 10000
namespace Go.Proofs.YteiiepjegdlbeaaDoor
open Go.RowKit Go.Lib
namespace Sc
end Sc
end Go.Proofs.YteiiepjegdlbeaaDoor
namespace Go.Proofs.YteiiepjegdlbeaaDoor
open Go.RowKit Go.Lib
namespace Sc
open Rn
def Lay (F:Nat -> Nat) (M p:Nat) (l:List UInt8) : Prop:=p + l.length <= M /\ ∀ i,i < l.length -> F (p + i)=lf l i
section
variable {F:Nat -> Nat} {M p:Nat} {a b:List UInt8}
theorem Lay.left (h:Lay F M p (a ++ b)) : Lay F M p a:=by
 refine ⟨by have:=h.1; rw [List.length_append] at this; omega,fun i hi => ?_⟩
 rw [h.2 i (by rw [List.length_append]; omega)]
 unfold lf
 rw [List.getElem?_append_left hi]
theorem Lay.right (h:Lay F M p (a ++ b)) : Lay F M (p + a.length) b:=by
 refine ⟨by have:=h.1; rw [List.length_append] at this; omega,fun i hi => ?_⟩
 have:=h.2 (a.length + i) (by rw [List.length_append]; omega)
 rw [Nat.add_assoc,this]
 unfold lf
 rw [List.getElem?_append_right (by omega),show a.length + i - a.length=i by omega]
theorem Lay.head {x:UInt8} (h:Lay F M p (x :: a)) : p < M /\ F p=x.toNat /\ Lay F M (p + 1) a:=by
 refine ⟨by have:=h.1; rw [List.length_cons] at this; omega, ?_, ?_⟩
 . have:=h.2 0 (by simp)
   rw [Nat.add_zero] at this
   exact this
 . have:x :: a = [x] ++ a:=rfl
   rw [this] at h
   exact h.right
end
theorem isT1s (v:Nat) : Ch.isT Ch.tab 1 (v:Int)=decide ((9 <= v /\ v <= 10) \/ v=13 \/ v=32):=by
 have e:Ch.isT Ch.tab 1 (v:Int)=Ch.isR Ch.rg1 (v:Int):=by rw [<- Ch.rg_1]; exact Ch.isT_eq Ch.tab 1 v
 rw [e,Bool.eq_iff_iff]
 simp only [Ch.rg1,Ch.isR,decide_eq_true_eq]
 repeat' split
 all_goals simp
 all_goals omega
theorem isB_eq (v:Nat) : isB v=decide ((9 <= v /\ v <= 10) \/ v=13 \/ v=32):=isT1s v
theorem nst (v:Nat) (h:Ch.isT Ch.tab 2 (v:Int)=true) : 65 <= v /\ (v <= 55295 \/ 63744 <= v /\ v <= 983039):=by
 have e:Ch.isT Ch.tab 2 (v:Int)=Ch.isR Ch.rg2 (v:Int):=by rw [<- Ch.rg_2]; exact Ch.isT_eq Ch.tab 2 v
 rw [e] at h
 simp only [Ch.rg2,Ch.isR] at h
 repeat' split at h
 all_goals simp at h
 all_goals omega
theorem nrt (v:Nat) (h:Ch.isT Ch.tab 3 (v:Int)=true) : 45 <= v /\ v ≠ 47 /\ (v <= 57 \/ 65 <= v) /\ (v <= 55295 \/ 63744 <= v /\ v <= 983039):=by
 have e:Ch.isT Ch.tab 3 (v:Int)=Ch.isR Ch.rg3 (v:Int):=by rw [<- Ch.rg_3]; exact Ch.isT_eq Ch.tab 3 v
 rw [e] at h
 simp only [Ch.rg3,Ch.isR] at h
 repeat' split at h
 all_goals simp at h
 all_goals omega
theorem alw_scal {v:Nat} (h:Ch.isT Ch.tab 0 (v:Int)=true) : scal v:=by
 rw [Rf.isT0s,decide_eq_true_eq] at h
 unfold scal
 omega
theorem nx_at {F:Nat -> Nat} {M p r:Nat} {c:Int} {sg:List Nat} (hF : ∀ j,F j < 256) (hr:scal r) (h13:r ≠ 13) (hl:Lay F M p (encodeRune r)) (hc:Ch.isT Ch.tab c (r:Nat)=true \/ r ∈ sg) : nx F M p c sg=(0,r,el r):=by
 have hlen:=hl.1
 rw [enc_length] at hlen
 have hj : ∀ j,j < el r -> off F p j=eb r j:=fun j hj => by
  show F (p + j)=_
  rw [hl.2 j (by rw [enc_length]; exact hj),enc_get]
 have hpos:=el_pos r
 obtain ⟨w1,w2⟩:=whole_enc r hr (off F p) (M - p) (by omega) hj
 have hd:=dec_enc r hr (off F p) (M - p) (fun _ => hF _) (by omega) hj
 rw [dec_whole (off F p) _ (fun _ => hF _) (by omega),w1,if_pos rfl,Prod.mk.injEq] at hd
 have hpk:Fd.pk F M p false=(r,0,el r,0):=by
  unfold Fd.pk
  rw [if_pos w1,hd.1,if_neg h13,w2]
 unfold nx
 rw [hpk,if_pos ⟨rfl,hc⟩]
theorem enc_low {r:Nat} (h:r < 128) : encodeRune r = [r.toUInt8]:=by
 have : ∀ k:_root_.Fin 128,encodeRune (k.val:Int) = [k.val.toUInt8]:=by decide +kernel
 exact this ⟨r,h⟩
theorem el_low {r:Nat} (h:r < 128) : el r=1:=by rw [<- enc_length,enc_low h]; rfl
theorem nx_low {F:Nat -> Nat} {M p r:Nat} {c:Int} {sg:List Nat} (hF : ∀ j,F j < 256) (hr:r < 128) (h13:r ≠ 13) (h:p < M) (hp:F p=r) (hc:Ch.isT Ch.tab c (r:Nat)=true \/ r ∈ sg) : nx F M p c sg=(0,r,1):=by
 rw [<- el_low hr]
 refine nx_at hF (by unfold scal; omega) h13 ?_ hc
 rw [enc_low hr]
 refine ⟨h,fun i hi => ?_⟩
 obtain rfl:i=0:=by simpa using hi
 rw [Nat.add_zero,hp]
 show r=r.toUInt8.toNat
 rw [UInt8.toNat_ofNat']
 omega
end Sc
end Go.Proofs.YteiiepjegdlbeaaDoor
namespace Go.Proofs.YteiiepjegdlbeaaDoor
open Go.RowKit Go.Lib
namespace Sc
open Rn
theorem step0 {inn:Nat} {nm:List UInt8} {f:Nat -> Nat} {n:Nat} {s:Wk} (h:s.st=0) : step inn nm f n s=(onNx (nx f n s.ps (if inn=1 then 0 else 1) [60]) s fun r s => if r=60 then { s with tg:=s.fr,ct:=0,st:=2 } else if inn ≠ 1 then s else if r=38 then { s with ref := [38],st:=1 } else if r=62 /\ 2 <= s.ct then s.fails s.fr else (s.add r s.fr).tally r 93):=by
 unfold step
 rw [h]
 rfl
theorem step1 {inn:Nat} {nm:List UInt8} {f:Nat -> Nat} {n:Nat} {s:Wk} (h:s.st=1) : step inn nm f n s=(onRef f n s fun r s => { s.add r s.fr with ct:=0,st:=0 }):=by
 unfold step
 rw [h]
 rfl
theorem step2 {inn:Nat} {nm:List UInt8} {f:Nat -> Nat} {n:Nat} {s:Wk} (h:s.st=2) : step inn nm f n s=(onNx (nx f n s.ps (if inn=2 then 6 else 2) (if inn=1 then [33,47] else [33])) s fun r s => if r=33 then s.turn 3 else if r=47 then s.turn 18 else { s with tag:=s.tag ++ encodeRune r,st:=9 }):=by
 unfold step
 rw [h]
 rfl
theorem step3 {inn:Nat} {nm:List UInt8} {f:Nat -> Nat} {n:Nat} {s:Wk} (h:s.st=3) : step inn nm f n s=(onNx (nx f n s.ps 6 (if inn=1 then [45,91] else [45])) s fun r s => if r=91 then s.turn 7 else s.turn 4):=by
 unfold step
 rw [h]
 rfl
theorem step4 {inn:Nat} {nm:List UInt8} {f:Nat -> Nat} {n:Nat} {s:Wk} (h:s.st=4) : step inn nm f n s=(onNx (nx f n s.ps 6 [45]) s fun _ s => s.turn 5):=by
 unfold step
 rw [h]
 rfl
theorem step5 {inn:Nat} {nm:List UInt8} {f:Nat -> Nat} {n:Nat} {s:Wk} (h:s.st=5) : step inn nm f n s=(onNx (nx f n s.ps 0 []) s fun r s => if (s.tally r 45).ct < 2 then s.tally r 45 else (s.tally r 45).turn 6):=by
 unfold step
 rw [h]
 rfl
theorem step6 {inn:Nat} {nm:List UInt8} {f:Nat -> Nat} {n:Nat} {s:Wk} (h:s.st=6) : step inn nm f n s=(onNx (nx f n s.ps 6 [62]) s fun _ s => { s with ct:=0,st:=0 }):=by
 unfold step
 rw [h]
 rfl
theorem step7' {inn:Nat} {nm:List UInt8} {f:Nat -> Nat} {n:Nat} {s:Wk} (h:s.st=7) : step inn nm f n s=(onNx (nx f n s.ps 6 [word.getD s.ct 0]) s fun _ s => if s.ct + 1 < 6 then { s with ct:=s.ct + 1 } else { s with ct:=0,st:=8 }):=by
 unfold step
 rw [h]
 rfl
theorem step8 {inn:Nat} {nm:List UInt8} {f:Nat -> Nat} {n:Nat} {s:Wk} (h:s.st=8) : step inn nm f n s=(onNx (nx f n s.ps 0 []) s fun r s => if r=62 /\ 2 <= s.ct then { s with text:=s.text.take (s.text.length - 2),ct:=0,st:=0 } else (s.add r s.tg).tally r 93):=by
 unfold step
 rw [h]
 rfl
theorem step9 {inn:Nat} {nm:List UInt8} {f:Nat -> Nat} {n:Nat} {s:Wk} (h:s.st=9) : step inn nm f n s=(onNx (nx f n s.ps 3 (bl ++ [47,62])) s fun r s => if r=47 then s.turn 12 else if r=62 then s.whole 1 else if isB r=true then s.turn 10 else { s with tag:=s.tag ++ encodeRune r }):=by
 unfold step
 rw [h]
 rfl
theorem step10 {inn:Nat} {nm:List UInt8} {f:Nat -> Nat} {n:Nat} {s:Wk} (h:s.st=10) : step inn nm f n s=(onNx (nx f n s.ps 2 (bl ++ [47,62])) s fun r s => if r=47 then s.turn 12 else if r=62 then s.whole 1 else if isB r=true then s else { s with attr:=encodeRune r,st:=13 }):=by
 unfold step
 rw [h]
 rfl
theorem step11 {inn:Nat} {nm:List UInt8} {f:Nat -> Nat} {n:Nat} {s:Wk} (h:s.st=11) : step inn nm f n s=(onNx (nx f n s.ps 1 [47,62]) s fun r s => if r=62 then s.whole 1 else if r=47 then s.turn 12 else s.turn 10):=by
 unfold step
 rw [h]
 rfl
theorem step12 {inn:Nat} {nm:List UInt8} {f:Nat -> Nat} {n:Nat} {s:Wk} (h:s.st=12) : step inn nm f n s=(onNx (nx f n s.ps 6 [62]) s fun _ s => s.whole 3):=by
 unfold step
 rw [h]
 rfl
theorem step13 {inn:Nat} {nm:List UInt8} {f:Nat -> Nat} {n:Nat} {s:Wk} (h:s.st=13) : step inn nm f n s=(if s.ps < n /\ f s.ps ∈ bl ++ [61] /\ s.attr ∈ s.attrs.map (·.1) then some (s.fails s.ps) else onNx (nx f n s.ps 3 (bl ++ [61])) s fun r s => if r=61 then s.turn 15 else if isB r=true then s.turn 14 else { s with attr:=s.attr ++ encodeRune r }):=by
 unfold step
 rw [h]
 rfl
theorem step14 {inn:Nat} {nm:List UInt8} {f:Nat -> Nat} {n:Nat} {s:Wk} (h:s.st=14) : step inn nm f n s=(onNx (nx f n s.ps 1 [61]) s fun r s => if r=61 then s.turn 15 else s):=by
 unfold step
 rw [h]
 rfl
theorem step15 {inn:Nat} {nm:List UInt8} {f:Nat -> Nat} {n:Nat} {s:Wk} (h:s.st=15) : step inn nm f n s=(onNx (nx f n s.ps 1 [34,39]) s fun r s => if isB r=true then s else { s with qt:=r,val := [],st:=16 }):=by
 unfold step
 rw [h]
 rfl
theorem step16 {inn:Nat} {nm:List UInt8} {f:Nat -> Nat} {n:Nat} {s:Wk} (h:s.st=16) : step inn nm f n s=(onNx (nx f n s.ps 0 []) s fun r s => if r=60 then s.fails s.fr else if r=s.qt then { s with attrs:=s.attrs ++ [(s.attr,s.val)],st:=11 } else if r=38 then { s with ref := [38],st:=17 } else { s with val:=s.val ++ encodeRune (if isB r=true then 32 else r) }):=by
 unfold step
 rw [h]
 rfl
theorem step17 {inn:Nat} {nm:List UInt8} {f:Nat -> Nat} {n:Nat} {s:Wk} (h:s.st=17) : step inn nm f n s=(onRef f n s fun r s => { s with val:=s.val ++ encodeRune r,st:=16 }):=by
 unfold step
 rw [h]
 rfl
theorem step18 {inn:Nat} {nm:List UInt8} {f:Nat -> Nat} {n:Nat} {s:Wk} (h:s.st=18) : step inn nm f n s=(if s.ps - s.tg - 2=nm.length then some (s.turn 19) else if n <= s.ps then none else if f s.ps ≠ lf nm (s.ps - s.tg - 2) then some (s.fails s.ps) else some { s with ps:=s.ps + 1 }):=by
 unfold step
 rw [h]
 rfl
theorem step19 {inn:Nat} {nm:List UInt8} {f:Nat -> Nat} {n:Nat} {s:Wk} (h:s.st=19) : step inn nm f n s=(onNx (nx f n s.ps 1 [62]) s fun r s => if r=62 then { s.whole 2 with tag:=nm } else s):=by
 unfold step
 rw [h]
 rfl
theorem step_19 {inn:Nat} {nm:List UInt8} {f:Nat -> Nat} {n:Nat} {s:Wk} (h:19 <= s.st) : step inn nm f n s=(onNx (nx f n s.ps 1 [62]) s fun r s => if r=62 then { s.whole 2 with tag:=nm } else s):=by
 unfold step
 split
 case h_20 => rfl
 all_goals omega
structure Vw (t:Wk) (st ps:Nat) (tx tg:List UInt8) (ats:List (List UInt8 × List UInt8)) (an vl:List UInt8) : Prop where
 st:t.st=st
 how:t.how=1
 ps:t.ps=ps
 tx:t.text=tx
 tg:t.tag=tg
 ats:t.attrs=ats
 an:t.attr=an
 vl:t.val=vl
section
variable {inn:Nat} {nm:List UInt8} {F:Nat -> Nat} {M:Nat} {s:Wk} {ps:Nat} {tx tg an vl:List UInt8} {ats:List (List UInt8 × List UInt8)}
theorem enc_first {r:Nat} (hs:scal r) (h:128 <= r) : 128 <= lf (encodeRune r) 0:=by
 rw [enc_get]
 have hp:=el_pos r
 obtain ⟨w1,w2⟩:=whole_enc r hs (eb r) (el r) (Nat.le_refl _) (fun _ _ => rfl)
 have hd:=dec_enc r hs (eb r) (el r) (eb_lt r) (Nat.le_refl _) (fun _ _ => rfl)
 rw [dec_whole (eb r) _ (eb_lt r) (by omega),w1,if_pos rfl,Prod.mk.injEq] at hd
 rcases Nat.lt_or_ge (eb r 0) 128 with q | q
 . have:=(fv_one w1 q).1
   omega
 . exact q
theorem first_no {r:Nat} (hs:scal r) (hl:Lay F M ps (encodeRune r)) (h:45 <= r /\ r ≠ 47 /\ (r <= 57 \/ 65 <= r)) : F ps ∉ bl ++ [61]:=by
 have hp:=el_pos r
 have h0:=hl.2 0 (by rw [enc_length]; omega)
 rw [Nat.add_zero] at h0
 by_cases c:r < 128
 . rw [enc_low c] at h0
   have:F ps=r:=by
    rw [h0]
    show r.toUInt8.toNat=r
    rw [UInt8.toNat_ofNat']
    omega
   rw [this]
   simp [bl]
   omega
 . have:128 <= F ps:=by rw [h0]; exact enc_first hs (by omega)
   simp [bl]
   omega
theorem g0lt (hF : ∀ j,F j < 256) (hv:Vw s 0 ps tx tg ats an vl) (hM:ps < M) (hb:F ps=60) : ∃ t,Steps inn nm F M s t /\ Vw t 2 (ps + 1) tx tg ats an vl /\ t.tg=ps:=by
 have hn:=nx_low (c:=if inn=1 then 0 else 1) (sg := [60]) hF (by omega) (by omega) hM hb (.inr (by simp))
 have e:step inn nm F M s=some { s.took 1 with tg:=(s.took 1).fr,ct:=0,st:=2 }:=by
  rw [step0 hv.st,hv.ps,hn]
  rfl
 exact ⟨_, .one hv.how e,⟨rfl,hv.how,by show s.ps + 1=ps + 1; rw [hv.ps],hv.tx,hv.tg,hv.ats,hv.an,hv.vl⟩,hv.ps⟩
theorem g0amp (hF : ∀ j,F j < 256) (hv:Vw s 0 ps tx tg ats an vl) (hi:inn=1) (hM:ps < M) (hb:F ps=38) : ∃ t,Steps inn nm F M s t /\ Vw t 1 (ps + 1) tx tg ats an vl /\ t.ref = [38]:=by
 subst hi
 have hn:=nx_low (c:=if 1=1 then 0 else 1) (sg := [60]) hF (by omega) (by omega) hM hb (.inl (by kernel_rfl))
 have e:step 1 nm F M s=some { s.took 1 with ref := [38],st:=1 }:=by
  rw [step0 hv.st,hv.ps,hn]
  rfl
 exact ⟨_, .one hv.how e,⟨rfl,hv.how,by show s.ps + 1=ps + 1; rw [hv.ps],hv.tx,hv.tg,hv.ats,hv.an,hv.vl⟩,rfl⟩
theorem g2sl (hF : ∀ j,F j < 256) (hv:Vw s 2 ps tx tg ats an vl) (hi:inn=1) (htg:s.tg + 1=ps) (hM:ps < M) (hb:F ps=47) : ∃ t,Steps inn nm F M s t /\ Vw t 18 (ps + 1) tx tg ats an vl /\ t.tg + 2=ps + 1:=by
 subst hi
 have hn:=nx_low (c:=if 1=2 then 6 else 2) (sg:=if 1=1 then [33,47] else [33]) hF (by omega) (by omega) hM hb (.inr (by decide))
 have e:step 1 nm F M s=some ((s.took 1).turn 18):=by
  rw [step2 hv.st,hv.ps,hn]
  rfl
 exact ⟨_, .one hv.how e,⟨rfl,hv.how,by show s.ps + 1=ps + 1; rw [hv.ps],hv.tx,hv.tg,hv.ats,hv.an,hv.vl⟩,by show s.tg + 2=ps + 1; omega⟩
theorem g9sl (hF : ∀ j,F j < 256) (hv:Vw s 9 ps tx tg ats an vl) (hM:ps < M) (hb:F ps=47) : ∃ t,Steps inn nm F M s t /\ Vw t 12 (ps + 1) tx tg ats an vl:=by
 have hn:=nx_low (c:=3) (sg:=bl ++ [47,62]) hF (by omega) (by omega) hM hb (.inr (by decide))
 have e:step inn nm F M s=some ((s.took 1).turn 12):=by
  rw [step9 hv.st,hv.ps,hn]
  rfl
 exact ⟨_, .one hv.how e,⟨rfl,hv.how,by show s.ps + 1=ps + 1; rw [hv.ps],hv.tx,hv.tg,hv.ats,hv.an,hv.vl⟩⟩
theorem g11sl (hF : ∀ j,F j < 256) (hv:Vw s 11 ps tx tg ats an vl) (hM:ps < M) (hb:F ps=47) : ∃ t,Steps inn nm F M s t /\ Vw t 12 (ps + 1) tx tg ats an vl:=by
 have hn:=nx_low (c:=1) (sg := [47,62]) hF (by omega) (by omega) hM hb (.inr (by decide))
 have e:step inn nm F M s=some ((s.took 1).turn 12):=by
  rw [step11 hv.st,hv.ps,hn]
  rfl
 exact ⟨_, .one hv.how e,⟨rfl,hv.how,by show s.ps + 1=ps + 1; rw [hv.ps],hv.tx,hv.tg,hv.ats,hv.an,hv.vl⟩⟩
theorem g9b (hF : ∀ j,F j < 256) (hv:Vw s 9 ps tx tg ats an vl) (hM:ps < M) (hb:F ps=32) : ∃ t,Steps inn nm F M s t /\ Vw t 10 (ps + 1) tx tg ats an vl:=by
 have hn:=nx_low (c:=3) (sg:=bl ++ [47,62]) hF (by omega) (by omega) hM hb (.inr (by decide))
 have e:step inn nm F M s=some ((s.took 1).turn 10):=by
  rw [step9 hv.st,hv.ps,hn]
  rfl
 exact ⟨_, .one hv.how e,⟨rfl,hv.how,by show s.ps + 1=ps + 1; rw [hv.ps],hv.tx,hv.tg,hv.ats,hv.an,hv.vl⟩⟩
theorem g11b (hF : ∀ j,F j < 256) (hv:Vw s 11 ps tx tg ats an vl) (hM:ps < M) (hb:F ps=32) : ∃ t,Steps inn nm F M s t /\ Vw t 10 (ps + 1) tx tg ats an vl:=by
 have hn:=nx_low (c:=1) (sg := [47,62]) hF (by omega) (by omega) hM hb (.inl (by kernel_rfl))
 have e:step inn nm F M s=some ((s.took 1).turn 10):=by
  rw [step11 hv.st,hv.ps,hn]
  rfl
 exact ⟨_, .one hv.how e,⟨rfl,hv.how,by show s.ps + 1=ps + 1; rw [hv.ps],hv.tx,hv.tg,hv.ats,hv.an,hv.vl⟩⟩
theorem g13eq (hF : ∀ j,F j < 256) (hv:Vw s 13 ps tx tg ats an vl) (hx:an ∉ ats.map (·.1)) (hM:ps < M) (hb:F ps=61) : ∃ t,Steps inn nm F M s t /\ Vw t 15 (ps + 1) tx tg ats an vl:=by
 have hn:=nx_low (c:=3) (sg:=bl ++ [61]) hF (by omega) (by omega) hM hb (.inr (by decide))
 have e:step inn nm F M s=some ((s.took 1).turn 15):=by
  rw [step13 hv.st,if_neg (by rw [hv.an,hv.ats]; exact fun q => hx q.2.2),hv.ps,hn]
  rfl
 exact ⟨_, .one hv.how e,⟨rfl,hv.how,by show s.ps + 1=ps + 1; rw [hv.ps],hv.tx,hv.tg,hv.ats,hv.an,hv.vl⟩⟩
theorem g15q (hF : ∀ j,F j < 256) (hv:Vw s 15 ps tx tg ats an vl) (hM:ps < M) (hb:F ps=34) : ∃ t,Steps inn nm F M s t /\ Vw t 16 (ps + 1) tx tg ats an [] /\ t.qt=34:=by
 have hn:=nx_low (c:=1) (sg := [34,39]) hF (by omega) (by omega) hM hb (.inr (by decide))
 have e:step inn nm F M s=some { s.took 1 with qt:=34,val := [],st:=16 }:=by
  rw [step15 hv.st,hv.ps,hn]
  rfl
 exact ⟨_, .one hv.how e,⟨rfl,hv.how,by show s.ps + 1=ps + 1; rw [hv.ps],hv.tx,hv.tg,hv.ats,hv.an,rfl⟩,rfl⟩
theorem g16q (hF : ∀ j,F j < 256) (hv:Vw s 16 ps tx tg ats an vl) (hq:s.qt=34) (hM:ps < M) (hb:F ps=34) : ∃ t,Steps inn nm F M s t /\ Vw t 11 (ps + 1) tx tg (ats ++ [(an,vl)]) an vl:=by
 have hn:=nx_low (c:=0) (sg := []) hF (by omega) (by omega) hM hb (.inl (by kernel_rfl))
 have e:step inn nm F M s=some { s.took 1 with attrs:=(s.took 1).attrs ++ [((s.took 1).attr,(s.took 1).val)],st:=11 }:=by
  rw [step16 hv.st,hv.ps,hn]
  show some (if 34=60 then _ else if 34=(s.took 1).qt then _ else _)=_
  rw [if_neg (by decide),if_pos (show 34=(s.took 1).qt from hq.symm)]
 exact ⟨_, .one hv.how e,⟨rfl,hv.how,by show s.ps + 1=ps + 1; rw [hv.ps],hv.tx,hv.tg,(by show s.attrs ++ [(s.attr,s.val)]=_; rw [hv.ats,hv.an,hv.vl]),hv.an,hv.vl⟩⟩
theorem g16amp (hF : ∀ j,F j < 256) (hv:Vw s 16 ps tx tg ats an vl) (hq:s.qt=34) (hM:ps < M) (hb:F ps=38) : ∃ t,Steps inn nm F M s t /\ Vw t 17 (ps + 1) tx tg ats an vl /\ t.ref = [38] /\ t.qt=34:=by
 have hn:=nx_low (c:=0) (sg := []) hF (by omega) (by omega) hM hb (.inl (by kernel_rfl))
 have e:step inn nm F M s=some { s.took 1 with ref := [38],st:=17 }:=by
  rw [step16 hv.st,hv.ps,hn]
  show some (if 38=60 then _ else if 38=(s.took 1).qt then _ else _)=_
  rw [if_neg (by decide),if_neg (by show ¬ 38=s.qt; omega),if_pos rfl]
 exact ⟨_, .one hv.how e,⟨rfl,hv.how,by show s.ps + 1=ps + 1; rw [hv.ps],hv.tx,hv.tg,hv.ats,hv.an,hv.vl⟩,rfl,hq⟩
theorem g9gt (hF : ∀ j,F j < 256) (hv:Vw s 9 ps tx tg ats an vl) (hM:ps < M) (hb:F ps=62) : ∃ t,Steps inn nm F M s t /\ t.how=0 /\ t.kind=1 /\ t.ps=ps + 1 /\ t.text=tx /\ t.tag=tg /\ t.attrs=ats:=by
 have hn:=nx_low (c:=3) (sg:=bl ++ [47,62]) hF (by omega) (by omega) hM hb (.inr (by decide))
 have e:step inn nm F M s=some ((s.took 1).whole 1):=by
  rw [step9 hv.st,hv.ps,hn]
  rfl
 exact ⟨_, .one hv.how e,rfl,rfl,by show s.ps + 1=ps + 1; rw [hv.ps],hv.tx,hv.tg,hv.ats⟩
theorem g11gt (hF : ∀ j,F j < 256) (hv:Vw s 11 ps tx tg ats an vl) (hM:ps < M) (hb:F ps=62) : ∃ t,Steps inn nm F M s t /\ t.how=0 /\ t.kind=1 /\ t.ps=ps + 1 /\ t.text=tx /\ t.tag=tg /\ t.attrs=ats:=by
 have hn:=nx_low (c:=1) (sg := [47,62]) hF (by omega) (by omega) hM hb (.inr (by decide))
 have e:step inn nm F M s=some ((s.took 1).whole 1):=by
  rw [step11 hv.st,hv.ps,hn]
  rfl
 exact ⟨_, .one hv.how e,rfl,rfl,by show s.ps + 1=ps + 1; rw [hv.ps],hv.tx,hv.tg,hv.ats⟩
theorem g12gt (hF : ∀ j,F j < 256) (hv:Vw s 12 ps tx tg ats an vl) (hM:ps < M) (hb:F ps=62) : ∃ t,Steps inn nm F M s t /\ t.how=0 /\ t.kind=3 /\ t.ps=ps + 1 /\ t.text=tx /\ t.tag=tg /\ t.attrs=ats:=by
 have hn:=nx_low (c:=6) (sg := [62]) hF (by omega) (by omega) hM hb (.inr (by decide))
 have e:step inn nm F M s=some ((s.took 1).whole 3):=by
  rw [step12 hv.st,hv.ps,hn]
  rfl
 exact ⟨_, .one hv.how e,rfl,rfl,by show s.ps + 1=ps + 1; rw [hv.ps],hv.tx,hv.tg,hv.ats⟩
theorem g19gt (hF : ∀ j,F j < 256) (hv:Vw s 19 ps tx tg ats an vl) (hM:ps < M) (hb:F ps=62) : ∃ t,Steps inn nm F M s t /\ t.how=0 /\ t.kind=2 /\ t.ps=ps + 1 /\ t.text=tx /\ t.tag=nm /\ t.attrs=ats:=by
 have hn:=nx_low (c:=1) (sg := [62]) hF (by omega) (by omega) hM hb (.inr (by decide))
 have e:step inn nm F M s=some { (s.took 1).whole 2 with tag:=nm }:=by
  rw [step19 hv.st,hv.ps,hn]
  rfl
 exact ⟨_, .one hv.how e,rfl,rfl,by show s.ps + 1=ps + 1; rw [hv.ps],hv.tx,rfl,hv.ats⟩
theorem g0ch (hF : ∀ j,F j < 256) (hv:Vw s 0 ps tx tg ats an vl) (hi:inn=1) {r:Nat} (hr:Ch.isT Ch.tab 0 (r:Nat)=true) (hl:Lay F M ps (encodeRune r)) (h0:r ≠ 60 /\ r ≠ 38 /\ r ≠ 62 /\ r ≠ 13) : ∃ t,Steps inn nm F M s t /\ Vw t 0 (ps + el r) (tx ++ encodeRune r) tg ats an vl:=by
 subst hi
 have hs:=alw_scal hr
 have hn:=nx_at (c:=if 1=1 then 0 else 1) (sg := [60]) hF hs (by omega) hl (.inl (by rw [if_pos rfl]; exact hr))
 have e:step 1 nm F M s=some (((s.took (el r)).add r (s.took (el r)).fr).tally r 93):=by
  rw [step0 hv.st,hv.ps,hn]
  show some (if r=60 then _ else if 1 ≠ 1 then _ else if r=38 then _ else if r=62 /\ _ then _ else _)=_
  rw [if_neg h0.1,if_neg (by decide),if_neg h0.2.1,if_neg (fun q => h0.2.2.1 q.1)]
 exact ⟨_, .one hv.how e,⟨hv.st,hv.how,by show s.ps + el r=ps + el r; rw [hv.ps],(by show s.text ++ encodeRune r=_; rw [hv.tx]),hv.tg,hv.ats,hv.an,hv.vl⟩⟩
theorem g2ch (hF : ∀ j,F j < 256) (hv:Vw s 2 ps tx tg ats an vl) (hi:inn ≠ 2) {r:Nat} (hr:Ch.isT Ch.tab 2 (r:Nat)=true) (hl:Lay F M ps (encodeRune r)) : ∃ t,Steps inn nm F M s t /\ Vw t 9 (ps + el r) tx (tg ++ encodeRune r) ats an vl:=by
 have hq:=nst r hr
 have hs:scal r:=by unfold scal; omega
 have hn:=nx_at (c:=if inn=2 then 6 else 2) (sg:=if inn=1 then [33,47] else [33]) hF hs (by omega) hl (.inl (by rw [if_neg hi]; exact hr))
 have e:step inn nm F M s=some { s.took (el r) with tag:=(s.took (el r)).tag ++ encodeRune r,st:=9 }:=by
  rw [step2 hv.st,hv.ps,hn]
  show some (if r=33 then _ else if r=47 then _ else _)=_
  rw [if_neg (by omega),if_neg (by omega)]
 exact ⟨_, .one hv.how e,⟨rfl,hv.how,by show s.ps + el r=ps + el r; rw [hv.ps],hv.tx,(by show s.tag ++ encodeRune r=_; rw [hv.tg]),hv.ats,hv.an,hv.vl⟩⟩
theorem g9ch (hF : ∀ j,F j < 256) (hv:Vw s 9 ps tx tg ats an vl) {r:Nat} (hr:Ch.isT Ch.tab 3 (r:Nat)=true) (hl:Lay F M ps (encodeRune r)) : ∃ t,Steps inn nm F M s t /\ Vw t 9 (ps + el r) tx (tg ++ encodeRune r) ats an vl:=by
 have hq:=nrt r hr
 have hs:scal r:=by unfold scal; omega
 have hB : ¬ isB r=true:=by rw [isB_eq,decide_eq_true_eq]; omega
 have hn:=nx_at (c:=3) (sg:=bl ++ [47,62]) hF hs (by omega) hl (.inl hr)
 have e:step inn nm F M s=some { s.took (el r) with tag:=(s.took (el r)).tag ++ encodeRune r }:=by
  rw [step9 hv.st,hv.ps,hn]
  show some (if r=47 then _ else if r=62 then _ else if isB r=true then _ else _)=_
  rw [if_neg (by omega),if_neg (by omega),if_neg hB]
 exact ⟨_, .one hv.how e,⟨hv.st,hv.how,by show s.ps + el r=ps + el r; rw [hv.ps],hv.tx,(by show s.tag ++ encodeRune r=_; rw [hv.tg]),hv.ats,hv.an,hv.vl⟩⟩
theorem g10ch (hF : ∀ j,F j < 256) (hv:Vw s 10 ps tx tg ats an vl) {r:Nat} (hr:Ch.isT Ch.tab 2 (r:Nat)=true) (hl:Lay F M ps (encodeRune r)) : ∃ t,Steps inn nm F M s t /\ Vw t 13 (ps + el r) tx tg ats (encodeRune r) vl:=by
 have hq:=nst r hr
 have hs:scal r:=by unfold scal; omega
 have hB : ¬ isB r=true:=by rw [isB_eq,decide_eq_true_eq]; omega
 have hn:=nx_at (c:=2) (sg:=bl ++ [47,62]) hF hs (by omega) hl (.inl hr)
 have e:step inn nm F M s=some { s.took (el r) with attr:=encodeRune r,st:=13 }:=by
  rw [step10 hv.st,hv.ps,hn]
  show some (if r=47 then _ else if r=62 then _ else if isB r=true then _ else _)=_
  rw [if_neg (by omega),if_neg (by omega),if_neg hB]
 exact ⟨_, .one hv.how e,⟨rfl,hv.how,by show s.ps + el r=ps + el r; rw [hv.ps],hv.tx,hv.tg,hv.ats,rfl,hv.vl⟩⟩
theorem g13ch (hF : ∀ j,F j < 256) (hv:Vw s 13 ps tx tg ats an vl) {r:Nat} (hr:Ch.isT Ch.tab 3 (r:Nat)=true) (hl:Lay F M ps (encodeRune r)) : ∃ t,Steps inn nm F M s t /\ Vw t 13 (ps + el r) tx tg ats (an ++ encodeRune r) vl:=by
 have hq:=nrt r hr
 have hs:scal r:=by unfold scal; omega
 have hB : ¬ isB r=true:=by rw [isB_eq,decide_eq_true_eq]; omega
 have hn:=nx_at (c:=3) (sg:=bl ++ [61]) hF hs (by omega) hl (.inl hr)
 have e:step inn nm F M s=some { s.took (el r) with attr:=(s.took (el r)).attr ++ encodeRune r }:=by
  rw [step13 hv.st,if_neg (by rw [hv.ps]; exact fun q => first_no hs hl (by omega) q.2.1),hv.ps,hn]
  show some (if r=61 then _ else if isB r=true then _ else _)=_
  rw [if_neg (by omega),if_neg hB]
 exact ⟨_, .one hv.how e,⟨hv.st,hv.how,by show s.ps + el r=ps + el r; rw [hv.ps],hv.tx,hv.tg,hv.ats,(by show s.attr ++ encodeRune r=_; rw [hv.an]),hv.vl⟩⟩
theorem g16ch (hF : ∀ j,F j < 256) (hv:Vw s 16 ps tx tg ats an vl) (hq:s.qt=34) {r:Nat} (hr:Ch.isT Ch.tab 0 (r:Nat)=true) (hl:Lay F M ps (encodeRune r)) (h0:r ≠ 60 /\ r ≠ 38 /\ r ≠ 34 /\ r ≠ 9 /\ r ≠ 10 /\ r ≠ 13) : ∃ t,Steps inn nm F M s t /\ Vw t 16 (ps + el r) tx tg ats an (vl ++ encodeRune r) /\ t.qt=34:=by
 have hs:=alw_scal hr
 have h32:(if isB r=true then (32:Int) else (r:Int))=r:=by
  rw [isB_eq]
  by_cases c:r=32
  . rw [c]; rfl
  . rw [if_neg (by rw [decide_eq_true_eq]; omega)]
 have hn:=nx_at (c:=0) (sg := []) hF hs (by omega) hl (.inl hr)
 have e:step inn nm F M s=some { s.took (el r) with val:=(s.took (el r)).val ++ encodeRune r }:=by
  rw [step16 hv.st,hv.ps,hn]
  show some (if r=60 then _ else if r=(s.took (el r)).qt then _ else if r=38 then _ else { s.took (el r) with val:=(s.took (el r)).val ++ encodeRune (if isB r=true then (32:Int) else (r:Int)) })=_
  rw [if_neg h0.1,if_neg (by show ¬ r=s.qt; omega),if_neg h0.2.1,h32]
 exact ⟨_, .one hv.how e,⟨hv.st,hv.how,by show s.ps + el r=ps + el r; rw [hv.ps],hv.tx,hv.tg,hv.ats,hv.an,(by show s.val ++ encodeRune r=_; rw [hv.vl])⟩,hq⟩
theorem g18 : ∀ (d:Nat) {s:Wk} {ps:Nat},Vw s 18 ps tx tg ats an vl -> ps - s.tg - 2 + d=nm.length -> s.tg + 2 <= ps -> Lay F M ps (nm.drop (ps - s.tg - 2)) -> ∃ t,Steps inn nm F M s t /\ Vw t 19 (ps + d) tx tg ats an vl
 | 0,s,ps,hv,h,h2,hl => by
   have e:step inn nm F M s=some (s.turn 19):=by rw [step18 hv.st,hv.ps,if_pos (by omega)]
   exact ⟨_, .one hv.how e,⟨rfl,hv.how,hv.ps,hv.tx,hv.tg,hv.ats,hv.an,hv.vl⟩⟩
 | d + 1,s,ps,hv,h,h2,hl => by
   have hd:nm.drop (ps - s.tg - 2)=nm[ps - s.tg - 2]'(by omega) :: nm.drop (ps - s.tg - 2 + 1):=List.drop_eq_getElem_cons (by omega)
   rw [hd] at hl
   obtain ⟨q1,q2,q3⟩:=hl.head
   have e:step inn nm F M s=some { s with ps:=ps + 1 }:=by
    rw [step18 hv.st,hv.ps,if_neg (by omega),if_neg (by omega),if_neg]
    rw [q2]
    unfold lf
    rw [List.getElem?_eq_getElem (by omega)]
    simp
   have hv':Vw { s with ps:=ps + 1 } 18 (ps + 1) tx tg ats an vl:=⟨hv.st,hv.how,rfl,hv.tx,hv.tg,hv.ats,hv.an,hv.vl⟩
   obtain ⟨t,g1,g2⟩:=g18 d hv' (by show ps + 1 - s.tg - 2 + d=nm.length; omega) (by show s.tg + 2 <= ps + 1; omega) (by show Lay F M (ps + 1) (nm.drop (ps + 1 - s.tg - 2)); rw [show ps + 1 - s.tg - 2=ps - s.tg - 2 + 1 by omega]; exact q3)
   exact ⟨t, .cons hv.how e g1,by rw [show ps + (d + 1)=ps + 1 + d by omega]; exact g2⟩
end
end Sc
end Go.Proofs.YteiiepjegdlbeaaDoor
namespace Go.Proofs.YteiiepjegdlbeaaDoor
open Go.RowKit Go.Lib
namespace Sc
open Rn
def okRef (r:Nat) : List UInt8 -> List UInt8 -> Bool
 | _, [] => false
 | pre, [x] => decide ((Rf.rd (lf (pre ++ [x])) (pre.length + 1)).2.2=0) && decide ((Rf.rd (lf (pre ++ [x])) (pre.length + 1)).1=r)
 | pre,x :: y :: l => decide ((Rf.rd (lf (pre ++ [x])) (pre.length + 1)).2.2 ≠ 2) && decide ((Rf.rd (lf (pre ++ [x])) (pre.length + 1)).2.2 ≠ 0) && okRef r (nought (pre ++ [x])) (y :: l)
section
variable {inn:Nat} {nm:List UInt8} {F:Nat -> Nat} {M:Nat} {tx tg an vl:List UInt8} {ats:List (List UInt8 × List UInt8)}
theorem u8_back (x:UInt8) : (x.toNat).toUInt8=x:=by simp
theorem ref_walk {st r:Nat} {K:Nat -> Wk -> Wk} (hstep : ∀ k:Wk,k.st=st -> step inn nm F M k=onRef F M k K) : ∀ (l pre:List UInt8) (s:Wk) (ps:Nat),Vw s st ps tx tg ats an vl -> s.ref=pre -> okRef r pre l=true -> Lay F M ps l ->
 ∃ t,Steps inn nm F M s (K r t) /\ Vw t st (ps + l.length) tx tg ats an vl /\ t.qt=s.qt
 | [],pre,s,ps,hv,hr,ho,hl => by cases ho
 | [x], pre, s, ps, hv, hr, ho, hl => by
   obtain ⟨q1,q2,_⟩:=hl.head
   simp only [okRef,Bool.and_eq_true,decide_eq_true_eq] at ho
   have e:step inn nm F M s=some (K r { s with ref:=pre ++ [x],ps:=ps + 1 }):=by
    rw [hstep s hv.st]
    unfold onRef
    rw [hv.ps,hr,q2,u8_back,if_neg (by omega),if_neg (by rw [ho.1]; decide),if_pos ho.1,ho.2]
   exact ⟨_, .one hv.how e,⟨hv.st,hv.how,rfl,hv.tx,hv.tg,hv.ats,hv.an,hv.vl⟩,rfl⟩
 | x :: y :: l,pre,s,ps,hv,hr,ho,hl => by
   obtain ⟨q1,q2,q3⟩:=hl.head
   simp only [okRef,Bool.and_eq_true,decide_eq_true_eq] at ho
   have e:step inn nm F M s=some { s with ref:=nought (pre ++ [x]),ps:=ps + 1 }:=by
    rw [hstep s hv.st]
    unfold onRef
    rw [hv.ps,hr,q2,u8_back,if_neg (by omega),if_neg ho.1.1,if_neg ho.1.2]
   obtain ⟨t,g1,g2,g3⟩:=ref_walk hstep (y :: l) (nought (pre ++ [x])) { s with ref:=nought (pre ++ [x]),ps:=ps + 1 } (ps + 1) ⟨hv.st,hv.how,rfl,hv.tx,hv.tg,hv.ats,hv.an,hv.vl⟩ rfl ho.2 q3
   exact ⟨t, .cons hv.how e g1,by rw [show ps + (x :: y :: l).length=ps + 1 + (y :: l).length by simp; omega]; exact g2,g3⟩
theorem enc_bigs (v:Nat) (hv:128 <= v) : ∀ y ∈ Lib.encodeRune (v:Int),128 <= y.toNat:=by
 intro y hy
 unfold Lib.encodeRune at hy
 obtain ⟨z,hz,rfl⟩:=List.mem_map.1 hy
 have:128 <= z /\ z < 256:=by
  unfold Lib.encodeRuneZ at hz
  split at hz
  . omega
  . split at hz
    . simp at hz; omega
    . split at hz
      . simp at hz; omega
      . split at hz
        . simp at hz; omega
        . simp at hz; omega
 have e:(z.toNat.toUInt8).toNat=z.toNat % 256:=by simp
 rw [e]
 omega
theorem esc_plain {form:Nat -> List UInt8} (h : ∀ x,128 <= x -> form x = []) : ∀ (w:List UInt8),(∀ y ∈ w,128 <= y.toNat) -> Rf.esc form w=w
 | [],_ => rfl
 | y :: w,hy => by
   have e:Rf.esc form (y :: w)=Rf.one form y ++ Rf.esc form w:=by simp [Rf.esc]
   rw [e,esc_plain h w (fun z hz => hy z (by simp [hz]))]
   unfold Rf.one
   rw [if_pos (h _ (hy y (by simp)))]
   rfl
theorem inT_big (x:Nat) (h:128 <= x) : Rf.inT x = []:=by
 unfold Rf.inT
 rw [if_neg (by omega),if_neg (by omega),if_neg (by omega),if_neg (by omega)]
theorem inV_big (x:Nat) (h:128 <= x) : Rf.inV x = []:=by
 unfold Rf.inV
 rw [if_neg (by omega),if_neg (by omega),if_neg (by omega),if_neg (by omega),if_neg (by omega),if_neg (by omega)]
theorem esc_enc {form:Nat -> List UInt8} (h : ∀ x,128 <= x -> form x = []) {r:Nat} (hr:form r = []) : Rf.esc form (encodeRune r)=encodeRune r:=by
 by_cases c:r < 128
 . rw [enc_low c]
   show Rf.one form r.toUInt8 ++ []=_
   unfold Rf.one
   rw [UInt8.toNat_ofNat',Nat.mod_eq_of_lt (by omega),if_pos hr]
   rfl
 . exact esc_plain h _ (enc_bigs r (by omega))
theorem esc_form {form:Nat -> List UInt8} {r:Nat} (h:r < 128) (hr:form r ≠ []) : Rf.esc form (encodeRune r)=form r:=by
 rw [enc_low h]
 show Rf.one form r.toUInt8 ++ []=_
 unfold Rf.one
 rw [UInt8.toNat_ofNat',Nat.mod_eq_of_lt (by omega),if_neg hr,List.append_nil]
theorem txt_one (hF : ∀ j,F j < 256) {s:Wk} {ps r:Nat} (hv:Vw s 0 ps tx tg ats an vl) (hi:inn=1) (hr:Ch.isT Ch.tab 0 (r:Nat)=true) (hl:Lay F M ps (Rf.esc Rf.inT (encodeRune r))) :
 ∃ t,Steps inn nm F M s t /\ Vw t 0 (ps + (Rf.esc Rf.inT (encodeRune r)).length) (tx ++ encodeRune r) tg ats an vl:=by
 by_cases c:Rf.inT r = []
 . rw [esc_enc inT_big c] at hl ⊢
   rw [enc_length]
   refine g0ch hF hv hi hr hl ?_
   refine ⟨?_, ?_, ?_, ?_⟩ <;> (intro q; rw [q] at c; exact absurd c (by decide))
 . have h128:r < 128:=by
    rcases Nat.lt_or_ge r 128 with q | q
    . exact q
    . exact absurd (inT_big r q) c
   rw [esc_form h128 c] at hl ⊢
   obtain ⟨l,e1,e2⟩ : ∃ l,Rf.inT r=38 :: l /\ okRef r [38] l=true:=by
    by_cases c1:r=38
    . rw [c1]; exact ⟨_,rfl,by kernel_rfl⟩
    by_cases c2:r=60
    . rw [c2]; exact ⟨_,rfl,by kernel_rfl⟩
    by_cases c3:r=62
    . rw [c3]; exact ⟨_,rfl,by kernel_rfl⟩
    by_cases c4:r=13
    . rw [c4]; exact ⟨_,rfl,by kernel_rfl⟩
    . exfalso
      apply c
      unfold Rf.inT
      rw [if_neg c1,if_neg c2,if_neg c3,if_neg c4]
   rw [e1] at hl ⊢
   obtain ⟨q1,q2,q3⟩:=hl.head
   obtain ⟨s1,g1,g2,g3⟩:=g0amp (nm:=nm) hF hv hi q1 q2
   obtain ⟨t,g4,g5,_⟩:=ref_walk (inn:=inn) (nm:=nm) (M:=M) (st:=1) (r:=r) (fun k hk => step1 hk) l [38] s1 (ps + 1) g2 g3 e2 q3
   refine ⟨_,g1.trans g4,⟨rfl,g5.how, ?_, ?_,g5.tg,g5.ats,g5.an,g5.vl⟩⟩
   . show t.ps=_
     rw [g5.ps,List.length_cons]
     omega
   . show t.text ++ encodeRune r=_
     rw [g5.tx]
theorem txt_all (hF : ∀ j,F j < 256) (hi:inn=1) : ∀ (L:List Nat) {s:Wk} {ps:Nat} {tx:List UInt8},Vw s 0 ps tx tg ats an vl -> (∀ r ∈ L,Ch.isT Ch.tab 0 ((r:Nat) : Int)=true) -> Lay F M ps (Rf.esc Rf.inT (cat L)) ->
 ∃ t,Steps inn nm F M s t /\ Vw t 0 (ps + (Rf.esc Rf.inT (cat L)).length) (tx ++ cat L) tg ats an vl
 | [],s,ps,tx,hv,_,_ => ⟨s, .refl _,by simpa [cat,Rf.esc] using hv⟩
 | r :: L,s,ps,tx,hv,hL,hl => by
   rw [cat_cons,Rf.esc_append] at hl ⊢
   obtain ⟨t,g1,g2⟩:=txt_one (nm:=nm) hF hv hi (hL r (by simp)) hl.left
   obtain ⟨t2,g3,g4⟩:=txt_all hF hi L g2 (fun q hq => hL q (by simp [hq])) hl.right
   refine ⟨t2,g1.trans g3, ?_⟩
   rw [List.length_append, <- Nat.add_assoc, <- List.append_assoc]
   exact g4
theorem val_one (hF : ∀ j,F j < 256) {s:Wk} {ps r:Nat} (hv:Vw s 16 ps tx tg ats an vl) (hq:s.qt=34) (hr:Ch.isT Ch.tab 0 (r:Nat)=true) (hl:Lay F M ps (Rf.esc Rf.inV (encodeRune r))) :
 ∃ t,Steps inn nm F M s t /\ Vw t 16 (ps + (Rf.esc Rf.inV (encodeRune r)).length) tx tg ats an (vl ++ encodeRune r) /\ t.qt=34:=by
 by_cases c:Rf.inV r = []
 . rw [esc_enc inV_big c] at hl ⊢
   rw [enc_length]
   refine g16ch hF hv hq hr hl ?_
   refine ⟨?_, ?_, ?_, ?_, ?_, ?_⟩ <;> (intro q; rw [q] at c; exact absurd c (by decide))
 . have h128:r < 128:=by
    rcases Nat.lt_or_ge r 128 with q | q
    . exact q
    . exact absurd (inV_big r q) c
   rw [esc_form h128 c] at hl ⊢
   obtain ⟨l,e1,e2⟩ : ∃ l,Rf.inV r=38 :: l /\ okRef r [38] l=true:=by
    by_cases c1:r=38
    . rw [c1]; exact ⟨_,rfl,by kernel_rfl⟩
    by_cases c2:r=60
    . rw [c2]; exact ⟨_,rfl,by kernel_rfl⟩
    by_cases c3:r=34
    . rw [c3]; exact ⟨_,rfl,by kernel_rfl⟩
    by_cases c5:r=9
    . rw [c5]; exact ⟨_,rfl,by kernel_rfl⟩
    by_cases c6:r=10
    . rw [c6]; exact ⟨_,rfl,by kernel_rfl⟩
    by_cases c4:r=13
    . rw [c4]; exact ⟨_,rfl,by kernel_rfl⟩
    . exfalso
      apply c
      unfold Rf.inV
      rw [if_neg c1,if_neg c2,if_neg c3,if_neg c5,if_neg c6,if_neg c4]
   rw [e1] at hl ⊢
   obtain ⟨q1,q2,q3⟩:=hl.head
   obtain ⟨s1,g1,g2,g3,g3'⟩:=g16amp (inn:=inn) (nm:=nm) hF hv hq q1 q2
   obtain ⟨t,g4,g5,g6⟩:=ref_walk (inn:=inn) (nm:=nm) (M:=M) (st:=17) (r:=r) (fun k hk => step17 hk) l [38] s1 (ps + 1) g2 g3 e2 q3
   refine ⟨_,g1.trans g4,⟨rfl,g5.how, ?_,g5.tx,g5.tg,g5.ats,g5.an, ?_⟩,g6.trans g3'⟩
   . show t.ps=_
     rw [g5.ps,List.length_cons]
     omega
   . show t.val ++ encodeRune r=_
     rw [g5.vl]
theorem val_all (hF : ∀ j,F j < 256) : ∀ (L:List Nat) {s:Wk} {ps:Nat} {vl:List UInt8},Vw s 16 ps tx tg ats an vl -> s.qt=34 -> (∀ r ∈ L,Ch.isT Ch.tab 0 ((r:Nat) : Int)=true) -> Lay F M ps (Rf.esc Rf.inV (cat L)) ->
 ∃ t,Steps inn nm F M s t /\ Vw t 16 (ps + (Rf.esc Rf.inV (cat L)).length) tx tg ats an (vl ++ cat L) /\ t.qt=34
 | [],s,ps,vl,hv,hq,_,_ => ⟨s, .refl _,by simpa [cat,Rf.esc] using hv,hq⟩
 | r :: L,s,ps,vl,hv,hq,hL,hl => by
   rw [cat_cons,Rf.esc_append] at hl ⊢
   obtain ⟨t,g1,g2,g2'⟩:=val_one (inn:=inn) (nm:=nm) hF hv hq (hL r (by simp)) hl.left
   obtain ⟨t2,g3,g4,g5⟩:=val_all hF L g2 g2' (fun q hq => hL q (by simp [hq])) hl.right
   refine ⟨t2,g1.trans g3, ?_,g5⟩
   rw [List.length_append, <- Nat.add_assoc, <- List.append_assoc]
   exact g4
theorem tag_all (hF : ∀ j,F j < 256) : ∀ (L:List Nat) {s:Wk} {ps:Nat} {tg:List UInt8},Vw s 9 ps tx tg ats an vl -> (∀ r ∈ L,Ch.isT Ch.tab 3 ((r:Nat) : Int)=true) -> Lay F M ps (cat L) ->
 ∃ t,Steps inn nm F M s t /\ Vw t 9 (ps + (cat L).length) tx (tg ++ cat L) ats an vl
 | [],s,ps,tg,hv,_,_ => ⟨s, .refl _,by simpa [cat] using hv⟩
 | r :: L,s,ps,tg,hv,hL,hl => by
   rw [cat_cons] at hl ⊢
   obtain ⟨t,g1,g2⟩:=g9ch (inn:=inn) (nm:=nm) hF hv (hL r (by simp)) hl.left
   have hl2:=hl.right
   rw [enc_length] at hl2
   obtain ⟨t2,g3,g4⟩:=tag_all hF L g2 (fun q hq => hL q (by simp [hq])) hl2
   refine ⟨t2,g1.trans g3, ?_⟩
   rw [List.length_append,enc_length, <- Nat.add_assoc, <- List.append_assoc]
   exact g4
theorem att_all (hF : ∀ j,F j < 256) : ∀ (L:List Nat) {s:Wk} {ps:Nat} {an:List UInt8},Vw s 13 ps tx tg ats an vl -> (∀ r ∈ L,Ch.isT Ch.tab 3 ((r:Nat) : Int)=true) -> Lay F M ps (cat L) ->
 ∃ t,Steps inn nm F M s t /\ Vw t 13 (ps + (cat L).length) tx tg ats (an ++ cat L) vl
 | [],s,ps,an,hv,_,_ => ⟨s, .refl _,by simpa [cat] using hv⟩
 | r :: L,s,ps,an,hv,hL,hl => by
   rw [cat_cons] at hl ⊢
   obtain ⟨t,g1,g2⟩:=g13ch (inn:=inn) (nm:=nm) hF hv (hL r (by simp)) hl.left
   have hl2:=hl.right
   rw [enc_length] at hl2
   obtain ⟨t2,g3,g4⟩:=att_all hF L g2 (fun q hq => hL q (by simp [hq])) hl2
   refine ⟨t2,g1.trans g3, ?_⟩
   rw [List.length_append,enc_length, <- Nat.add_assoc, <- List.append_assoc]
   exact g4
end
end Sc
end Go.Proofs.YteiiepjegdlbeaaDoor
namespace Go.Proofs.YteiiepjegdlbeaaDoor
open Go.RowKit Go.Lib
namespace Sc
open Rn
def Nmd (l:List UInt8) : Prop := ∃ (r:Nat) (L:List Nat),Ch.isT Ch.tab 2 (r:Nat)=true /\ (∀ q ∈ L,Ch.isT Ch.tab 3 ((q:Nat) : Int)=true) /\ l=cat (r :: L)
def Alw (l:List UInt8) : Prop := ∃ L:List Nat,(∀ r ∈ L,Ch.isT Ch.tab 0 ((r:Nat) : Int)=true) /\ l=cat L
def wrA1 (a:List UInt8 × List UInt8) : List UInt8:=32 :: (a.1 ++ (61 :: 34 :: (Rf.esc Rf.inV a.2 ++ [34])))
def wrA (l:List (List UInt8 × List UInt8)) : List UInt8:=l.flatMap wrA1
def wrG (kind:Nat) (tag:List UInt8) (ats:List (List UInt8 × List UInt8)) : List UInt8:=if kind=2 then 60 :: 47 :: (tag ++ [62]) else 60 :: (tag ++ (wrA ats ++ if kind=3 then [47,62] else [62]))
section
variable {inn:Nat} {nm:List UInt8} {F:Nat -> Nat} {M:Nat} {tx tg an vl:List UInt8} {ats:List (List UInt8 × List UInt8)}
theorem att_one (hF : ∀ j,F j < 256) {s:Wk} {st ps:Nat} (hst:st=9 \/ st=11) (hv:Vw s st ps tx tg ats an vl) {a:List UInt8 × List UInt8} (hn:Nmd a.1) (ha:Alw a.2) (hx:a.1 ∉ ats.map (·.1)) (hl:Lay F M ps (wrA1 a)) :
 ∃ t,Steps inn nm F M s t /\ Vw t 11 (ps + (wrA1 a).length) tx tg (ats ++ [a]) a.1 a.2:=by
 obtain ⟨n,v⟩:=a
 obtain ⟨r,L,h2,h3,rfl⟩:=hn
 obtain ⟨L2,h4,rfl⟩:=ha
 unfold wrA1 at hl ⊢
 simp only at hl ⊢ hx
 obtain ⟨q1,q2,q3⟩:=hl.head
 obtain ⟨s1,g1,v1⟩ : ∃ t,Steps inn nm F M s t /\ Vw t 10 (ps + 1) tx tg ats an vl:=by
  rcases hst with rfl | rfl
  . exact g9b hF hv q1 q2
  . exact g11b hF hv q1 q2
 have l1:=q3.left
 have l2:=q3.right
 rw [cat_cons] at l1
 obtain ⟨s2,g2,v2⟩:=g10ch (inn:=inn) (nm:=nm) hF v1 h2 l1.left
 have l1':=l1.right
 rw [enc_length] at l1'
 obtain ⟨s3,g3,v3⟩:=att_all (inn:=inn) (nm:=nm) hF L v2 h3 l1'
 rw [<- cat_cons] at v3
 have e3:ps + 1 + el r + (cat L).length=ps + 1 + (cat (r :: L)).length:=by rw [cat_cons,List.length_append,enc_length]; omega
 rw [e3] at v3
 obtain ⟨q4,q5,q6⟩:=l2.head
 obtain ⟨s4,g4,v4⟩:=g13eq (inn:=inn) (nm:=nm) hF v3 hx q4 q5
 obtain ⟨q7,q8,q9⟩:=q6.head
 obtain ⟨s5,g5,v5,e5⟩:=g15q (inn:=inn) (nm:=nm) hF v4 q7 q8
 obtain ⟨s6,g6,v6,e6⟩:=val_all (inn:=inn) (nm:=nm) hF L2 v5 e5 h4 q9.left
 rw [List.nil_append] at v6
 obtain ⟨q10,q11,_⟩:=q9.right.head
 obtain ⟨s7,g7,v7⟩:=g16q (inn:=inn) (nm:=nm) hF v6 e6 q10 q11
 refine ⟨s7,g1.trans (g2.trans (g3.trans (g4.trans (g5.trans (g6.trans g7))))), ?_⟩
 have e:ps + (32 :: (cat (r :: L) ++ (61 :: 34 :: (Rf.esc Rf.inV (cat L2) ++ [34])))).length=ps + 1 + (cat (r :: L)).length + 1 + 1 + (Rf.esc Rf.inV (cat L2)).length + 1:=by
  simp only [List.length_cons,List.length_append,List.length_nil]
  omega
 rw [e]
 exact v7
theorem att_list (hF : ∀ j,F j < 256) : ∀ (l:List (List UInt8 × List UInt8)) {s:Wk} {st ps:Nat} {ats:List (List UInt8 × List UInt8)} {an vl:List UInt8},(st=9 \/ st=11) -> Vw s st ps tx tg ats an vl -> (∀ a ∈ l,Nmd a.1 /\ Alw a.2) -> ((ats ++ l).map (·.1)).Nodup -> Lay F M ps (wrA l) ->
 ∃ t st' an' vl',Steps inn nm F M s t /\ (st'=9 \/ st'=11) /\ Vw t st' (ps + (wrA l).length) tx tg (ats ++ l) an' vl'
 | [],s,st,ps,ats,an,vl,hst,hv,_,_,_ => ⟨s,st,an,vl, .refl _,hst,by simpa [wrA] using hv⟩
 | a :: l,s,st,ps,ats,an,vl,hst,hv,hg,hn,hl => by
   have e:wrA (a :: l)=wrA1 a ++ wrA l:=by simp [wrA]
   rw [e] at hl ⊢
   have hx:a.1 ∉ ats.map (·.1):=by
    rw [List.map_append,List.map_cons,List.nodup_append] at hn
    intro q
    exact hn.2.2 a.1 q a.1 (by simp) rfl
   obtain ⟨t,g1,g2⟩:=att_one (inn:=inn) (nm:=nm) hF hst hv (hg a (by simp)).1 (hg a (by simp)).2 hx hl.left
   obtain ⟨t2,st',an',vl',g3,g4,g5⟩:=att_list hF l (.inr rfl) g2 (fun b hb => hg b (by simp [hb])) (by rw [List.append_assoc]; exact hn) hl.right
   refine ⟨t2,st',an',vl',g1.trans g3,g4, ?_⟩
   rw [List.length_append, <- Nat.add_assoc]
   rw [List.append_assoc] at g5
   exact g5
structure Gdk (inn:Nat) (nm tx:List UInt8) (kind:Nat) (tg:List UInt8) (ats:List (List UInt8 × List UInt8)) : Prop where
 alw:Alw tx
 no:inn ≠ 1 -> tx = []
 two:kind=2 -> inn=1 /\ tg=nm /\ ats = []
 one:kind ≠ 2 -> (kind=1 \/ kind=3) /\ inn ≠ 2 /\ Nmd tg /\ (∀ a ∈ ats,Nmd a.1 /\ Alw a.2) /\ (ats.map (·.1)).Nodup
theorem walk_back (hF : ∀ j,F j < 256) {kind:Nat} (hg:Gdk inn nm tx kind tg ats) (hl:Lay F M 0 (Rf.esc Rf.inT tx ++ wrG kind tg ats)) :
 ∃ k,Steps inn nm F M {} k /\ k.how=0 /\ k.kind=kind /\ k.ps=(Rf.esc Rf.inT tx ++ wrG kind tg ats).length /\ k.text=tx /\ k.tag=tg /\ k.attrs=ats:=by
 have v0:Vw {} 0 0 [] [] [] [] []:=⟨rfl,rfl,rfl,rfl,rfl,rfl,rfl,rfl⟩
 obtain ⟨s1,g1,v1⟩ : ∃ t,Steps inn nm F M {} t /\ Vw t 0 (0 + (Rf.esc Rf.inT tx).length) tx [] [] [] []:=by
  by_cases hi:inn=1
  . obtain ⟨L,h1,h2⟩:=hg.alw
    have h3:=hl.left
    rw [h2] at h3 ⊢
    exact txt_all (nm:=nm) hF hi L v0 h1 h3
  . rw [hg.no hi]
    exact ⟨_, .refl _,v0⟩
 have hr:=hl.right
 rw [List.length_append]
 generalize (Rf.esc Rf.inT tx).length=d at v1 hr
 unfold wrG at hr ⊢
 by_cases hk:kind=2
 . rw [if_pos hk] at hr ⊢
   obtain ⟨hi,rfl,rfl⟩:=hg.two hk
   obtain ⟨q1,q2,q3⟩:=hr.head
   obtain ⟨s2,g2,v2,e2⟩:=g0lt (inn:=inn) (nm:=tg) hF v1 q1 q2
   obtain ⟨q4,q5,q6⟩:=q3.head
   obtain ⟨s3,g3,v3,e3⟩:=g2sl (nm:=tg) hF v2 hi (by omega) q4 q5
   obtain ⟨s4,g4,v4⟩:=g18 (inn:=inn) (nm:=tg) (F:=F) (M:=M) tg.length v3 (by omega) (by omega) (by rw [show 0 + d + 1 + 1 - s3.tg - 2=0 by omega]; exact q6.left)
   obtain ⟨q7,q8,_⟩:=q6.right.head
   obtain ⟨s5,g5,a1,a2,a3,a4,a5,a6⟩:=g19gt (inn:=inn) (nm:=tg) hF v4 q7 q8
   refine ⟨s5,g1.trans (g2.trans (g3.trans (g4.trans g5))),a1,a2.trans hk.symm, ?_,a4,a5,a6⟩
   rw [a3]
   simp only [List.length_cons,List.length_append,List.length_nil]
   omega
 . rw [if_neg hk] at hr ⊢
   obtain ⟨h1,h2,h3,h4,h5⟩:=hg.one hk
   obtain ⟨r,L,n1,n2,n3⟩:=h3
   obtain ⟨q1,q2,q3⟩:=hr.head
   obtain ⟨s2,g2,v2,e2⟩:=g0lt (inn:=inn) (nm:=nm) hF v1 q1 q2
   have l1:=q3.left
   have l2:=q3.right
   have etg:tg.length=el r + (cat L).length:=by rw [n3,cat_cons,List.length_append,enc_length]
   rw [n3,cat_cons] at l1
   obtain ⟨s3,g3,v3⟩:=g2ch (nm:=nm) hF v2 h2 n1 l1.left
   have l1':=l1.right
   rw [enc_length] at l1'
   obtain ⟨s4,g4,v4⟩:=tag_all (inn:=inn) (nm:=nm) hF L v3 n2 l1'
   rw [List.nil_append, <- cat_cons, <- n3] at v4
   have e4:0 + d + 1 + el r + (cat L).length=0 + d + 1 + tg.length:=by omega
   rw [e4] at v4
   obtain ⟨s5,st5,an5,vl5,g5,hst,v5⟩:=att_list (inn:=inn) (nm:=nm) hF ats (.inl rfl) v4 h4 h5 l2.left
   rw [List.nil_append] at v5
   have l3:=l2.right
   have hst5:Steps inn nm F M {} s5:=g1.trans (g2.trans (g3.trans (g4.trans g5)))
   by_cases hk3:kind=3
   . rw [if_pos hk3] at l3 ⊢
     obtain ⟨q4,q5,q6⟩:=l3.head
     obtain ⟨q7,q8,_⟩:=q6.head
     obtain ⟨s6,g6,v6⟩ : ∃ t,Steps inn nm F M s5 t /\ Vw t 12 (0 + d + 1 + tg.length + (wrA ats).length + 1) tx tg ats an5 vl5:=by
      rcases hst with rfl | rfl
      . exact g9sl hF v5 q4 q5
      . exact g11sl hF v5 q4 q5
     obtain ⟨s7,g7,a1,a2,a3,a4,a5,a6⟩:=g12gt (inn:=inn) (nm:=nm) hF v6 q7 q8
     refine ⟨s7,hst5.trans (g6.trans g7),a1,a2.trans hk3.symm, ?_,a4,a5,a6⟩
     rw [a3]
     simp only [List.length_cons,List.length_append,List.length_nil]
     omega
   . have hk1:kind=1:=by omega
     rw [if_neg hk3] at l3 ⊢
     obtain ⟨q4,q5,_⟩:=l3.head
     obtain ⟨s6,g6,a1,a2,a3,a4,a5,a6⟩ : ∃ t,Steps inn nm F M s5 t /\ t.how=0 /\ t.kind=1 /\ t.ps=0 + d + 1 + tg.length + (wrA ats).length + 1 /\ t.text=tx /\ t.tag=tg /\ t.attrs=ats:=by
      rcases hst with rfl | rfl
      . exact g9gt hF v5 q4 q5
      . exact g11gt hF v5 q4 q5
     refine ⟨s6,hst5.trans g6,a1,a2.trans hk1.symm, ?_,a4,a5,a6⟩
     rw [a3]
     simp only [List.length_cons,List.length_append,List.length_nil]
     omega
end
end Sc
end Go.Proofs.YteiiepjegdlbeaaDoor
namespace Go.Proofs.YteiiepjegdlbeaaDoor
open Go.RowKit Go.Lib
namespace Rf
theorem rn_alw {f:Nat -> Nat} {base c:Nat} : ∀ (k a v:Nat),(rn f base c k a v).2.2=0 -> Ch.isT Ch.tab 0 ((rn f base c k a v).1:Nat)=true
 | 0,_,_,h => by cases h
 | k + 1,a,v,h => by
   rw [rn_succ] at h ⊢
   by_cases q:isD c (f a)=true
   . rw [if_pos q] at h ⊢
     by_cases p:1114111 < v * base + dv (f a)
     . rw [if_pos p] at h; cases h
     . rw [if_neg p] at h ⊢
       exact rn_alw k (a + 1) _ h
   . rw [if_neg q] at h ⊢
     by_cases p:f a=59 /\ Ch.isT Ch.tab 0 (v:Int)=true
     . rw [if_pos p]
       exact p.2
     . rw [if_neg p] at h; cases h
theorem nmT_alw:(nmT.all fun e => Ch.isT Ch.tab 0 (e.2:Nat))=true:=by kernel_rfl
theorem rd_alw {f:Nat -> Nat} {n:Nat} (h:(rd f n).2.2=0) : Ch.isT Ch.tab 0 ((rd f n).1:Nat)=true:=by
 unfold rd at h ⊢
 split
 . next q => rw [if_pos q] at h; cases h
 . next q =>
   rw [if_neg q] at h
   split
   . next p => rw [if_pos p] at h; cases h
   . next p =>
     rw [if_neg p] at h
     split
     . next r =>
       rw [if_pos r] at h
       rcases nm_ways f n with ⟨e,he,_,z,_⟩ | ⟨_,_,z⟩ | ⟨_,_,z⟩
       . rw [z]
         exact List.all_eq_true.1 nmT_alw e he
       . rw [z] at h; cases h
       . rw [z] at h; cases h
     . next r =>
       rw [if_neg r] at h
       unfold rdN at h ⊢
       split
       . next t => rw [if_pos t] at h; exact rn_alw _ _ _ h
       . next t => rw [if_neg t] at h; exact rn_alw _ _ _ h
end Rf
namespace Sc
open Rn
theorem Alw.nil:Alw []:=⟨[],by simp,rfl⟩
theorem Alw.snoc {l:List UInt8} (h:Alw l) {r:Nat} (hr:Ch.isT Ch.tab 0 (r:Nat)=true) : Alw (l ++ encodeRune r):=by
 obtain ⟨L,q,rfl⟩:=h
 refine ⟨L ++ [r],fun x hx => ?_, ?_⟩
 . rcases List.mem_append.1 hx with e | e
   . exact q x e
   . rw [List.mem_singleton.1 e]
     exact hr
 . rw [cat_append,cat_cons]
   simp [cat]
theorem Nmd.snoc {l:List UInt8} (h:Nmd l) {r:Nat} (hr:Ch.isT Ch.tab 3 (r:Nat)=true) : Nmd (l ++ encodeRune r):=by
 obtain ⟨a,L,q1,q2,rfl⟩:=h
 refine ⟨a,L ++ [r],q1,fun x hx => ?_, ?_⟩
 . rcases List.mem_append.1 hx with e | e
   . exact q2 x e
   . rw [List.mem_singleton.1 e]
     exact hr
 . rw [show a :: (L ++ [r])=(a :: L) ++ [r] by rfl,cat_append]
   simp [cat]
theorem Nmd.new {r:Nat} (hr:Ch.isT Ch.tab 2 (r:Nat)=true) : Nmd (encodeRune r):=⟨r, [],hr,by simp,by simp [cat]⟩
theorem nx_all {f:Nat -> Nat} {n a:Nat} {c:Int} {sg:List Nat} (h:(nx f n a c sg).1=0) : (Ch.isT Ch.tab c ((nx f n a c sg).2.1:Nat)=true \/ (nx f n a c sg).2.1 ∈ sg) /\ ((nx f n a c sg).2.1 < 128 -> a < n /\ (f a=(nx f n a c sg).2.1 \/ ((nx f n a c sg).2.1=10 /\ f a=13))):=by
 unfold nx at h ⊢
 split at h
 . next hc =>
   rw [if_pos hc]
   refine ⟨hc.2,fun h1 => ?_⟩
   have hh:=hc.1
   unfold Fd.pk at hh h1 ⊢
   by_cases hw:Rn.whole (Rn.off f a) (n - a)=true
   . rw [if_pos hw] at hh h1 ⊢
     have han:a < n:=by
      rcases Nat.lt_or_ge a n with q | q
      . exact q
      . exfalso
        have:n - a=0:=by omega
        rw [this] at hw
        unfold Rn.whole Rn.fs at hw
        simp at hw
     refine ⟨han, ?_⟩
     by_cases c13:Rn.fv (Rn.off f a)=13
     . rw [if_pos c13] at hh h1 ⊢
       have ha:f a=13:=by
        by_cases q:Rn.off f a 0 < 128
        . exact (fv_one hw q).1.symm.trans c13
        . have:=fv_first hw (by omega)
          omega
       by_cases c1:a + 1 < n
       . rw [if_pos c1]
         refine .inr ⟨?_,ha⟩
         split <;> rfl
       . rw [if_neg c1] at hh
         simp at hh
     . rw [if_neg c13] at h1 ⊢
       have h1':Rn.fv (Rn.off f a) < 128:=h1
       refine .inl ?_
       by_cases q:Rn.off f a 0 < 128
       . exact (fv_one hw q).1.symm
       . have:=fv_first hw (by omega)
         omega
   . exfalso
     rw [if_neg hw] at hh
     by_cases c1:n <= a
     . rw [if_pos c1] at hh; simp at hh
     . rw [if_neg c1] at hh
       split at hh <;> simp at hh
 . split at h
   . cases h
   . split at h <;> cases h
theorem onNx_j {f:Nat -> Nat} {n a:Nat} {c:Int} {sg:List Nat} {s t:Wk} {k:Nat -> Wk -> Wk} {P:Wk -> Prop} (h:onNx (nx f n a c sg) s k=some t) (hfail : ∀ b,P (s.fails b)) (hk : ∀ r w,(Ch.isT Ch.tab c (r:Nat)=true \/ r ∈ sg) -> (r < 128 -> a < n /\ (f a=r \/ (r=10 /\ f a=13))) -> P (k r (s.took w))) : P t:=by
 unfold onNx at h
 split at h
 . next hz =>
   cases h
   obtain ⟨q1,q2⟩:=nx_all hz
   exact hk _ _ q1 q2
 . split at h
   . cases h
     exact hfail _
   . cases h
theorem onRef_j {f:Nat -> Nat} {n:Nat} {s t:Wk} {k:Nat -> Wk -> Wk} {P:Wk -> Prop} (h:onRef f n s k=some t) (hfail : ∀ l b,P ({ s with ref:=l }.fails b)) (hon : ∀ l p,P { s with ref:=l,ps:=p }) (hk : ∀ r l p,Ch.isT Ch.tab 0 (r:Nat)=true -> P (k r { s with ref:=l,ps:=p })) : P t:=by
 unfold onRef at h
 split at h
 . cases h
 . split at h
   . cases h
     exact hfail _ _
   . split at h
     . next hz =>
       cases h
       exact hk _ _ _ (Rf.rd_alw hz)
     . cases h
       exact hon _ _
structure Iv (inn:Nat) (nm:List UInt8) (s:Wk) : Prop where
 tx:Alw s.text
 no:inn ≠ 1 -> s.text = []
 cd:s.st=8 -> ∃ L,(∀ r ∈ L,Ch.isT Ch.tab 0 ((r:Nat) : Int)=true) /\ s.text=cat (L ++ List.replicate s.ct 93)
 i1:s.st=1 \/ s.st=7 \/ s.st=8 \/ s.st=18 \/ s.st=19 -> inn=1
 tg0:s.st <= 8 \/ 18 <= s.st -> s.tag = [] /\ s.attrs = []
 tg1:9 <= s.st -> s.st <= 17 -> inn ≠ 2 /\ Nmd s.tag
 ats : ∀ a ∈ s.attrs,Nmd a.1 /\ Alw a.2
 nod:(s.attrs.map (·.1)).Nodup
 an:13 <= s.st -> s.st <= 17 -> Nmd s.attr
 new:14 <= s.st -> s.st <= 17 -> s.attr ∉ s.attrs.map (·.1)
 vl:s.st=16 \/ s.st=17 -> Alw s.val
 top:s.st <= 19
def Jv (inn:Nat) (nm:List UInt8) (s:Wk) : Prop:=(s.how=1 -> Iv inn nm s) /\ (s.how=0 -> Gdk inn nm s.text s.kind s.tag s.attrs)
end Sc
end Go.Proofs.YteiiepjegdlbeaaDoor
namespace Go.Proofs.YteiiepjegdlbeaaDoor
open Go.RowKit Go.Lib
namespace Sc
open Rn
section
variable {inn:Nat} {nm:List UInt8} {f:Nat -> Nat} {n:Nat} {s t:Wk}
theorem Jv.bad {k:Wk} (h:k.how=2) : Jv inn nm k:=⟨fun e => (by omega),fun e => (by omega)⟩
theorem Jv.on {k:Wk} (h:k.how=1) (g:Iv inn nm k) : Jv inn nm k:=⟨fun _ => g,fun e => (by omega)⟩
theorem Jv.end {k:Wk} (h:k.how=0) (g:Gdk inn nm k.text k.kind k.tag k.attrs) : Jv inn nm k:=⟨fun e => (by omega),fun _ => g⟩
theorem iv_a {k:Wk} (h:k.st <= 7) (h1:Alw k.text) (h2:inn ≠ 1 -> k.text = []) (h3:k.st=1 \/ k.st=7 -> inn=1) (h4:k.tag = [] /\ k.attrs = []) : Iv inn nm k :=
 ⟨h1,h2,fun e => (by omega),fun e => h3 (by omega),fun _ => h4,fun e => (by omega),fun a m => (by rw [h4.2] at m; cases m),(by rw [h4.2]; exact List.Pairwise.nil),fun e => (by omega),fun e => (by omega),fun e => (by omega),(by omega)⟩
theorem iv_b {k:Wk} (h:9 <= k.st) (h':k.st <= 12) (h1:Alw k.text) (h2:inn ≠ 1 -> k.text = []) (h3:inn ≠ 2 /\ Nmd k.tag) (h4 : ∀ a ∈ k.attrs,Nmd a.1 /\ Alw a.2) (h5:(k.attrs.map (·.1)).Nodup) : Iv inn nm k :=
 ⟨h1,h2,fun e => (by omega),fun e => (by omega),fun e => (by omega),fun _ _ => h3,h4,h5,fun e => (by omega),fun e => (by omega),fun e => (by omega),(by omega)⟩
theorem iv_c {k:Wk} (h:13 <= k.st) (h':k.st <= 17) (h1:Alw k.text) (h2:inn ≠ 1 -> k.text = []) (h3:inn ≠ 2 /\ Nmd k.tag) (h4 : ∀ a ∈ k.attrs,Nmd a.1 /\ Alw a.2) (h5:(k.attrs.map (·.1)).Nodup) (h6:Nmd k.attr) (h7:14 <= k.st -> k.attr ∉ k.attrs.map (·.1)) (h8:k.st=16 \/ k.st=17 -> Alw k.val) : Iv inn nm k :=
 ⟨h1,h2,fun e => (by omega),fun e => (by omega),fun e => (by omega),fun _ _ => h3,h4,h5,fun _ _ => h6,fun e _ => h7 e,h8,(by omega)⟩
theorem iv_d {k:Wk} (h:k.st=18 \/ k.st=19) (h1:Alw k.text) (h2:inn=1) (h4:k.tag = [] /\ k.attrs = []) : Iv inn nm k :=
 ⟨h1,fun e => absurd h2 e,fun e => (by omega),fun _ => h2,fun _ => h4,fun e => (by omega),fun a m => (by rw [h4.2] at m; cases m),(by rw [h4.2]; exact List.Pairwise.nil),fun e => (by omega),fun e => (by omega),fun e => (by omega),(by omega)⟩
theorem iv_8 {k:Wk} (h:k.st=8) (hi:inn=1) (L:List Nat) (hL : ∀ r ∈ L,Ch.isT Ch.tab 0 ((r:Nat) : Int)=true) (e:k.text=cat (L ++ List.replicate k.ct 93)) (h4:k.tag = [] /\ k.attrs = []) : Iv inn nm k:=by
 refine ⟨⟨L ++ List.replicate k.ct 93,fun r hr => ?_,e⟩,fun q => absurd hi q,fun _ => ⟨L,hL,e⟩,fun _ => hi,fun _ => h4,fun e => (by omega),fun a m => (by rw [h4.2] at m; cases m),(by rw [h4.2]; exact List.Pairwise.nil),fun e => (by omega),fun e => (by omega),fun e => (by omega),(by omega)⟩
 rcases List.mem_append.1 hr with q | q
 . exact hL r q
 . rw [List.eq_of_mem_replicate q]
   kernel_rfl
theorem gdk_one (hs:Iv inn nm s) (h:9 <= s.st) (h':s.st <= 17) {kind:Nat} (hk:kind=1 \/ kind=3) : Gdk inn nm s.text kind s.tag s.attrs :=
 ⟨hs.tx,hs.no,fun e => (by omega),fun _ => ⟨hk,(hs.tg1 h h').1,(hs.tg1 h h').2,hs.ats,hs.nod⟩⟩
theorem cat_take (L:List Nat) (m:Nat) : (cat (L ++ List.replicate (m + 2) 93)).take ((cat (L ++ List.replicate (m + 2) 93)).length - 2)=cat (L ++ List.replicate m 93):=by
 have e:cat (L ++ List.replicate (m + 2) 93)=cat (L ++ List.replicate m 93) ++ [93,93]:=by
  rw [show List.replicate (m + 2) 93=List.replicate m 93 ++ [93,93] by rw [<- List.replicate_append_replicate]; rfl, <- List.append_assoc,cat_append]
  rfl
 rw [e,List.length_append,show ([93,93] : List UInt8).length=2 from rfl,Nat.add_sub_cancel,List.take_left']
 rfl
theorem no6 (v:Nat) : Ch.isT Ch.tab 6 (v:Int) ≠ true:=by
 have e:Ch.pick Ch.tab 6 = []:=by decide +kernel
 rw [Ch.isT_eq,e]
 exact Bool.false_ne_true
theorem sign_no {r:Nat} {sg:List Nat} (h:Ch.isT Ch.tab 6 (r:Nat)=true \/ r ∈ sg) : r ∈ sg:=h.resolve_left (no6 r)
theorem step_iv (h1:s.how=1) (h:step inn nm f n s=some t) (hs:Iv inn nm s) : Jv inn nm t:=by
 have jf : ∀ b,Jv inn nm (s.fails b):=fun b => .bad rfl
 by_cases c0:s.st=0
 . rw [step0 c0] at h
   have h4:=hs.tg0 (by omega)
   refine onNx_j (P:=Jv inn nm) h jf fun r w hc hb => ?_
   by_cases q1:r=60
   . rw [if_pos q1]
     exact .on h1 (iv_a (by show 2 <= 7; omega) hs.tx hs.no (fun e => (by have:(2:Nat)=1 \/ (2:Nat)=7:=e; omega)) h4)
   rw [if_neg q1]
   by_cases q2:inn ≠ 1
   . rw [if_pos q2]
     exact .on h1 (iv_a (by show s.st <= 7; omega) hs.tx hs.no (fun e => (by have:s.st=1 \/ s.st=7:=e; omega)) h4)
   rw [if_neg q2]
   have hi:inn=1:=by omega
   have hr:Ch.isT Ch.tab 0 (r:Nat)=true:=by
    rcases hc with e | e
    . rw [if_pos hi] at e; exact e
    . exact absurd (List.mem_singleton.1 e) q1
   by_cases q3:r=38
   . rw [if_pos q3]
     exact .on h1 (iv_a (by show 1 <= 7; omega) hs.tx hs.no (fun _ => hi) h4)
   rw [if_neg q3]
   split
   . exact .bad rfl
   . exact .on h1 (iv_a (by show s.st <= 7; omega) (hs.tx.snoc hr) (fun e => absurd hi e) (fun _ => hi) h4)
 by_cases c1:s.st=1
 . rw [step1 c1] at h
   have h4:=hs.tg0 (by omega)
   have hi:=hs.i1 (.inl c1)
   refine onRef_j (P:=Jv inn nm) h (fun _ _ => .bad rfl) (fun l p => .on h1 (iv_a (by show s.st <= 7; omega) hs.tx hs.no (fun _ => hi) h4)) fun r l p hr => ?_
   exact .on h1 (iv_a (by show 0 <= 7; omega) (hs.tx.snoc hr) (fun e => absurd hi e) (fun _ => hi) h4)
 by_cases c2:s.st=2
 . rw [step2 c2] at h
   have h4:=hs.tg0 (by omega)
   refine onNx_j (P:=Jv inn nm) h jf fun r w hc hb => ?_
   by_cases q1:r=33
   . rw [if_pos q1]
     exact .on h1 (iv_a (by show 3 <= 7; omega) hs.tx hs.no (fun e => (by have:(3:Nat)=1 \/ (3:Nat)=7:=e; omega)) h4)
   rw [if_neg q1]
   by_cases q2:r=47
   . rw [if_pos q2]
     have hi:inn=1:=by
      by_cases hi:inn=1
      . exact hi
      . exfalso
        rw [if_neg hi] at hc
        rcases hc with e | e
        . rw [q2] at e
          by_cases h2:inn=2
          . rw [if_pos h2] at e; exact no6 _ e
          . rw [if_neg h2] at e
            have:=nst 47 e
            omega
        . rw [q2] at e; simp at e
     exact .on h1 (iv_d (.inl rfl) hs.tx hi h4)
   rw [if_neg q2]
   have hr:inn ≠ 2 /\ Ch.isT Ch.tab 2 (r:Nat)=true:=by
    rcases hc with e | e
    . by_cases h2 : inn = 2
      . rw [if_pos h2] at e
        exact absurd e (no6 _)
      . rw [if_neg h2] at e
        exact ⟨h2,e⟩
    . exfalso
      split at e <;> simp at e <;> omega
   refine .on h1 (iv_b (by show 9 <= 9; omega) (by show 9 <= 12; omega) hs.tx hs.no ⟨hr.1, ?_⟩ hs.ats hs.nod)
   show Nmd (s.tag ++ encodeRune r)
   rw [h4.1]
   exact Nmd.new hr.2
 by_cases c3:s.st=3
 . rw [step3 c3] at h
   have h4:=hs.tg0 (by omega)
   refine onNx_j (P:=Jv inn nm) h jf fun r w hc hb => ?_
   have hm:=sign_no hc
   by_cases q1:r=91
   . rw [if_pos q1]
     have hi:inn=1:=by
      by_cases hi:inn=1
      . exact hi
      . rw [if_neg hi] at hm
        rw [q1] at hm
        simp at hm
     exact .on h1 (iv_a (by show 7 <= 7; omega) hs.tx hs.no (fun _ => hi) h4)
   . rw [if_neg q1]
     exact .on h1 (iv_a (by show 4 <= 7; omega) hs.tx hs.no (fun e => (by have:(4:Nat)=1 \/ (4:Nat)=7:=e; omega)) h4)
 by_cases c4:s.st=4
 . rw [step4 c4] at h
   have h4:=hs.tg0 (by omega)
   refine onNx_j (P:=Jv inn nm) h jf fun r w hc hb => ?_
   exact .on h1 (iv_a (by show 5 <= 7; omega) hs.tx hs.no (fun e => (by have:(5:Nat)=1 \/ (5:Nat)=7:=e; omega)) h4)
 by_cases c5:s.st=5
 . rw [step5 c5] at h
   have h4:=hs.tg0 (by omega)
   refine onNx_j (P:=Jv inn nm) h jf fun r w hc hb => ?_
   split
   . exact .on h1 (iv_a (by show s.st <= 7; omega) hs.tx hs.no (fun e => (by have:s.st=1 \/ s.st=7:=e; omega)) h4)
   . exact .on h1 (iv_a (by show 6 <= 7; omega) hs.tx hs.no (fun e => (by have:(6:Nat)=1 \/ (6:Nat)=7:=e; omega)) h4)
 by_cases c6:s.st=6
 . rw [step6 c6] at h
   have h4:=hs.tg0 (by omega)
   refine onNx_j (P:=Jv inn nm) h jf fun r w hc hb => ?_
   exact .on h1 (iv_a (by show 0 <= 7; omega) hs.tx hs.no (fun e => (by have:(0:Nat)=1 \/ (0:Nat)=7:=e; omega)) h4)
 by_cases c7:s.st=7
 . rw [step7' c7] at h
   have h4:=hs.tg0 (by omega)
   have hi:=hs.i1 (by omega)
   refine onNx_j (P:=Jv inn nm) h jf fun r w hc hb => ?_
   split
   . exact .on h1 (iv_a (by show s.st <= 7; omega) hs.tx hs.no (fun _ => hi) h4)
   . obtain ⟨L,q1,q2⟩:=hs.tx
     exact .on h1 (iv_8 rfl hi L q1 (by show s.text=cat (L ++ List.replicate 0 93); rw [q2]; simp) h4)
 by_cases c8:s.st=8
 . rw [step8 c8] at h
   have h4:=hs.tg0 (by omega)
   have hi:=hs.i1 (by omega)
   obtain ⟨L,q1,q2⟩:=hs.cd c8
   refine onNx_j (P:=Jv inn nm) h jf fun r w hc hb => ?_
   have hr:Ch.isT Ch.tab 0 (r:Nat)=true:=by
    rcases hc with e | e
    . exact e
    . cases e
   by_cases q3:r=62 /\ 2 <= (s.took w).ct
   . rw [if_pos q3]
     have q4:2 <= s.ct:=q3.2
     refine .on h1 (iv_a (by show 0 <= 7; omega) ?_ (fun e => absurd hi e) (fun _ => hi) h4)
     show Alw (s.text.take (s.text.length - 2))
     obtain ⟨m,hm⟩ : ∃ m,s.ct=m + 2:=⟨s.ct - 2,by omega⟩
     rw [q2,hm,cat_take]
     refine ⟨_,fun x hx => ?_,rfl⟩
     rcases List.mem_append.1 hx with e | e
     . exact q1 x e
     . rw [List.eq_of_mem_replicate e]
       kernel_rfl
   . rw [if_neg q3]
     by_cases q5:r=93
     . refine .on h1 (iv_8 c8 hi L q1 ?_ h4)
       show s.text ++ encodeRune r=cat (L ++ List.replicate (if r=93 then s.ct + 1 else 0) 93)
       rw [if_pos q5,q2,q5,List.replicate_succ', <- List.append_assoc,cat_append (L ++ List.replicate s.ct 93)]
       simp [cat]
     . refine .on h1 (iv_8 c8 hi (L ++ List.replicate s.ct 93 ++ [r]) (fun x hx => ?_) ?_ h4)
       . rcases List.mem_append.1 hx with e | e
         . rcases List.mem_append.1 e with e | e
           . exact q1 x e
           . rw [List.eq_of_mem_replicate e]
             kernel_rfl
         . rw [List.mem_singleton.1 e]
           exact hr
       . show s.text ++ encodeRune r=cat (L ++ List.replicate s.ct 93 ++ [r] ++ List.replicate (if r=93 then s.ct + 1 else 0) 93)
         rw [if_neg q5,q2,List.replicate_zero,List.append_nil,cat_append (L ++ List.replicate s.ct 93)]
         simp [cat]
 by_cases c9:s.st=9
 . rw [step9 c9] at h
   have h3:=hs.tg1 (by omega) (by omega)
   refine onNx_j (P:=Jv inn nm) h jf fun r w hc hb => ?_
   by_cases q1:r=47
   . rw [if_pos q1]
     exact .on h1 (iv_b (by show 9 <= 12; omega) (by show 12 <= 12; omega) hs.tx hs.no h3 hs.ats hs.nod)
   rw [if_neg q1]
   by_cases q2:r=62
   . rw [if_pos q2]
     exact .end rfl (gdk_one hs (by omega) (by omega) (.inl rfl))
   rw [if_neg q2]
   by_cases q3:isB r=true
   . rw [if_pos q3]
     exact .on h1 (iv_b (by show 9 <= 10; omega) (by show 10 <= 12; omega) hs.tx hs.no h3 hs.ats hs.nod)
   rw [if_neg q3]
   have hr:Ch.isT Ch.tab 3 (r:Nat)=true:=by
    rcases hc with e | e
    . exact e
    . exfalso
      rw [isB_eq,decide_eq_true_eq] at q3
      simp [bl] at e
      omega
   exact .on h1 (iv_b (by show 9 <= s.st; omega) (by show s.st <= 12; omega) hs.tx hs.no ⟨h3.1,h3.2.snoc hr⟩ hs.ats hs.nod)
 by_cases c10:s.st=10
 . rw [step10 c10] at h
   have h3:=hs.tg1 (by omega) (by omega)
   refine onNx_j (P:=Jv inn nm) h jf fun r w hc hb => ?_
   by_cases q1:r=47
   . rw [if_pos q1]
     exact .on h1 (iv_b (by show 9 <= 12; omega) (by show 12 <= 12; omega) hs.tx hs.no h3 hs.ats hs.nod)
   rw [if_neg q1]
   by_cases q2:r=62
   . rw [if_pos q2]
     exact .end rfl (gdk_one hs (by omega) (by omega) (.inl rfl))
   rw [if_neg q2]
   by_cases q3:isB r=true
   . rw [if_pos q3]
     exact .on h1 (iv_b (by show 9 <= s.st; omega) (by show s.st <= 12; omega) hs.tx hs.no h3 hs.ats hs.nod)
   rw [if_neg q3]
   have hr:Ch.isT Ch.tab 2 (r:Nat)=true:=by
    rcases hc with e | e
    . exact e
    . exfalso
      rw [isB_eq,decide_eq_true_eq] at q3
      simp [bl] at e
      omega
   exact .on h1 (iv_c (by show 13 <= 13; omega) (by show 13 <= 17; omega) hs.tx hs.no h3 hs.ats hs.nod (Nmd.new hr) (fun e => (by have:14 <= 13:=e; omega)) (fun e => (by have:(13:Nat)=16 \/ (13:Nat)=17:=e; omega)))
 by_cases c11:s.st=11
 . rw [step11 c11] at h
   have h3:=hs.tg1 (by omega) (by omega)
   refine onNx_j (P:=Jv inn nm) h jf fun r w hc hb => ?_
   by_cases q2:r=62
   . rw [if_pos q2]
     exact .end rfl (gdk_one hs (by omega) (by omega) (.inl rfl))
   rw [if_neg q2]
   split
   . exact .on h1 (iv_b (by show 9 <= 12; omega) (by show 12 <= 12; omega) hs.tx hs.no h3 hs.ats hs.nod)
   . exact .on h1 (iv_b (by show 9 <= 10; omega) (by show 10 <= 12; omega) hs.tx hs.no h3 hs.ats hs.nod)
 by_cases c12:s.st=12
 . rw [step12 c12] at h
   refine onNx_j (P:=Jv inn nm) h jf fun r w hc hb => ?_
   exact .end rfl (gdk_one hs (by omega) (by omega) (.inr rfl))
 by_cases c13:s.st=13
 . rw [step13 c13] at h
   have h3:=hs.tg1 (by omega) (by omega)
   have h6:=hs.an (by omega) (by omega)
   by_cases q0:s.ps < n /\ f s.ps ∈ bl ++ [61] /\ s.attr ∈ s.attrs.map (·.1)
   . rw [if_pos q0] at h
     cases h
     exact .bad rfl
   rw [if_neg q0] at h
   refine onNx_j (P:=Jv inn nm) h jf fun r w hc hb => ?_
   by_cases q1:r=61
   . rw [if_pos q1]
     have hx:s.attr ∉ s.attrs.map (·.1):=fun e => by
      obtain ⟨b1,b2⟩:=hb (by omega)
      refine q0 ⟨b1, ?_,e⟩
      rcases b2 with b2 | ⟨b2,_⟩
      . rw [b2,q1]; decide
      . omega
     exact .on h1 (iv_c (by show 13 <= 15; omega) (by show 15 <= 17; omega) hs.tx hs.no h3 hs.ats hs.nod h6 (fun _ => hx) (fun e => (by have:(15:Nat)=16 \/ (15:Nat)=17:=e; omega)))
   rw [if_neg q1]
   by_cases q3:isB r=true
   . rw [if_pos q3]
     have hx:s.attr ∉ s.attrs.map (·.1):=fun e => by
      rw [isB_eq,decide_eq_true_eq] at q3
      obtain ⟨b1,b2⟩:=hb (by omega)
      refine q0 ⟨b1, ?_,e⟩
      have:f s.ps=9 \/ f s.ps=10 \/ f s.ps=13 \/ f s.ps=32:=by omega
      rcases this with b | b | b | b <;> (rw [b]; decide)
     exact .on h1 (iv_c (by show 13 <= 14; omega) (by show 14 <= 17; omega) hs.tx hs.no h3 hs.ats hs.nod h6 (fun _ => hx) (fun e => (by have:(14:Nat)=16 \/ (14:Nat)=17:=e; omega)))
   rw [if_neg q3]
   have hr:Ch.isT Ch.tab 3 (r:Nat)=true:=by
    rcases hc with e | e
    . exact e
    . exfalso
      rw [isB_eq,decide_eq_true_eq] at q3
      simp [bl] at e
      omega
   exact .on h1 (iv_c (by show 13 <= s.st; omega) (by show s.st <= 17; omega) hs.tx hs.no h3 hs.ats hs.nod (h6.snoc hr) (fun e => (by have:14 <= s.st:=e; omega)) (fun e => (by have:s.st=16 \/ s.st=17:=e; omega)))
 by_cases c14:s.st=14
 . rw [step14 c14] at h
   have h3:=hs.tg1 (by omega) (by omega)
   have h6:=hs.an (by omega) (by omega)
   have h7:=hs.new (by omega) (by omega)
   refine onNx_j (P:=Jv inn nm) h jf fun r w hc hb => ?_
   split
   . exact .on h1 (iv_c (by show 13 <= 15; omega) (by show 15 <= 17; omega) hs.tx hs.no h3 hs.ats hs.nod h6 (fun _ => h7) (fun e => (by have:(15:Nat)=16 \/ (15:Nat)=17:=e; omega)))
   . exact .on h1 (iv_c (by show 13 <= s.st; omega) (by show s.st <= 17; omega) hs.tx hs.no h3 hs.ats hs.nod h6 (fun _ => h7) (fun e => (by have:s.st=16 \/ s.st=17:=e; omega)))
 by_cases c15:s.st=15
 . rw [step15 c15] at h
   have h3:=hs.tg1 (by omega) (by omega)
   have h6:=hs.an (by omega) (by omega)
   have h7:=hs.new (by omega) (by omega)
   refine onNx_j (P:=Jv inn nm) h jf fun r w hc hb => ?_
   split
   . exact .on h1 (iv_c (by show 13 <= s.st; omega) (by show s.st <= 17; omega) hs.tx hs.no h3 hs.ats hs.nod h6 (fun _ => h7) (fun e => (by have:s.st=16 \/ s.st=17:=e; omega)))
   . exact .on h1 (iv_c (by show 13 <= 16; omega) (by show 16 <= 17; omega) hs.tx hs.no h3 hs.ats hs.nod h6 (fun _ => h7) (fun _ => Alw.nil))
 by_cases c16:s.st=16
 . rw [step16 c16] at h
   have h3:=hs.tg1 (by omega) (by omega)
   have h6:=hs.an (by omega) (by omega)
   have h7:=hs.new (by omega) (by omega)
   have h8:=hs.vl (.inl c16)
   refine onNx_j (P:=Jv inn nm) h jf fun r w hc hb => ?_
   have hr:Ch.isT Ch.tab 0 (r:Nat)=true:=by
    rcases hc with e | e
    . exact e
    . cases e
   split
   . exact .bad rfl
   split
   . refine .on h1 (iv_b (by show 9 <= 11; omega) (by show 11 <= 12; omega) hs.tx hs.no h3 ?_ ?_)
     . intro a ha
       have ha':a ∈ s.attrs ++ [(s.attr,s.val)]:=ha
       rcases List.mem_append.1 ha' with e | e
       . exact hs.ats a e
       . rw [List.mem_singleton.1 e]
         exact ⟨h6,h8⟩
     . show ((s.attrs ++ [(s.attr,s.val)]).map (·.1)).Nodup
       rw [List.map_append,List.nodup_append]
       refine ⟨hs.nod,by simp, ?_⟩
       intro a ha b hb' e
       have:b=s.attr:=by simpa using hb'
       rw [e,this] at ha
       exact h7 ha
   split
   . exact .on h1 (iv_c (by show 13 <= 17; omega) (by show 17 <= 17; omega) hs.tx hs.no h3 hs.ats hs.nod h6 (fun _ => h7) (fun _ => h8))
   . refine .on h1 (iv_c (by show 13 <= s.st; omega) (by show s.st <= 17; omega) hs.tx hs.no h3 hs.ats hs.nod h6 (fun _ => h7) (fun _ => ?_))
     show Alw (s.val ++ encodeRune (if isB r=true then (32:Int) else (r:Int)))
     split
     . exact h8.snoc (r:=32) (by kernel_rfl)
     . exact h8.snoc hr
 by_cases c17:s.st=17
 . rw [step17 c17] at h
   have h3:=hs.tg1 (by omega) (by omega)
   have h6:=hs.an (by omega) (by omega)
   have h7:=hs.new (by omega) (by omega)
   have h8:=hs.vl (.inr c17)
   refine onRef_j (P:=Jv inn nm) h (fun _ _ => .bad rfl) (fun l p => .on h1 (iv_c (by show 13 <= s.st; omega) (by show s.st <= 17; omega) hs.tx hs.no h3 hs.ats hs.nod h6 (fun _ => h7) (fun _ => h8))) fun r l p hr => ?_
   exact .on h1 (iv_c (by show 13 <= 16; omega) (by show 16 <= 17; omega) hs.tx hs.no h3 hs.ats hs.nod h6 (fun _ => h7) (fun _ => h8.snoc hr))
 by_cases c18:s.st=18
 . rw [step18 c18] at h
   have h4:=hs.tg0 (by omega)
   have hi:=hs.i1 (by omega)
   split at h
   . cases h
     exact .on h1 (iv_d (.inr rfl) hs.tx hi h4)
   . split at h
     . cases h
     . split at h
       . cases h
         exact .bad rfl
       . cases h
         exact .on h1 (iv_d (.inl c18) hs.tx hi h4)
 have hge:19 <= s.st:=by omega
 have h4:=hs.tg0 (by omega)
 rw [step_19 hge] at h
 by_cases c19:s.st=19
 . have hi:=hs.i1 (by omega)
   refine onNx_j (P:=Jv inn nm) h jf fun r w hc hb => ?_
   split
   . exact .end rfl ⟨hs.tx,hs.no,fun _ => ⟨hi,rfl,h4.2⟩,fun e => absurd rfl e⟩
   . exact .on h1 (iv_d (.inr c19) hs.tx hi h4)
 . exact absurd hs.top (by omega)
theorem Steps.iv (h:Steps inn nm f n s t) (hs:Jv inn nm s) : Jv inn nm t:=by
 induction h with
 | refl => exact hs
 | cons h0 h r ih => exact ih (step_iv h0 h (hs.1 h0))
theorem iv_new (inn:Nat) (nm:List UInt8) : Jv inn nm {} := .on rfl (iv_a (by decide) Alw.nil (fun _ => rfl) (fun e => (by have:(0:Nat)=1 \/ (0:Nat)=7:=e; omega)) ⟨rfl,rfl⟩)
end
end Sc
end Go.Proofs.YteiiepjegdlbeaaDoor
namespace Go.Proofs.YteiiepjegdlbeaaDoor
open Go.RowKit Go.Lib
namespace Sc
section
variable {w:World} {D B n:Nat} {f:Nat -> Nat} {S:St} {R:Raw}
end
section
variable {f:Nat -> Nat} {n:Nat} {D B:Nat} {T:List Tk} {u:Dr} {R:Raw} {w:World} {how:Nat} {p:Nat × Nat × Nat × Nat}
end
theorem Told.only {f:Nat -> Nat} {n a b b':Nat} {s u u':Dr} {T T':List Tk} {k k':Wk} (h:Told f n a s T b u) (hk:Fin f n b u k) (g:Told f n a s T' b' u') (gk:Fin f n b' u' k') : T=T' /\ b=b' /\ u=u' /\ k=k':=by
 induction h generalizing T' with
 | refl a s =>
   cases g with
   | refl => exact ⟨rfl,rfl,rfl,hk.only gk⟩
   | cons h h0 r => exact (hk.none h h0).elim
 | @cons a b s u T m h h0 r ih =>
   cases g with
   | refl => exact (gk.none h h0).elim
   | @cons _ _ _ _ _ m' h' h0' r' =>
     have e:=h.one_end h' (.inl (by omega)) (.inl (by omega))
     subst e
     obtain ⟨e1,e2⟩:=ih hk r'
     rw [e1]
     exact ⟨rfl,e2⟩
end Sc
end Go.Proofs.YteiiepjegdlbeaaDoor
namespace Go.Proofs.YteiiepjegdlbeaaDoor
open Go.RowKit Go.Lib
namespace Sc
open Rn
def wrT1 (t:Tk) : List UInt8:=if t.kind=0 then Rf.esc Rf.inT t.text else wrG t.kind t.name t.attrs
def wrT (T:List Tk) : List UInt8:=T.flatMap wrT1
structure Sm (t t':Tk) : Prop where
 kind:t'.kind=t.kind
 name:t'.name=t.name
 attrs:t'.attrs=t.attrs
 text:t'.text=t.text
inductive Sms:List Tk -> List Tk -> Prop
 | nil:Sms [] []
 | cons {t t':Tk} {T T':List Tk} (h:Sm t t') (r:Sms T T') : Sms (t :: T) (t' :: T')
theorem Sms.app {A A' B B':List Tk} (h:Sms A A') (g:Sms B B') : Sms (A ++ B) (A' ++ B'):=by
 induction h with
 | nil => exact g
 | cons h r ih => exact .cons h ih
theorem Sms.len {A A':List Tk} (h:Sms A A') : A'.length=A.length:=by
 induction h with
 | nil => rfl
 | cons h r ih => rw [List.length_cons,List.length_cons,ih]
theorem Sms.at {A A':List Tk} (h:Sms A A') : ∀ (i:Nat) (h1:i < A.length) (h2:i < A'.length),Sm A[i] A'[i]:=by
 induction h with
 | nil => intro i h1; cases h1
 | cons h r ih =>
   intro i h1 h2
   cases i with
   | zero => exact h
   | succ i => exact ih i (by simpa using h1) (by simpa using h2)
section
variable {f:Nat -> Nat} {n:Nat}
theorem kind_pos {inn:Nat} {nm:List UInt8} {k:Wk} (h:Steps inn nm f n {} k) (h0:k.how=0) : k.kind ≠ 0:=by
 rcases (h.kd (kd_new _)).kd h0 with e | e | e
 . omega
 . omega
 . have:=e.1; omega
theorem wr_tks (a:Nat) {k:Wk} (h:k.kind ≠ 0) : wrT (tks f n a k)=Rf.esc Rf.inT k.text ++ wrG k.kind k.tag k.attrs:=by
 have e:wrT1 (tkG f n a k)=wrG k.kind k.tag k.attrs:=by
  unfold wrT1
  rw [if_neg (by exact h)]
  rfl
 unfold tks
 by_cases c:k.text = []
 . rw [if_pos c,c]
   simp only [wrT,List.flatMap_cons,List.flatMap_nil,List.append_nil]
   exact e
 . rw [if_neg c]
   simp only [wrT,List.flatMap_cons,List.flatMap_nil,List.append_nil]
   rw [e]
   rfl
theorem sms_tks {g:Nat -> Nat} {m:Nat} (a b:Nat) {k k':Wk} (h1:k'.kind=k.kind) (h2:k'.text=k.text) (h3:k'.tag=k.tag) (h4:k'.attrs=k.attrs) : Sms (tks f n a k) (tks g m b k'):=by
 have e:Sm (tkG f n a k) (tkG g m b k'):=⟨h1,h3,h4,rfl⟩
 unfold tks
 rw [h2]
 by_cases c:k.text = []
 . rw [if_pos c,if_pos c]
   exact .cons e .nil
 . rw [if_neg c,if_neg c]
   exact .cons ⟨rfl,rfl,rfl,h2⟩ (.cons e .nil)
theorem told_back {a b:Nat} {s u:Dr} {T:List Tk} (h:Told f n a s T b u) : ∀ (F:Nat -> Nat) (M p:Nat),(∀ j,F j < 256) -> Lay F M p (wrT T) -> ∃ T',Told F M p s T' (p + (wrT T).length) u /\ Sms T T':=by
 induction h with
 | refl a s => exact fun F M p hF hl => ⟨[], .refl _ _, .nil⟩
 | @cons a b s u T k h h0 r ih =>
   intro F M p hF hl
   have hk:=kind_pos h h0
   have hg:=(h.iv (iv_new _ _)).2 h0
   have e:wrT (tks f n a k ++ T)=(Rf.esc Rf.inT k.text ++ wrG k.kind k.tag k.attrs) ++ wrT T:=by
    rw [<- wr_tks (f:=f) (n:=n) a hk]
    simp [wrT]
   rw [e] at hl ⊢
   have hl0:Lay (off F p) (M - p) 0 (Rf.esc Rf.inT k.text ++ wrG k.kind k.tag k.attrs):=by
    have q:=hl.left
    refine ⟨by have:=q.1; omega,fun i hi => ?_⟩
    rw [Nat.zero_add]
    exact q.2 i hi
   obtain ⟨k',g1,g2,g3,g4,g5,g6,g7⟩:=walk_back (fun j => hF _) hg hl0
   obtain ⟨T',t1,t2⟩:=ih F M _ hF hl.right
   have en:s.next k'=s.next k:=by
    unfold Dr.next Dr.opens
    rw [g3,g6]
   refine ⟨tks F M p k' ++ T', ?_,(sms_tks a p g3 g5 g6 g7).app t2⟩
   rw [List.length_append, <- Nat.add_assoc]
   rw [<- g4, <- en] at t1
   rw [<- g4]
   exact .cons g1 g2 t1
theorem fin_none (F:Nat -> Nat) (M:Nat) (u:Dr) : Fin F M M u {}:=by
 refine ⟨.refl _,by decide, .inr ?_⟩
 rw [step0 rfl,Nat.sub_self]
 rfl
theorem written_back {b:Nat} {u:Dr} {T:List Tk} (h:Told f n 0 {} T b u) (F:Nat -> Nat) (hF : ∀ j,F j < 256) (hl:Lay F (wrT T).length 0 (wrT T)) {D B:Nat} {T2:List Tk} {u2:Dr} {R:Raw} {w:World} {how:Nat} {p:Nat × Nat × Nat × Nat} (g:StopE F (wrT T).length true 0 {} D B T2 u2 R w how p) :
 Sms T T2 /\ u2=u /\ (how=3 ↔ u.inn=2):=by
 obtain ⟨T',t1,t2⟩:=told_back h F _ 0 hF hl
 rw [Nat.zero_add] at t1
 obtain ⟨b',k',g1,g2,_,_,_,_,_,_,_,g10,_⟩:=g
 obtain ⟨rfl,rfl,rfl,rfl⟩:=t1.only (fin_none F _ u) g1 g2
 refine ⟨t2,rfl, ?_⟩
 by_cases c:u.inn=2
 . exact ⟨fun _ => c,fun _ => (g10.done rfl rfl ⟨c,rfl⟩).1⟩
 . have:=(g10.over rfl rfl (fun q => c q.1)).1
   exact ⟨fun e => (by omega),fun e => absurd e c⟩
end
end Sc
end Go.Proofs.YteiiepjegdlbeaaDoor
namespace Go.Proofs.YteiiepjegdlbeaaDoor
open Go.RowKit Go.Lib
namespace Sc
open Rn
def az:List (List UInt8 × List UInt8) -> Nat
 | [] => 0
 | a :: l => a.1.length + a.2.length + az l
theorem az_snoc (l:List (List UInt8 × List UInt8)) (a:List UInt8 × List UInt8) : az (l ++ [a])=az l + (a.1.length + a.2.length):=by
 induction l with
 | nil => simp [az]
 | cons b l ih => rw [List.cons_append,az,az,ih]; omega
structure Sz (nm:List UInt8) (s:Wk) : Prop where
 z:s.text.length + s.tag.length + az s.attrs + (if 13 <= s.st /\ s.st <= 17 then s.attr.length else 0) + (if s.st=16 \/ s.st=17 then s.val.length else 0) <= 5 * s.ps
 e:s.how=1 -> s.text.length + s.tag.length + az s.attrs + (if 13 <= s.st /\ s.st <= 17 then s.attr.length else 0) + (if s.st=16 \/ s.st=17 then s.val.length else 0) <= 4 * s.ps
 a:s.attrs.length <= s.ps
 q:19 <= s.st -> nm.length <= s.ps
theorem Sz.of {nm:List UInt8} {s:Wk} (h:s.text.length + s.tag.length + az s.attrs + (if 13 <= s.st /\ s.st <= 17 then s.attr.length else 0) + (if s.st=16 \/ s.st=17 then s.val.length else 0) <= 4 * s.ps) (g:s.attrs.length <= s.ps) (q:19 <= s.st -> nm.length <= s.ps) : Sz nm s:=⟨by omega,fun _ => h,g,q⟩
theorem onNx_z {f:Nat -> Nat} {n a:Nat} {c:Int} {sg:List Nat} {s t:Wk} {k:Nat -> Wk -> Wk} {P:Wk -> Prop} (h:onNx (nx f n a c sg) s k=some t) (hfail : ∀ b,P (s.fails b)) (hk : ∀ r w,0 < w -> P (k r (s.took w))) : P t:=by
 unfold onNx at h
 split at h
 . next hz =>
   cases h
   exact hk _ _ (nx_pos hz)
 . split at h
   . cases h
     exact hfail _
   . cases h
theorem onRef_z {f:Nat -> Nat} {n:Nat} {s t:Wk} {k:Nat -> Wk -> Wk} {P:Wk -> Prop} (h:onRef f n s k=some t) (hfail : ∀ l b,P ({ s with ref:=l }.fails b)) (hon : ∀ l,P { s with ref:=l,ps:=s.ps + 1 }) (hk : ∀ r l,P (k r { s with ref:=l,ps:=s.ps + 1 })) : P t:=by
 unfold onRef at h
 split at h
 . cases h
 . split at h
   . cases h
     exact hfail _ _
   . split at h
     . cases h
       exact hk _ _
     . cases h
       exact hon _
section
variable {inn:Nat} {nm:List UInt8} {f:Nat -> Nat} {n:Nat} {s t:Wk}
theorem step_sz (h1:s.how=1) (h:step inn nm f n s=some t) (hs:Sz nm s) : Sz nm t:=by
 have hz:=hs.e h1
 have ha:=hs.a
 have jf : ∀ b,Sz nm (s.fails b):=fun b => ⟨hs.z,fun e => (by cases e),ha,hs.q⟩
 have e4 : ∀ r:Nat,(encodeRune (r:Int)).length <= 4:=fun r => by rw [enc_length]; exact (el_pos r).2
 unfold step at h
 split at h
 case h_2 =>
  next e0 =>
  rw [e0] at hz
  simp at hz
  refine onRef_z (P:=Sz nm) h (fun l b => ⟨hs.z,fun e => (by cases e),ha,hs.q⟩) (fun l => .of ?_ ?_ (fun e => (by have:19 <= s.st:=e; omega))) (fun r l => .of ?_ ?_ (fun e => (by simp at e)))
  . simp [e0]; omega
  . show s.attrs.length <= s.ps + 1; omega
  . have:=e4 r
    simp [Wk.add]; omega
  . show s.attrs.length <= s.ps + 1; omega
 case h_18 =>
  next e0 =>
  rw [e0] at hz
  simp at hz
  refine onRef_z (P:=Sz nm) h (fun l b => ⟨hs.z,fun e => (by cases e),ha,hs.q⟩) (fun l => .of ?_ ?_ (fun e => (by have:19 <= s.st:=e; omega))) (fun r l => .of ?_ ?_ (fun e => (by simp at e)))
  . simp [e0]; omega
  . show s.attrs.length <= s.ps + 1; omega
  . have:=e4 r
    simp; omega
  . show s.attrs.length <= s.ps + 1; omega
 case h_19 =>
  next e0 =>
  rw [e0] at hz
  simp at hz
  split at h
  . cases h
    exact .of (by simp [Wk.turn]; omega) ha (fun _ => (by show nm.length <= s.ps; omega))
  . split at h
    . cases h
    . split at h
      . cases h
        exact jf _
      . cases h
        exact .of (by simp [e0]; omega) (by show s.attrs.length <= s.ps + 1; omega) (fun e => (by have:19 <= s.st:=e; omega))
 case h_14 =>
  next e0 =>
  rw [e0] at hz
  simp at hz
  split at h
  . cases h
    exact jf _
  . refine onNx_z (P:=Sz nm) h jf fun r w hw => ?_
    have e4':=e4 r
    repeat' split
    all_goals (refine .of ?_ ?_ ?_ <;> simp [Wk.took,Wk.turn,e0] <;> omega)
 case h_20 =>
  rename_i e0
  have hlt:19 <= s.st:=by
   rcases Nat.lt_or_ge s.st 19 with q | q
   . exfalso
     simp_all
     omega
   . exact q
  rw [if_neg (by omega),if_neg (by omega)] at hz
  refine onNx_z (P:=Sz nm) h jf fun r w hw => ?_
  split
  . have hq:=hs.q hlt
    refine ⟨?_,fun e => (by cases e), ?_,fun _ => (by show nm.length <= s.ps + w; omega)⟩
    . show s.text.length + nm.length + az s.attrs + (if 13 <= s.st /\ s.st <= 17 then s.attr.length else 0) + (if s.st=16 \/ s.st=17 then s.val.length else 0) <= 5 * (s.ps + w)
      rw [if_neg (by omega),if_neg (by omega)]
      omega
    . show s.attrs.length <= s.ps + w
      omega
  . have hq:=hs.q hlt
    refine .of ?_ ?_ (fun _ => (by show nm.length <= s.ps + w; omega))
    . show s.text.length + s.tag.length + az s.attrs + (if 13 <= s.st /\ s.st <= 17 then s.attr.length else 0) + (if s.st=16 \/ s.st=17 then s.val.length else 0) <= 4 * (s.ps + w)
      rw [if_neg (by omega),if_neg (by omega)]
      omega
    . show s.attrs.length <= s.ps + w
      omega
 all_goals
  rename_i e0
  rw [e0] at hz
  simp at hz
  refine onNx_z (P:=Sz nm) h jf fun r w hw => ?_
  have e4':=e4 r
  have e5:(encodeRune (32:Int)).length <= 4:=enc4 32
  try repeat' split
  all_goals first
   | exact ⟨by show s.text.length + s.tag.length + az s.attrs + (if 13 <= s.st /\ s.st <= 17 then s.attr.length else 0) + (if s.st=16 \/ s.st=17 then s.val.length else 0) <= 5 * (s.ps + w); have:=hs.z; omega,fun e => (by cases e),by show s.attrs.length <= s.ps + w; omega,fun e => (by have:19 <= s.st:=e; omega)⟩
   | (refine .of ?_ ?_ ?_ <;> simp [Wk.took,Wk.turn,Wk.tally,Wk.add,az_snoc,e0] <;> omega)
theorem Steps.sz (h:Steps inn nm f n s t) (hs:Sz nm s) : Sz nm t:=by
 induction h with
 | refl => exact hs
 | cons h0 h r ih => exact ih (step_sz h0 h hs)
end
theorem sz_new (nm:List UInt8) : Sz nm {} := .of (by simp [az]) (by simp) (fun e => (by simp at e))
theorem esc_len (form:Nat -> List UInt8) (hf : ∀ x,(form x).length <= 6) (l:List UInt8) : (Rf.esc form l).length <= 6 * l.length:=Rf.esc_le form hf l
theorem wrA_len (l:List (List UInt8 × List UInt8)) : (wrA l).length <= 6 * az l + 4 * l.length:=by
 induction l with
 | nil => simp [wrA]
 | cons a l ih =>
   have e:wrA (a :: l)=wrA1 a ++ wrA l:=by simp [wrA]
   have q:=esc_len Rf.inV Rf.inV_le a.2
   rw [e,List.length_append,az,List.length_cons]
   have:(wrA1 a).length=a.1.length + (Rf.esc Rf.inV a.2).length + 4:=by
    simp [wrA1]
    omega
   omega
theorem wrG_len (kind:Nat) (tg:List UInt8) (l:List (List UInt8 × List UInt8)) : (wrG kind tg l).length <= tg.length + 6 * az l + 4 * l.length + 3:=by
 have:=wrA_len l
 unfold wrG
 split
 . simp; omega
 . split <;> simp <;> omega
def tz (t:Tk) : Nat:=t.text.length + t.name.length + az t.attrs
section
variable {f:Nat -> Nat} {n:Nat}
theorem told_sz {a b:Nat} {s u:Dr} {T:List Tk} (h:Told f n a s T b u) : a <= n -> (∀ t ∈ T,tz t <= 5 * n /\ t.attrs.length <= n) /\ (wrT T).length + 37 * a <= 37 * b:=by
 induction h with
 | refl a s => exact fun _ => ⟨fun t m => (by cases m),by simp [wrT]⟩
 | @cons a b s u T k h h0 r ih =>
   intro ha
   have hz:=(h.sz (sz_new _)).z
   have hk:=h.within (Nat.zero_le _)
   have hp:=h.psn rfl h0
   have hat:=(h.sz (sz_new _)).a
   obtain ⟨q,q2⟩:=ih (by omega)
   refine ⟨fun t m => ?_, ?_⟩
   . rcases List.mem_append.1 m with m | m
     . have:tz t <= k.text.length + k.tag.length + az k.attrs /\ t.attrs.length <= k.attrs.length:=by
        unfold tks at m
        split at m
        . rw [List.mem_singleton.1 m]
          simp [tz,tkG]
        . rcases List.mem_cons.1 m with e | e
          . rw [e]
            simp [tz,tkT,az]
            omega
          . rw [List.mem_singleton.1 e]
            simp [tz,tkG]
       omega
     . exact q t m
   . have e:wrT (tks f n a k ++ T)=(Rf.esc Rf.inT k.text ++ wrG k.kind k.tag k.attrs) ++ wrT T:=by
      rw [<- wr_tks (f:=f) (n:=n) a (kind_pos h h0)]
      simp [wrT]
     have q3:=esc_len Rf.inT Rf.inT_le k.text
     have q4:=wrG_len k.kind k.tag k.attrs
     have hp':0 < k.ps:=hp
     rw [e,List.length_append,List.length_append]
     omega
end
end Sc
end Go.Proofs.YteiiepjegdlbeaaDoor
namespace Go.Proofs.YteiiepjegdlbeaaDoor
open Go.RowKit Go.Lib
namespace Sc
theorem acells_at {l:List (List UInt8 × List UInt8)} {j:Nat} (h:j < l.length) : (acells l)[2 * j]? = some (.string ⟨(l[j]).1.toArray⟩) /\ (acells l)[2 * j + 1]? = some (.string ⟨(l[j]).2.toArray⟩):=by
 induction l generalizing j with
 | nil => simp at h
 | cons a r ih =>
   have e:acells (a :: r) = .string ⟨a.1.toArray⟩ :: .string ⟨a.2.toArray⟩ :: acells r:=rfl
   rw [e]
   cases j with
   | zero => exact ⟨rfl,rfl⟩
   | succ j =>
     have:=ih (j:=j) (by simpa using h)
     rw [show 2 * (j + 1)=2 * j + 1 + 1 by omega]
     simpa using this
theorem attr_cells {w:World} {B:Nat} {v:Value} {l:List (List UInt8 × List UInt8)} (h:w.ownsRow B 61 2 v l.length (acells l)) {j:Nat} (hj:j < l.length) : ∃ g cap,v = .slice (some ⟨g,0,none⟩) l.length cap /\ l.length <= cap /\ cap <= maxLen /\ g < w.heap.size /\ w.cell? ⟨g,j * 2,none⟩ = some (.string ⟨(l[j]).1.toArray⟩) /\ w.cell? ⟨g,j * 2 + 1,none⟩ = some (.string ⟨(l[j]).2.toArray⟩):=by
 rcases h.2 with ⟨_,e⟩ | ⟨g,cap,cur,e,_,hg,h1,h2,_⟩
 . omega
 . obtain ⟨a1,a2⟩:=acells_at hj
   refine ⟨g,cap,e,h1,h2,lt_of_heap hg, ?_, ?_⟩
   . have:=World.ownsRow.cells h (g:=g) (by rw [e]; rfl) (2 * j) _ a1
     rw [Addr.add_lit,Nat.zero_add,Nat.mul_comm] at this
     exact this
   . have:=World.ownsRow.cells h (g:=g) (by rw [e]; rfl) (2 * j + 1) _ a2
     rw [Addr.add_lit,Nat.zero_add,Nat.mul_comm] at this
     exact this
theorem alike_same {B:Nat} (w:World) (kind:Nat) (nm tx:List UInt8) (p q:Nat × Nat × Nat × Nat) (l:List (List UInt8 × List UInt8)) (v v':Value) (h1:w.ownsRow B 61 2 v l.length (acells l)) (h2:w.ownsRow B 61 2 v' l.length (acells l)) (hl:l.length <= 9223372036854775807) :
 Calls Tryd.prog 14 #[.agg (tokA kind nm v tx p q), .agg (tokA kind nm v' tx p q)] w fun e w' => e = .returned (.bool true) /\ Below w.heap.size w w':=by
 obtain ⟨pa,c,ev⟩:=own_shape h1
 obtain ⟨pb,c',ev'⟩:=own_shape h2
 obtain ⟨N,hN⟩ : ∃ N,l.length=N:=⟨_,rfl⟩
 have H1:=hide' h1
 have H2:=hide' h2
 rw [hN] at ev ev' hl
 have HV:=hide' ev
 have HV':=hide' ev'
 have HN:=hide' hN
 rw [ev,ev']
 clear h1 h2 ev ev' hN
 unfold tokA
 go_enter Tryd.func14,Tryd.ntmps14
 go_wp2
 go_loopw [5] (fun i wr => ∃ j:Nat,i = .int .i64 j /\ j <= N /\ Hid (Below w.heap.size w wr) /\ wr.cell? ⟨w.heap.size,2,none⟩ = some (.slice pa N c) /\ wr.cell? ⟨w.heap.size + 1,2,none⟩ = some (.slice pb N c')) (fun i _ => N - (RowKit.intOf i).toNat)
 case atStart => exact ⟨0,rfl,Nat.zero_le _,((Below.refl _ _).alloc (Nat.le_refl _) _).alloc (by simp) _,by go_simp,by go_simp⟩
 case round =>
  obtain ⟨j,rfl,hj,hb,hc1,hc2⟩:=hrel
  by_cases hlt:j < N
  . have i1:(j:Int) < (N:Int):=by omega
    have hN:=HN.out
    obtain ⟨ga,ca,e1,k1,k2,k3,k4,k5⟩:=attr_cells H1.out (j:=j) (by omega)
    obtain ⟨gb,cb,e2,m1,m2,m3,m4,m5⟩:=attr_cells H2.out (j:=j) (by omega)
    rw [HV.out,hN] at e1
    rw [HV'.out,hN] at e2
    cases e1
    cases e2
    rw [<- hb.out.cell (p:=⟨ga,j * 2,none⟩) k3] at k4
    rw [<- hb.out.cell (p:=⟨ga,j * 2 + 1,none⟩) k3] at k5
    rw [<- hb.out.cell (p:=⟨gb,j * 2,none⟩) m3] at m4
    rw [<- hb.out.cell (p:=⟨gb,j * 2 + 1,none⟩) m3] at m5
    generalize (l[j]'(by omega)).1.toArray=A1 at *
    generalize (l[j]'(by omega)).2.toArray=A2 at *
    clear k3 m3
    go_wp2
    go_quiet (fail)
    go_wp2
    refine ⟨⟨j + 1,by simp,by omega,below_drewN hb.out nq,hc1,hc2⟩, ?_⟩
    show N - ((j:Int) + 1).toNat < N - (j:Int).toNat
    omega
  . have i1 : ¬ (j:Int) < (N:Int):=by omega
    go_wp2
    go_ret
    exact ⟨rfl,hb.out⟩
theorem wrA_take {l:List (List UInt8 × List UInt8)} {j:Nat} (h:j < l.length) : wrA (l.take (j + 1))=wrA (l.take j) ++ wrA1 l[j]:=by
 unfold wrA
 rw [List.take_succ_eq_append_getElem h,List.flatMap_append,List.flatMap_cons,List.flatMap_nil,List.append_nil]
theorem az_take (l:List (List UInt8 × List UInt8)) (j:Nat) : az (l.take j) <= az l:=by
 induction l generalizing j with
 | nil => simp
 | cons a l ih =>
   cases j with
   | zero => simp [az]
   | succ j =>
     rw [List.take_succ_cons,az,az]
     have:=ih j
     omega
theorem az_at {l:List (List UInt8 × List UInt8)} {j:Nat} (h:j < l.length) : (l[j]).1.length + (l[j]).2.length <= az l:=by
 induction l generalizing j with
 | nil => simp at h
 | cons a l ih =>
   cases j with
   | zero => simp [az]
   | succ j =>
     have:=ih (j:=j) (by simpa using h)
     simp [az]
     omega
theorem written_any {B:Nat} (w:World) (kind:Nat) (nm tx:List UInt8) (p q:Nat × Nat × Nat × Nat) (l:List (List UInt8 × List UInt8)) (v:Value) (ho:w.ownsRow B 61 2 v l.length (acells l)) (hz:tx.length + nm.length + az l <= 1073741824) (hl:l.length <= 1073741824) (t:Tk) (ht:t=⟨kind,nm,l,tx,p,q⟩) :
 Calls Tryd.prog 16 #[.agg (tokA kind nm v tx p q)] w fun e w' => e = .returned (.string ⟨(wrT1 t).toArray⟩) /\ Below w.heap.size w w':=by
 obtain ⟨pa,c,ev⟩:=own_shape ho
 subst ev
 have HO:=hide' ho
 have cT:=fun W => rfText_any tx W (by omega)
 have CT:=hide' cT
 have hwr:wrT1 t=if kind=0 then Rf.esc Rf.inT tx else wrG kind nm l:=by rw [ht]; rfl
 have HWR:=hide' hwr
 have HZ:=hide' hz
 have HL:=hide' hl
 clear cT ho hwr hz ht
 unfold tokA
 go_enter Tryd.func16,Tryd.ntmps16
 by_cases k0:kind=0
 . subst k0
   go_wp2_with fail
   refine (CT.out _).mono ?_
   rintro e w1 ⟨rfl,hb1⟩
   have HB1:=hide' hb1
   clear hb1 CT
   go_wp2_with fail
   go_ret
   refine ⟨?_,((Below.refl _ _).alloc (Nat.le_refl _) _).trans (HB1.out.mono (by simp))⟩
   rw [HWR.out]
   rfl
 have i0 : ¬ (kind:Int)=0:=by omega
 by_cases k2:kind=2
 . subst k2
   obtain ⟨S1,hS1⟩ : ∃ S1:List UInt8,S1 = [60,47] ++ nm:=⟨_,rfl⟩
   have a1:(ByteArray.mk #[60,47]) ++ ⟨nm.toArray⟩ = ⟨S1.toArray⟩:=by rw [hS1]; exact strAppend [60,47] nm
   obtain ⟨S2,hS2⟩ : ∃ S2:List UInt8,S2=S1 ++ [62]:=⟨_,rfl⟩
   have a2:(ByteArray.mk S1.toArray) ++ ⟨#[62]⟩ = ⟨S2.toArray⟩:=by rw [hS2]; exact strAppend S1 [62]
   have l1:S1.length=nm.length + 2:=by rw [hS1]; simp
   have g1:2 + nm.length <= 9223372036854775807:=by have:=HZ.out; omega
   have g2:S1.length + 1 <= 9223372036854775807:=by have:=HZ.out; omega
   have HS:Hid (S2=wrG 2 nm l):=by rw [hS2,hS1]; rfl
   clear hS1 hS2 l1
   go_wp2_with fail
   go_ret
   refine ⟨?_,(Below.refl _ _).alloc (Nat.le_refl _) _⟩
   rw [HWR.out,if_neg (by decide), <- HS.out]
   rfl
 have i2 : ¬ (kind:Int)=2:=by omega
 have b0:((kind:Int) == 0)=false:=by rw [beq_eq_false_iff_ne]; exact i0
 have b2:((kind:Int) == 2)=false:=by rw [beq_eq_false_iff_ne]; exact i2
 obtain ⟨S0,hS0⟩ : ∃ S0:List UInt8,S0 = [60] ++ nm:=⟨_,rfl⟩
 have a0:(ByteArray.mk #[60]) ++ ⟨nm.toArray⟩ = ⟨S0.toArray⟩:=by rw [hS0]; exact strAppend [60] nm
 have g0:1 + nm.length <= 9223372036854775807:=by have:=HZ.out; omega
 have HS0:=hide' hS0
 obtain ⟨N,hN⟩ : ∃ N,l.length=N:=⟨_,rfl⟩
 have HNN:=hide' hN
 rw [hN] at hl
 have HO2:=HO
 rw [hN]
 clear hS0 hN CT
 go_wp2_with fail
 go_loopw [3,4] (fun s i wr => ∃ j:Nat,i = .int .i64 j /\ s = .string ⟨(S0 ++ wrA (l.take j)).toArray⟩ /\ j <= N /\ Hid (Below (w.heap.size + 1) (w.alloc (.cells #[.int .i64 (kind:Nat), .string ⟨nm.toArray⟩, .slice pa N c, .string ⟨tx.toArray⟩, .int .i64 (p.1:Nat), .int .i64 (p.2.1:Nat), .int .i64 (p.2.2.1:Nat), .int .i64 (p.2.2.2:Nat), .int .i64 (q.1:Nat), .int .i64 (q.2.1:Nat), .int .i64 (q.2.2.1:Nat), .int .i64 (q.2.2.2:Nat)] 43)) wr)) (fun _ i _ => N - (RowKit.intOf i).toNat)
 case atStart => exact ⟨0,rfl,by simp [wrA],Nat.zero_le _,Below.refl _ _⟩
 case round =>
  obtain ⟨j,rfl,rfl,hj,hb⟩:=hrel
  have hbx:=(hb.out.block w.heap.size (by omega)).trans (heap_alloc_new w _)
  have c0:wr.cell? ⟨w.heap.size,0,none⟩ = some (.int .i64 (kind:Nat)):=by rw [Lib.cell_of_heap hbx]; rfl
  have c2:wr.cell? ⟨w.heap.size,2,none⟩ = some (.slice pa N c):=by rw [Lib.cell_of_heap hbx]; rfl
  have hBw:Below w.heap.size w wr:=((Below.refl _ _).alloc (Nat.le_refl _) _).trans (hb.out.mono (by omega))
  have HBW:=hide' hBw
  obtain ⟨Sj,hSj⟩ : ∃ Sj,Sj=S0 ++ wrA (l.take j):=⟨_,rfl⟩
  rw [<- hSj]
  have HSJ:=hide' hSj
  have hlj:Sj.length <= 17179869184:=by
   have q1:=wrA_len (l.take j)
   have q2:=az_take l j
   have q3:=HZ.out
   have q4:=HL.out
   have q5:S0.length=nm.length + 1:=by rw [HS0.out]; simp
   have q6:(l.take j).length <= l.length:=by simp; omega
   rw [hSj,List.length_append]
   omega
  clear hbx hBw hSj
  by_cases hlt:j < N
  . have i1:(j:Int) < N:=by omega
    have hjl:j < l.length:=by have:=HNN.out; omega
    obtain ⟨g,cp,e1,_,_,k3,n1,v1⟩:=attr_cells HO.out hjl
    cases e1
    have n1':wr.cell? ⟨g,j * 2,none⟩ = some (.string ⟨(l[j]).1.toArray⟩):=(HBW.out.cell (p:=⟨g,j * 2,none⟩) k3).trans n1
    have v1':wr.cell? ⟨g,j * 2 + 1,none⟩ = some (.string ⟨(l[j]).2.toArray⟩):=(HBW.out.cell (p:=⟨g,j * 2 + 1,none⟩) k3).trans v1
    have haz:=az_at hjl
    obtain ⟨nj,hnj⟩ : ∃ nj,nj=(l[j]).1:=⟨_,rfl⟩
    obtain ⟨vj,hvj⟩ : ∃ vj,vj=(l[j]).2:=⟨_,rfl⟩
    rw [<- hnj] at n1' haz
    rw [<- hvj] at v1' haz
    have hes:=esc_len Rf.inV Rf.inV_le vj
    have CV:Hid (∀ W,Calls Tryd.prog 20 #[.string ⟨vj.toArray⟩] W fun e w' => e = .returned (.string ⟨(Rf.esc Rf.inV vj).toArray⟩) /\ Below W.heap.size W w'):=fun W => rfValue_any vj W (by have:=HZ.out; omega)
    obtain ⟨ej,hej⟩ : ∃ ej,ej=Rf.esc Rf.inV vj:=⟨_,rfl⟩
    rw [<- hej] at CV hes
    obtain ⟨S1,hS1⟩ : ∃ S1:List UInt8,S1=Sj ++ [32]:=⟨_,rfl⟩
    have a1:(ByteArray.mk Sj.toArray) ++ ⟨#[32]⟩ = ⟨S1.toArray⟩:=by rw [hS1]; exact strAppend Sj [32]
    obtain ⟨S2,hS2⟩ : ∃ S2:List UInt8,S2=S1 ++ nj:=⟨_,rfl⟩
    have a2:(ByteArray.mk S1.toArray) ++ ⟨nj.toArray⟩ = ⟨S2.toArray⟩:=by rw [hS2]; exact strAppend S1 nj
    obtain ⟨S3,hS3⟩ : ∃ S3:List UInt8,S3=S2 ++ [61,34]:=⟨_,rfl⟩
    have a3:(ByteArray.mk S2.toArray) ++ ⟨#[61,34]⟩ = ⟨S3.toArray⟩:=by rw [hS3]; exact strAppend S2 [61,34]
    obtain ⟨S4,hS4⟩ : ∃ S4:List UInt8,S4=S3 ++ ej:=⟨_,rfl⟩
    have a4:(ByteArray.mk S3.toArray) ++ ⟨ej.toArray⟩ = ⟨S4.toArray⟩:=by rw [hS4]; exact strAppend S3 ej
    obtain ⟨S5,hS5⟩ : ∃ S5:List UInt8,S5=S4 ++ [34]:=⟨_,rfl⟩
    have a5:(ByteArray.mk S4.toArray) ++ ⟨#[34]⟩ = ⟨S5.toArray⟩:=by rw [hS5]; exact strAppend S4 [34]
    have l1:S1.length=Sj.length + 1:=by rw [hS1]; simp
    have l2:S2.length=S1.length + nj.length:=by rw [hS2]; simp
    have l3:S3.length=S2.length + 2:=by rw [hS3]; simp
    have l4:S4.length=S3.length + ej.length:=by rw [hS4]; simp
    have hz9:=HZ.out
    have g1:Sj.length + 1 <= 9223372036854775807:=by omega
    have g2:S1.length + nj.length <= 9223372036854775807:=by omega
    have g3:S2.length + 2 <= 9223372036854775807:=by omega
    have g4:S3.length + ej.length <= 9223372036854775807:=by omega
    have g5:S4.length + 1 <= 9223372036854775807:=by omega
    have HS5:Hid (S5=S0 ++ wrA (l.take (j + 1))):=by
     show S5=S0 ++ wrA (l.take (j + 1))
     rw [wrA_take hjl, <- List.append_assoc, <- HSJ.out,hS5,hS4,hS3,hS2,hS1,hnj,hej,hvj]
     simp [wrA1]
    have HSB:Hid (∀ W,Below wr.heap.size wr W -> W.cell? ⟨w.heap.size,2,none⟩ = some (.slice (some ⟨g,0,none⟩) N c) /\ W.cell? ⟨g,j * 2,none⟩ = some (.string ⟨nj.toArray⟩) /\ W.cell? ⟨g,j * 2 + 1,none⟩ = some (.string ⟨vj.toArray⟩)):=fun W hW => by
     have hc : ∀ o i x,wr.cell? ⟨o,i,none⟩ = some x -> W.cell? ⟨o,i,none⟩ = some x:=fun o i x e => (hW.cell (p:=⟨o,i,none⟩) (block_lt_of_cell e)).trans e
     exact ⟨hc _ _ _ c2,hc _ _ _ n1',hc _ _ _ v1'⟩
    have iwj:IntKind.i64.wrap ((j:Int) + 1)=j + 1:=by rw [IntKind.wrap_i64]; omega
    have HEN:Hid (∀ W,Below wr.heap.size wr W -> (∃ i:Nat,Value.int .i64 ((j:Int) + 1) = .int .i64 i /\ Value.string ⟨S5.toArray⟩ = .string ⟨(S0 ++ wrA (l.take i)).toArray⟩ /\ i <= N /\ Hid (Below (w.heap.size + 1) (w.alloc (.cells #[.int .i64 (kind:Nat), .string ⟨nm.toArray⟩, .slice (some ⟨g,0,none⟩) N c, .string ⟨tx.toArray⟩, .int .i64 (p.1:Nat), .int .i64 (p.2.1:Nat), .int .i64 (p.2.2.1:Nat), .int .i64 (p.2.2.2:Nat), .int .i64 (q.1:Nat), .int .i64 (q.2.1:Nat), .int .i64 (q.2.2.1:Nat), .int .i64 (q.2.2.2:Nat)] 43)) W)) /\ N - (RowKit.intOf (.int .i64 ((j:Int) + 1))).toNat < N - (RowKit.intOf (.int .i64 (j:Int))).toNat):=fun W hW => by
     refine ⟨⟨j + 1,by simp,by rw [HS5.out],hlt,hb.out.trans (hW.mono ?_)⟩,by show N - ((j:Int) + 1).toNat < N - (j:Int).toNat; omega⟩
     have:=hb.out.size
     simpa using this
    clear hnj hvj hej hS1 hS2 hS3 hS4 hS5 l1 l2 l3 l4 haz hes n1 v1 hz9 hjl
    go_wp2_with fail
    clear c0 c2 n1' v1'
    go_region_held (fun w' => w'.cell? ⟨w.heap.size,2,none⟩ = some (.slice (some ⟨g,0,none⟩) N c) /\ w'.cell? ⟨g,j * 2,none⟩ = some (.string ⟨nj.toArray⟩) /\ w'.cell? ⟨g,j * 2 + 1,none⟩ = some (.string ⟨vj.toArray⟩)) (first | exact HSB.out _ (Below.refl _ _).drew | exact HSB.out _ HBV.out) (first | (go_at_call 20; refine (CV.out _).mono ?_; rintro e W1 ⟨rfl,hb1⟩; have HBV:Hid (Below wr.heap.size wr W1):=(Below.refl _ _).drew.trans hb1; clear hb1))
    all_goals
     go_wp2_with fail
     exact HEN.out _ HBV.out
  . have i1 : ¬ (j:Int) < N:=by omega
    by_cases k3:kind=3
    . obtain ⟨S9,hS9⟩ : ∃ S9:List UInt8,S9=Sj ++ [47,62]:=⟨_,rfl⟩
      have a9:(ByteArray.mk Sj.toArray) ++ ⟨#[47,62]⟩ = ⟨S9.toArray⟩:=by rw [hS9]; exact strAppend Sj [47,62]
      have g9:Sj.length + 2 <= 9223372036854775807:=by omega
      have HS9:Hid (S9=wrT1 t):=by
       show S9=wrT1 t
       rw [HWR.out,if_neg k0,hS9,HSJ.out,HS0.out,List.take_of_length_le (by have:=HNN.out; omega)]
       unfold wrG
       rw [if_neg k2,if_pos k3]
       simp
      rw [k3] at c0
      clear hS9
      go_wp2_with fail
      go_ret
      refine ⟨?_,HBW.out⟩
      rw [<- HS9.out]
      rfl
    . obtain ⟨S9,hS9⟩ : ∃ S9:List UInt8,S9=Sj ++ [62]:=⟨_,rfl⟩
      have a9:(ByteArray.mk Sj.toArray) ++ ⟨#[62]⟩ = ⟨S9.toArray⟩:=by rw [hS9]; exact strAppend Sj [62]
      have g9:Sj.length + 1 <= 9223372036854775807:=by omega
      have i3 : ¬ (kind:Int)=3:=by omega
      have b3:((kind:Int) == 3)=false:=by rw [beq_eq_false_iff_ne]; exact i3
      have HS9:Hid (S9=wrT1 t):=by
       show S9=wrT1 t
       rw [HWR.out,if_neg k0,hS9,HSJ.out,HS0.out,List.take_of_length_le (by have:=HNN.out; omega)]
       unfold wrG
       rw [if_neg k2,if_neg k3]
       simp
      clear hS9
      go_wp2_with fail
      go_ret
      refine ⟨?_,HBW.out⟩
      rw [<- HS9.out]
      rfl
theorem tcells_at {l:List TkV} {i:Nat} (h:i < l.length) {j:Nat} (hj:j < 12) : (tcells l)[12 * i + j]? = ((l[i]).arr)[j]? := by
 induction l generalizing i with
 | nil => simp at h
 | cons a r ih =>
   have e:tcells (a :: r)=a.arr.toList ++ tcells r:=by simp [tcells]
   have ea:a.arr.toList.length=12:=by simp [TkV.arr,tokA]
   rw [e]
   cases i with
   | zero =>
     rw [List.getElem?_append_left (by omega)]
     simp
   | succ i =>
     have:=ih (i:=i) (by simpa using h)
     rw [List.getElem?_append_right (by omega),ea,show 12 * (i + 1) + j - 12=12 * i + j by omega]
     simpa using this
theorem tok_cells {w:World} {B:Nat} {v:Value} {l:List TkV} (h:w.ownsRow B 43 12 v l.length (tcells l)) {i:Nat} (hi:i < l.length) : ∃ g cap,v = .slice (some ⟨g,0,none⟩) l.length cap /\ l.length <= cap /\ cap <= maxLen /\ g < w.heap.size /\ ∀ i,(hi:i < l.length) -> ∀ j x,((l[i]).arr)[j]? = some x -> w.cell? ⟨g,i * 12 + j,none⟩ = some x:=by
 rcases h.2 with ⟨_,e⟩ | ⟨g,cap,cur,e,_,hg,h1,h2,_⟩
 . omega
 . refine ⟨g,cap,e,h1,h2,lt_of_heap hg,fun i hi j x hx => ?_⟩
   have hj:j < 12:=by
    rcases Nat.lt_or_ge j 12 with k | k
    . exact k
    . rw [Array.getElem?_eq_none (by simp [TkV.arr,tokA]; omega)] at hx
      cases hx
   have:=World.ownsRow.cells h (g:=g) (by rw [e]; rfl) (12 * i + j) _ ((tcells_at hi hj).trans hx)
   rw [Addr.add_lit,Nat.zero_add,Nat.mul_comm] at this
   exact this
end Sc
end Go.Proofs.YteiiepjegdlbeaaDoor
