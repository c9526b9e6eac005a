import Derived.Test.YteiiepjegdlbeaaDoorFdMath
import Derived.Test.YteiiepjegdlbeaaDoorChBegins
import Derived.Test.YteiiepjegdlbeaaDoorRfRead
import Derived.Test.YteiiepjegdlbeaaDoorRnCat
import Derived.Maps.AppendAt
import Derived.Lib.RuneBytes
set_option maxHeartbeats 4000000
set_option maxRecDepth 100000
namespace Go.Proofs.YteiiepjegdlbeaaDoor
open Go.RowKit Go.Lib
namespace Sc
open Rn
def gdF (f:Nat -> Nat) (a:Nat) (c:Int) : Nat -> Nat -> Nat
 | 0,g => g
 | k + 1,g => if Ch.begP c (off f a) (g + 1)=true then gdF f a c k (g + 1) else g
def gd (f:Nat -> Nat) (n a:Nat) (c:Int) : Nat:=gdF f a c (n - a) 0
theorem gdF_le (f:Nat -> Nat) (a:Nat) (c:Int) : ∀ k g,g <= gdF f a c k g /\ gdF f a c k g <= g + k
 | 0,g => ⟨Nat.le_refl _,Nat.le_refl _⟩
 | k + 1,g => by
   unfold gdF
   split
   . have:=gdF_le f a c k (g + 1)
     omega
   . omega
theorem gd_le (f:Nat -> Nat) (n a:Nat) (c:Int) : gd f n a c <= n - a:=by
 have:=(gdF_le f a c (n - a) 0).2
 unfold gd
 omega
def nx (f:Nat -> Nat) (n a:Nat) (c:Int) (sg:List Nat) : Nat × Nat × Nat :=
 if (Fd.pk f n a false).2.2.2=0 /\ (Ch.isT Ch.tab c ((Fd.pk f n a false).1:Nat)=true \/ (Fd.pk f n a false).1 ∈ sg) then (0,(Fd.pk f n a false).1,(Fd.pk f n a false).2.2.1)
 else if n=a + 1 /\ f a=13 /\ 13 ∈ sg then (1,0,0)
 else if gd f n a c < n - a then (2,a + gd f n a c,0) else (1,0,0)
structure Wk where
 st:Nat:=0
 how:Nat:=1
 bad:Nat:=0
 ps:Nat:=0
 fr:Nat:=0
 text:List UInt8 := []
 tf:Nat:=0
 ct:Nat:=0
 ref:List UInt8 := []
 tg:Nat:=0
 kind:Nat:=0
 tag:List UInt8 := []
 attrs:List (List UInt8 × List UInt8) := []
 attr:List UInt8 := []
 val:List UInt8 := []
 qt:Nat:=0
def Wk.took (s:Wk) (w:Nat) : Wk := { s with fr:=s.ps,ps:=s.ps + w }
def Wk.fails (s:Wk) (k:Nat) : Wk := { s with how:=2,bad:=k }
def Wk.whole (s:Wk) (k:Nat) : Wk := { s with how:=0,kind:=k }
def Wk.turn (s:Wk) (k:Nat) : Wk := { s with st:=k }
def Wk.add (s:Wk) (r a:Nat) : Wk := { s with tf:=if s.text = [] then a else s.tf,text:=s.text ++ encodeRune r }
def Wk.tally (s:Wk) (r o:Nat) : Wk := { s with ct:=if r=o then s.ct + 1 else 0 }
def onNx (x:Nat × Nat × Nat) (s:Wk) (k:Nat -> Wk -> Wk) : Option Wk :=
 if x.1=0 then some (k x.2.1 (s.took x.2.2)) else if x.1=2 then some (s.fails x.2.1) else none
def nought (l:List UInt8) : List UInt8:=if l = [38,35,48,48] \/ l = [38,35,120,48,48] then l.dropLast else l
def onRef (f:Nat -> Nat) (n:Nat) (s:Wk) (k:Nat -> Wk -> Wk) : Option Wk :=
 if n <= s.ps then none else
 if (Rf.rd (lf (s.ref ++ [(f s.ps).toUInt8])) (s.ref.length + 1)).2.2=2 then some ({ s with ref:=s.ref ++ [(f s.ps).toUInt8] }.fails s.ps)
 else if (Rf.rd (lf (s.ref ++ [(f s.ps).toUInt8])) (s.ref.length + 1)).2.2=0 then some (k (Rf.rd (lf (s.ref ++ [(f s.ps).toUInt8])) (s.ref.length + 1)).1 { s with ref:=s.ref ++ [(f s.ps).toUInt8],ps:=s.ps + 1 })
 else some { s with ref:=nought (s.ref ++ [(f s.ps).toUInt8]),ps:=s.ps + 1 }
def bl:List Nat := [32,9,10,13]
def isB (r:Nat) : Bool:=Ch.isT Ch.tab 1 (r:Nat)
def word:List Nat := [67,68,65,84,65,91]
def step (inn:Nat) (nm:List UInt8) (f:Nat -> Nat) (n:Nat) (s:Wk) : Option Wk :=
 match s.st with
 | 0 => onNx (nx f n s.ps (if inn=1 then 0 else 1) [60]) s fun r s =>
    if r=60 then { s with tg:=s.fr,ct:=0,st:=2 } else if inn ≠ 1 then s else if r=38 then { s with ref := [38],st:=1 } else if r=62 /\ 2 <= s.ct then s.fails s.fr else (s.add r s.fr).tally r 93
 | 1 => onRef f n s fun r s => { s.add r s.fr with ct:=0,st:=0 }
 | 2 => onNx (nx f n s.ps (if inn=2 then 6 else 2) (if inn=1 then [33,47] else [33])) s fun r s => if r=33 then s.turn 3 else if r=47 then s.turn 18 else { s with tag:=s.tag ++ encodeRune r,st:=9 }
 | 3 => onNx (nx f n s.ps 6 (if inn=1 then [45,91] else [45])) s fun r s => if r=91 then s.turn 7 else s.turn 4
 | 4 => onNx (nx f n s.ps 6 [45]) s fun _ s => s.turn 5
 | 5 => onNx (nx f n s.ps 0 []) s fun r s => if (s.tally r 45).ct < 2 then s.tally r 45 else (s.tally r 45).turn 6
 | 6 => onNx (nx f n s.ps 6 [62]) s fun _ s => { s with ct:=0,st:=0 }
 | 7 => onNx (nx f n s.ps 6 [word.getD s.ct 0]) s fun _ s => if s.ct + 1 < 6 then { s with ct:=s.ct + 1 } else { s with ct:=0,st:=8 }
 | 8 => onNx (nx f n s.ps 0 []) s fun r s => if r=62 /\ 2 <= s.ct then { s with text:=s.text.take (s.text.length - 2),ct:=0,st:=0 } else (s.add r s.tg).tally r 93
 | 9 => onNx (nx f n s.ps 3 (bl ++ [47,62])) s fun r s => if r=47 then s.turn 12 else if r=62 then s.whole 1 else if isB r=true then s.turn 10 else { s with tag:=s.tag ++ encodeRune r }
 | 10 => onNx (nx f n s.ps 2 (bl ++ [47,62])) s fun r s => if r=47 then s.turn 12 else if r=62 then s.whole 1 else if isB r=true then s else { s with attr:=encodeRune r,st:=13 }
 | 11 => onNx (nx f n s.ps 1 [47,62]) s fun r s => if r=62 then s.whole 1 else if r=47 then s.turn 12 else s.turn 10
 | 12 => onNx (nx f n s.ps 6 [62]) s fun _ s => s.whole 3
 | 13 => if s.ps < n /\ f s.ps ∈ bl ++ [61] /\ s.attr ∈ s.attrs.map (·.1) then some (s.fails s.ps) else
    onNx (nx f n s.ps 3 (bl ++ [61])) s fun r s => if r=61 then s.turn 15 else if isB r=true then s.turn 14 else { s with attr:=s.attr ++ encodeRune r }
 | 14 => onNx (nx f n s.ps 1 [61]) s fun r s => if r=61 then s.turn 15 else s
 | 15 => onNx (nx f n s.ps 1 [34,39]) s fun r s => if isB r=true then s else { s with qt:=r,val := [],st:=16 }
 | 16 => onNx (nx f n s.ps 0 []) s fun r s => if r=60 then s.fails s.fr else if r=s.qt then { s with attrs:=s.attrs ++ [(s.attr,s.val)],st:=11 } else if r=38 then { s with ref := [38],st:=17 } else { s with val:=s.val ++ encodeRune (if isB r=true then 32 else r) }
 | 17 => onRef f n s fun r s => { s with val:=s.val ++ encodeRune r,st:=16 }
 | 18 => if s.ps - s.tg - 2=nm.length then some (s.turn 19) else if n <= s.ps then none else if f s.ps ≠ lf nm (s.ps - s.tg - 2) then some (s.fails s.ps) else some { s with ps:=s.ps + 1 }
 | _ => onNx (nx f n s.ps 1 [62]) s fun r s => if r=62 then { s.whole 2 with tag:=nm } else s
inductive Steps (inn:Nat) (nm:List UInt8) (f:Nat -> Nat) (n:Nat) : Wk -> Wk -> Prop
 | refl (s:Wk) : Steps inn nm f n s s
 | cons {s t u:Wk} (h0:s.how=1) (h:step inn nm f n s=some t) (r:Steps inn nm f n t u) : Steps inn nm f n s u
theorem Steps.one {inn:Nat} {nm:List UInt8} {f:Nat -> Nat} {n:Nat} {s t:Wk} (h0:s.how=1) (h:step inn nm f n s=some t) : Steps inn nm f n s t := .cons h0 h (.refl t)
theorem Steps.trans {inn:Nat} {nm:List UInt8} {f:Nat -> Nat} {n:Nat} {s t u:Wk} (h:Steps inn nm f n s t) (k:Steps inn nm f n t u) : Steps inn nm f n s u:=by
 induction h with
 | refl => exact k
 | cons h0 h r ih => exact .cons h0 h (ih k)
def Ends (inn:Nat) (nm:List UInt8) (f:Nat -> Nat) (n:Nat) (s:Wk) : Prop:=s.how ≠ 1 \/ step inn nm f n s=none
end Sc
end Go.Proofs.YteiiepjegdlbeaaDoor
namespace Go.Proofs.YteiiepjegdlbeaaDoor
open Go.RowKit Go.Lib
theorem scByte:(Tryd.prog.info? 5).map (fun i => (i.zero,i.size,i.bytes))=some (some (.int .u8 0),1,1):=by kernel_rfl
def Appd (w:World) (B:Nat) (v:Value) (n:Nat) (xs:List Value) (e:Ending) (w':World) : Prop :=
 ∃ v',e = .returned v' /\ w'.ownsRow B 5 1 v' n xs /\ (∃ o,(w.alloc o).grownBy w' v.ownBlock) /\ (v'.ownBlock=v.ownBlock \/ v'.ownBlock=some (w.heap.size + 1))
section
variable (B:Nat) (v:Value) (n:Nat) (xs:List Value) (r:Int) (w:World) (hown:w.ownsRow B 5 1 v n xs) (hlen:n + 4 <= 140737488355328) (hBw:B <= w.heap.size)
include hown hlen hBw
theorem appTwo (h0:128 <= r) (h1:r <= 2047) :
 Calls Tryd.prog 69 #[v, .int .i32 r] w (Appd w B v (n + 2) (xs ++ [.int .u8 (192 + r / 64), .int .u8 (128 + r % 64)])):=by
 obtain ⟨i0,hi,hz0,hz1,hz2⟩:=info_parts scByte
 go_enter Tryd.func69,Tryd.ntmps69
 go_wp2_with (at_builtin; refine wpList_append_own_at _ rfl _ _ 22 rfl B 5 i0 (.int .u8 0) 1 1 Tryd.underlying22 hi hz0 hz1 hz2 rfl (by decide) _ _ _ rfl (hown.alloc _) ⟨w.heap.size,0,none⟩ 2 2 [.int .u8 (192 + r / 64), .int .u8 (128 + r % 64)] rfl rfl ?c1 ?c2 ?c3 ?c4 ?c5 ?_)
 all_goals first
  | (intro v' w2 hown' hgrow _ hat
     have HO:=hide' hown'
     have HG:=hide' hgrow
     have HA:=hide' hat
     clear hown' hgrow hat
     go_wp2
     go_ret
     exact ⟨_,rfl,HO.out,⟨_,HG.out⟩,by simpa using HA.out⟩)
  | (unfold maxLen; omega)
  | omega
  | (simp; omega)
  | rfl
  | (intro u hu; simp at hu; rcases hu with rfl | rfl <;> rfl)
  | (intro j u hj
     match j,hj with
     | 0,hj => simp at hj; subst hj; simp [Addr.add]
     | 1,hj => simp at hj; subst hj; simp [Addr.add]
     | (j + 2),hj => simp at hj)
theorem appLo (h0:2048 <= r) (h1:r < 55296) :
 Calls Tryd.prog 69 #[v, .int .i32 r] w (Appd w B v (n + 3) (xs ++ [.int .u8 (224 + r / 4096), .int .u8 (128 + r / 64 % 64), .int .u8 (128 + r % 64)])):=by
 obtain ⟨i0,hi,hz0,hz1,hz2⟩:=info_parts scByte
 go_enter Tryd.func69,Tryd.ntmps69
 go_wp2_with (at_builtin; refine wpList_append_own_at _ rfl _ _ 22 rfl B 5 i0 (.int .u8 0) 1 1 Tryd.underlying22 hi hz0 hz1 hz2 rfl (by decide) _ _ _ rfl (hown.alloc _) ⟨w.heap.size,0,none⟩ 3 3 [.int .u8 (224 + r / 4096), .int .u8 (128 + r / 64 % 64), .int .u8 (128 + r % 64)] rfl rfl ?c1 ?c2 ?c3 ?c4 ?c5 ?_)
 all_goals first
  | (intro v' w2 hown' hgrow _ hat
     have HO:=hide' hown'
     have HG:=hide' hgrow
     have HA:=hide' hat
     clear hown' hgrow hat
     go_wp2
     go_ret
     exact ⟨_,rfl,HO.out,⟨_,HG.out⟩,by simpa using HA.out⟩)
  | (unfold maxLen; omega)
  | omega
  | (simp; omega)
  | rfl
  | (intro u hu; simp at hu; rcases hu with rfl | rfl | rfl <;> rfl)
  | (intro j u hj
     match j,hj with
     | 0,hj => simp at hj; subst hj; simp [Addr.add]
     | 1,hj => simp at hj; subst hj; simp [Addr.add]
     | 2,hj => simp at hj; subst hj; simp [Addr.add]
     | (j + 3),hj => simp at hj)
theorem appHi (h0:57343 < r) (h1:r <= 65535) :
 Calls Tryd.prog 69 #[v, .int .i32 r] w (Appd w B v (n + 3) (xs ++ [.int .u8 (224 + r / 4096), .int .u8 (128 + r / 64 % 64), .int .u8 (128 + r % 64)])):=by
 obtain ⟨i0,hi,hz0,hz1,hz2⟩:=info_parts scByte
 go_enter Tryd.func69,Tryd.ntmps69
 go_wp2_with (at_builtin; refine wpList_append_own_at _ rfl _ _ 22 rfl B 5 i0 (.int .u8 0) 1 1 Tryd.underlying22 hi hz0 hz1 hz2 rfl (by decide) _ _ _ rfl (hown.alloc _) ⟨w.heap.size,0,none⟩ 3 3 [.int .u8 (224 + r / 4096), .int .u8 (128 + r / 64 % 64), .int .u8 (128 + r % 64)] rfl rfl ?c1 ?c2 ?c3 ?c4 ?c5 ?_)
 all_goals first
  | (intro v' w2 hown' hgrow _ hat
     have HO:=hide' hown'
     have HG:=hide' hgrow
     have HA:=hide' hat
     clear hown' hgrow hat
     go_wp2
     go_ret
     exact ⟨_,rfl,HO.out,⟨_,HG.out⟩,by simpa using HA.out⟩)
  | (unfold maxLen; omega)
  | omega
  | (simp; omega)
  | rfl
  | (intro u hu; simp at hu; rcases hu with rfl | rfl | rfl <;> rfl)
  | (intro j u hj
     match j,hj with
     | 0,hj => simp at hj; subst hj; simp [Addr.add]
     | 1,hj => simp at hj; subst hj; simp [Addr.add]
     | 2,hj => simp at hj; subst hj; simp [Addr.add]
     | (j + 3),hj => simp at hj)
theorem appFour (h0:65536 <= r) (h1:r <= 1114111) :
 Calls Tryd.prog 69 #[v, .int .i32 r] w (Appd w B v (n + 4) (xs ++ [.int .u8 (240 + r / 262144), .int .u8 (128 + r / 4096 % 64), .int .u8 (128 + r / 64 % 64), .int .u8 (128 + r % 64)])):=by
 obtain ⟨i0,hi,hz0,hz1,hz2⟩:=info_parts scByte
 go_enter Tryd.func69,Tryd.ntmps69
 go_wp2_with (at_builtin; refine wpList_append_own_at _ rfl _ _ 22 rfl B 5 i0 (.int .u8 0) 1 1 Tryd.underlying22 hi hz0 hz1 hz2 rfl (by decide) _ _ _ rfl (hown.alloc _) ⟨w.heap.size,0,none⟩ 4 4 [.int .u8 (240 + r / 262144), .int .u8 (128 + r / 4096 % 64), .int .u8 (128 + r / 64 % 64), .int .u8 (128 + r % 64)] rfl rfl ?c1 ?c2 ?c3 ?c4 ?c5 ?_)
 all_goals first
  | (intro v' w2 hown' hgrow _ hat
     have HO:=hide' hown'
     have HG:=hide' hgrow
     have HA:=hide' hat
     clear hown' hgrow hat
     go_wp2
     go_ret
     exact ⟨_,rfl,HO.out,⟨_,HG.out⟩,by simpa using HA.out⟩)
  | (unfold maxLen; omega)
  | omega
  | (simp; omega)
  | rfl
  | (intro u hu; simp at hu; rcases hu with rfl | rfl | rfl | rfl <;> rfl)
  | (intro j u hj
     match j,hj with
     | 0,hj => simp at hj; subst hj; simp [Addr.add]
     | 1,hj => simp at hj; subst hj; simp [Addr.add]
     | 2,hj => simp at hj; subst hj; simp [Addr.add]
     | 3,hj => simp at hj; subst hj; simp [Addr.add]
     | (j + 4),hj => simp at hj)
theorem appOne (h0:0 <= r) (h1:r <= 127) :
 Calls Tryd.prog 53 #[v, .int .i32 r] w (Appd w B v (n + 1) (xs ++ [.int .u8 r])):=by
 obtain ⟨i0,hi,hz0,hz1,hz2⟩:=info_parts scByte
 go_enter Tryd.func53,Tryd.ntmps53
 go_wp2_with (at_builtin; refine wpList_append_own_at _ rfl _ _ 22 rfl B 5 i0 (.int .u8 0) 1 1 Tryd.underlying22 hi hz0 hz1 hz2 rfl (by decide) _ _ _ rfl (hown.alloc _) ⟨w.heap.size,0,none⟩ 1 1 [.int .u8 r] rfl rfl ?c1 ?c2 ?c3 ?c4 ?c5 ?_)
 all_goals first
  | (intro v' w2 hown' hgrow _ hat
     have HO:=hide' hown'
     have HG:=hide' hgrow
     have HA:=hide' hat
     clear hown' hgrow hat
     go_wp2
     go_ret
     exact ⟨_,rfl,HO.out,⟨_,HG.out⟩,by simpa using HA.out⟩)
  | (unfold maxLen; omega)
  | omega
  | (simp; omega)
  | rfl
  | (intro u hu; simp at hu; subst hu; rfl)
  | (intro j u hj
     match j,hj with
     | 0,hj => simp at hj; subst hj; simp [Addr.add]
     | (j + 1),hj => simp at hj)
theorem appMany (h0:128 <= r) (h1:r < 55296 \/ 57343 < r) (h2:r <= 1114111) :
 Calls Tryd.prog 69 #[v, .int .i32 r] w (Appd w B v (n + (runeCells r).length) (xs ++ runeCells r)):=by
 by_cases c1:r <= 2047
 . rw [show runeCells r = [.int .u8 (192 + r / 64), .int .u8 (128 + r % 64)] by simp [runeCells,encodeRuneZ_two (by omega) c1]]
   exact appTwo B v n xs r w hown hlen hBw h0 c1
 by_cases c2:r < 55296
 . rw [show runeCells r = [.int .u8 (224 + r / 4096), .int .u8 (128 + r / 64 % 64), .int .u8 (128 + r % 64)] by simp [runeCells,encodeRuneZ_three (Or.inl ⟨by omega,c2⟩)]]
   exact appLo B v n xs r w hown hlen hBw (by omega) c2
 by_cases c4:r <= 65535
 . rw [show runeCells r = [.int .u8 (224 + r / 4096), .int .u8 (128 + r / 64 % 64), .int .u8 (128 + r % 64)] by simp [runeCells,encodeRuneZ_three (Or.inr ⟨by omega,c4⟩)]]
   exact appHi B v n xs r w hown hlen hBw (by omega) c4
 . rw [show runeCells r = [.int .u8 (240 + r / 262144), .int .u8 (128 + r / 4096 % 64), .int .u8 (128 + r / 64 % 64), .int .u8 (128 + r % 64)] by simp [runeCells,encodeRuneZ_four (by omega) h2]]
   exact appFour B v n xs r w hown hlen hBw (by omega) h2
theorem appOther (h0:128 <= r) (h1:r < 55296 \/ 57343 < r) (h2:r <= 1114111) :
 Calls Tryd.prog 53 #[v, .int .i32 r] w (Appd w B v (n + (runeCells r).length) (xs ++ runeCells r)):=by
 have cM:=appMany B v n xs r w hown hlen hBw h0 h1 h2
 clear hown
 go_enter Tryd.func53,Tryd.ntmps53
 go_wp2_with (go_at_call 69; refine cM.mono ?_)
 rintro e w1 ⟨v',rfl,k1,k2,k3⟩
 have HO:=hide' k1
 have HG:=hide' k2
 have HA:=hide' k3
 clear k1 k2 k3 cM
 go_wp2
 go_ret
 exact ⟨_,rfl,HO.out,HG.out,HA.out⟩
end
structure Grew (w:World) (v:Value) (w':World) (v':Value) : Prop where
 os:w'.os=w.os
 tape:w'.tape=w.tape
 output:w'.output=w.output
 size:w.heap.size <= w'.heap.size
 block : ∀ k,k < w.heap.size -> v.ownBlock ≠ some k -> w'.heap[k]? = w.heap[k]?
 own:v'.ownBlock=v.ownBlock \/ ∀ q,v'.ownBlock=some q -> w.heap.size <= q
theorem appRune_any (B:Nat) (v:Value) (l:List UInt8) (r:Nat) (w:World) (hown:w.ownsRow B 5 1 v l.length (byteCells l)) (hlen:l.length + 4 <= 140737488355328) (hBw:B <= w.heap.size) (hr:Rn.scal r) :
 Calls Tryd.prog 53 #[v, .int .i32 r] w fun e w' => ∃ v',e = .returned v' /\ w'.ownsRow B 5 1 v' (l ++ encodeRune r).length (byteCells (l ++ encodeRune r)) /\ Grew w v w' v':=by
 have e1:byteCells (l ++ encodeRune r)=byteCells l ++ runeCells (r:Int):=by
  rw [<- byteCells_encodeRune]
  simp [byteCells]
 have e2:(l ++ encodeRune r).length=l.length + (runeCells (r:Int)).length:=by rw [runeCells_length,List.length_append]
 rw [e1,e2]
 have key:Calls Tryd.prog 53 #[v, .int .i32 r] w (Appd w B v (l.length + (runeCells (r:Int)).length) (byteCells l ++ runeCells (r:Int))):=by
  by_cases c:r <= 127
  . rw [show runeCells (r:Int) = [.int .u8 r] by simp [runeCells,encodeRuneZ_one (r:=(r:Int)) (by omega) (by omega)]]
    exact appOne B v l.length (byteCells l) r w hown hlen hBw (by omega) (by omega)
  . exact appOther B v l.length (byteCells l) r w hown hlen hBw (by omega) (by have:=hr.2; omega) (by have:=hr.1; omega)
 refine key.mono ?_
 rintro e w' ⟨v',rfl,k1,⟨o,k2⟩,k3⟩
 have hs:=k2.size
 simp at hs
 refine ⟨v',rfl,k1,k2.os,k2.tape,k2.output,by omega,fun k hk hn => ?_, ?_⟩
 . refine (k2.block k (by simp; omega) (fun e => hn e.symm)).trans ?_
   exact ((Below.refl _ _).alloc (Nat.le_refl _) o:Below w.heap.size w (w.alloc o)).block k hk
 . rcases k3 with k3 | k3
   . exact .inl k3
   . right
     intro q hq
     rw [k3] at hq
     cases hq
     omega
end Go.Proofs.YteiiepjegdlbeaaDoor
