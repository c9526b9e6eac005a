import Derived.Test.YteiiepjegdlbeaaDoorFdDrop
import Derived.Deep.AppendLies
set_option maxHeartbeats 8000000
set_option maxRecDepth 100000
namespace Go.Proofs.YteiiepjegdlbeaaDoor
open Go.RowKit Go.Lib
theorem next_row {W:World} {B N q:Nat} {v:Value} {g:Nat -> Nat} (h:W.ownsRow B 5 1 v N (xs g N)) (hT:Lib.Utf8Tabs 2 3 W) (hg : ∀ j,g j < 256) (hq:q <= N) :
 Calls Tryd.prog 77 #[v, .int .i64 q] W fun e W' => e = .returned (.tuple #[.int .i32 (Rn.nx (Rn.off g q) (N - q)).1, .int .i64 (Rn.nx (Rn.off g q) (N - q)).2.1, .int .i64 (Rn.nx (Rn.off g q) (N - q)).2.2, .int .i64 0]) /\ Below W.heap.size W W':=by
 have hz : ∀ f,Rn.nx f 0=(0,0,3):=fun f => rfl
 rcases owns_row h with ⟨rfl,rfl⟩ | ⟨p,cap,rfl,hq1,hq2,hc,hm,hby⟩
 . obtain rfl:q=0:=by omega
   rw [hz]
   exact (next_nil W).mono fun e w' hh => ⟨hh.1,by rw [hh.2]; exact Below.refl _ _⟩
 . by_cases hkn : q = N
   . subst hkn
     rw [Nat.sub_self,hz]
     exact (next_done p 0 q cap W hc hm).mono fun e w' hh => ⟨hh.1,by rw [hh.2]; exact Below.refl _ _⟩
   . exact next_in g N p 0 cap q W hT hg (by omega) hc hm hby
theorem tabs_but {D:Nat} {v:Value} {w w':World} (hT:Lib.Utf8Tabs 2 3 w) (h:ButF D v w w') (hD:2 < D /\ 3 < D) (hv : ∀ q,v.ownBlock=some q -> 2 < q /\ 3 < q) : Lib.Utf8Tabs 2 3 w':=by
 have hb : ∀ k,k=2 \/ k=3 -> k < w.heap.size -> w'.heap[k]? = w.heap[k]? := fun k hk hl => h.block k hl (by omega) (fun e => by have:=hv k e; omega)
 constructor
 . intro c hc
   have e:=hT.1 c hc
   exact (World.cell?_of_block (a:=⟨2,c,none⟩) (hb _ (.inl rfl) (block_lt_of_cell e))).trans e
 . intro i hi
   obtain ⟨e1,e2⟩:=hT.2 i hi
   exact ⟨(World.cell?_of_block (a:=⟨3,2 * i,none⟩) (hb _ (.inr rfl) (block_lt_of_cell e1))).trans e1,(World.cell?_of_block (a:=⟨3,2 * i + 1,none⟩) (hb _ (.inr rfl) (block_lt_of_cell e2))).trans e2⟩
theorem xs_join (g f h:Nat -> Nat) (n m:Nat) (h1 : ∀ j,j < n -> h j=g j) (h2 : ∀ j,j < m -> h (n + j)=f j) : xs g n ++ xs f m=xs h (n + m):=by
 apply List.ext_getElem?
 intro j
 by_cases hj:j < n
 . rw [List.getElem?_append_left (by rw [xs_length]; exact hj),xs_at _ _ _ hj,xs_at _ _ _ (by omega),h1 j hj]
 . by_cases hj2:j < n + m
   . rw [List.getElem?_append_right (by rw [xs_length]; omega),xs_length,xs_at _ _ _ (by omega),xs_at _ _ _ hj2, <- h2 (j - n) (by omega),show n + (j - n)=j by omega]
   . rw [List.getElem?_eq_none (by rw [List.length_append,xs_length,xs_length]; omega),List.getElem?_eq_none (by rw [xs_length]; omega)]
def Fd.qOf (w:World) (D:Nat) : Nat:=(RowKit.intOf ((w.cell? ⟨D,2,none⟩).getD undef)).toNat
theorem FeedAt.qOf {w:World} {D B:Nat} {v:Value} {g:Nat -> Nat} {n k wh pb pr pl pc:Nat} {bad ended:Bool} (h:FeedAt w D B v g n k wh pb pr pl pc bad ended) : Fd.qOf w D=wh:=by
 unfold Fd.qOf
 rw [h.cell.2.2.1]
 simp [RowKit.intOf]
theorem FeedAt.set2 {w:World} {D B:Nat} {v:Value} {g:Nat -> Nat} {n k wh pb pr pl pc:Nat} {bad ended:Bool} (h:FeedAt w D B v g n k wh pb pr pl pc bad ended) (q:Nat) : FeedAt (w.setCell ⟨D,2,none⟩ (.int .i64 q)) D B v g n k q pb pr pl pc bad ended :=
 ⟨Go.Joins.block_setCell (i:=2) h.1 _,h.2.setOther h.block_ne _⟩
theorem FeedAt.set7 {w:World} {D B:Nat} {v:Value} {g:Nat -> Nat} {n k wh pb pr pl pc:Nat} {bad ended:Bool} (h:FeedAt w D B v g n k wh pb pr pl pc bad ended) (b:Bool) : FeedAt (w.setCell ⟨D,7,none⟩ (.bool b)) D B v g n k wh pb pr pl pc b ended :=
 ⟨Go.Joins.block_setCell (i:=7) h.1 _,h.2.setOther h.block_ne _⟩
theorem xs_take (g:Nat -> Nat) (n m:Nat) (h:m <= n) : (xs g n).take m=xs g m:=by
 unfold xs
 rw [<- List.map_take,List.take_range,Nat.min_eq_left h]
theorem owns_take {w:World} {B N M b cap:Nat} {g:Nat -> Nat} (h:w.ownsRow B 5 1 (.slice (some ⟨b,0,none⟩) N cap) N (xs g N)) (hM:M <= N) : w.ownsRow B 5 1 (.slice (some ⟨b,0,none⟩) M cap) M (xs g M):=by
 refine ⟨by rw [xs_length,Nat.mul_one], .inr ?_⟩
 rcases h.2 with ⟨h1,_⟩ | ⟨q,c,cur,hv,hb,hg,h2,h3,h4,h5⟩
 . cases h1
 . cases hv
   refine ⟨b,cap,cur,rfl,hb,hg,by omega,h3,h4, ?_⟩
   rw [Nat.mul_one] at h5 ⊢
   rw [<- xs_take g N M hM, <- h5,List.take_take,Nat.min_eq_left hM]
theorem FeedAt.set0 {w:World} {D B:Nat} {v v':Value} {g:Nat -> Nat} {n n' k wh pb pr pl pc:Nat} {bad ended:Bool} (h:FeedAt w D B v g n k wh pb pr pl pc bad ended) (ho:w.ownsRow B 5 1 v' n' (xs g n')) (hv:v'.ownBlock ≠ some D) : FeedAt (w.setCell ⟨D,0,none⟩ v') D B v' g n' k wh pb pr pl pc bad ended :=
 ⟨Go.Joins.block_setCell (i:=0) h.1 _,ho.setOther hv _⟩
structure AddEnd (D B:Nat) (v:Value) (G:Nat -> Nat) (N k wh pb pr pl pc:Nat) (ended:Bool) (w w':World) : Prop where
 but:ButF D v w w'
 is : ∃ v' q n' bad,FeedAt w' D B v' G n' k q pb pr pl pc bad ended /\ (v'.ownBlock=v.ownBlock \/ ∃ X,w.heap.size <= X /\ v'.ownBlock=some X) /\
  Fd.Run G N wh q /\ Rn.whole (Rn.off G q) (N - q)=false /\ (bad=false -> n'=N /\ (q=N \/ Rn.waits (Rn.off G q) (N - q)=true)) /\
  (bad=true -> q < N /\ Rn.waits (Rn.off G q) (N - q)=false /\ n'=q + Rn.fk (Rn.off G q) (N - q) + 1)
theorem feedAdd_any {D B:Nat} {v:Value} {g:Nat -> Nat} {n k wh pb pr pl pc:Nat} {ended:Bool} {w:World} (h:FeedAt w D B v g n k wh pb pr pl pc false ended)
 (hT:Lib.Utf8Tabs 2 3 w) (hD:2 < D /\ 3 < D) (hBB:2 < B /\ 3 < B) (hBw:B <= w.heap.size) (hwh:wh <= n)
 (ad:Addr) (m c:Nat) (f G:Nat -> Nat) (hG : ∀ j,G j < 256) (hG1 : ∀ j,j < n -> G j=g j) (hG2 : ∀ j,j < m -> G (n + j)=f j) (hc : ∀ j u,(xs f m)[j]? = some u -> w.cell? (ad.add j)=some u) (hlen:n + m <= 140737488355328) (N:Nat) (hN:N=n + m) :
 Calls Tryd.prog 87 #[.pointer (some ⟨D,0,none⟩), .slice (some ad) m c] w fun e w' => e = .returned (.tuple #[]) /\ AddEnd D B v G N k wh pb pr pl pc ended w w':=by
 obtain ⟨i0,hi,hz0,hz1,hz2⟩:=info_parts infoByte'
 obtain ⟨c0,c1,c2, -, -, -, -, -, -⟩:=h.cell
 have hlt:=h.lt
 have H:=hide' h
 have hown:=h.2
 have hne:=h.block_ne
 have f0:=h.fz 0
 clear h
 go_enter Tryd.func87,Tryd.ntmps87
 go_wp2_with (at_builtin; refine wpList_append_own_at _ rfl _ _ 22 rfl B 5 i0 (.int .u8 0) 1 1 Tryd.underlying22 hi hz0 hz1 hz2 rfl (by decide) v n (xs g n) rfl hown ad m c (xs f m) rfl ?b0 hc (one_cell f m) ?b1 ?b2 ?b3 ?_)
 case b0 => first | exact xs_length f m | (rw [xs_length]; omega)
 case b1 => unfold maxLen; omega
 case b2 => omega
 case b3 => exact hBw
 intro v1 w1 hown1 hgrow1 hnn1 hat1
 rw [xs_join g f G n m hG1 hG2, <- hN] at hown1
 obtain ⟨p1,cap1,rfl⟩ : ∃ p1 cap1,v1 = .slice p1 N cap1:=by
  rcases owns_row hown1 with ⟨e1,e2⟩ | ⟨q,cap,e1,_⟩
  . exact ⟨none,0,by rw [e1,e2]⟩
  . exact ⟨_,_,e1⟩
 have hD1:w1.heap[D]? = w.heap[D]? := hgrow1.block D hlt (fun e => hne e.symm)
 have hF1:FeedAt (w1.setCell ⟨D,0,none⟩ (.slice p1 N cap1)) D B (.slice p1 N cap1) G N k wh pb pr pl pc false ended:=by
  have hb:(Value.slice p1 N cap1).ownBlock ≠ some D:=by
   intro e
   rcases hat1 with e1 | e1
   . exact hne (by rw [<- e1,e])
   . rw [e] at e1
     have:=Option.some.inj e1
     omega
  exact ⟨Go.Joins.block_setCell (i:=0) (hD1.trans H.out.1) _,hown1.setOther hb _⟩
 have hBu1:ButF D v w (w1.setCell ⟨D,0,none⟩ (.slice p1 N cap1)):=by
  have:ButF D v w w1:=⟨hgrow1.os,hgrow1.tape,hgrow1.output,hgrow1.size,fun k hk _ hv => hgrow1.block k hk (fun e => hv e.symm)⟩
  exact this.setCell rfl _
 have hx0:w1.cell? ⟨D,0,none⟩ = some v:=(World.cell?_of_block (a:=⟨D,0,none⟩) hD1).trans c0
 have hxf:w1.frozen? ⟨D,0,none⟩ = false:=(World.frozen?_of_block (a:=⟨D,0,none⟩) hD1).trans f0
 have hat:(Value.slice p1 N cap1).ownBlock=v.ownBlock \/ ∃ X,w.heap.size <= X /\ (Value.slice p1 N cap1).ownBlock=some X:=hat1.imp id (fun e => ⟨_,Nat.le_refl _,e⟩)
 have hrow : ∀ q,v.ownBlock=some q -> 2 < q /\ 3 < q:=fun q hq => by have:=(hown.lt q hq).1; omega
 have hT1:=tabs_but hT hBu1 hD hrow
 have hwN:wh <= N:=by omega
 have hNl:N <= 140737488355328:=by omega
 clear hown hc hown1 hgrow1 hnn1 hat1 hD1 H c1 c2 c0 f0 hT hN hlen hwh hG1 hG2
 go_wp2
 generalize w1.setCell ⟨D,0,none⟩ (.slice p1 N cap1)=W at *
 clear hx0 hxf w1
 obtain ⟨x0, -,x2, -, -, -, -, -, -⟩:=hF1.cell
 have g02:W.drew.cell? ⟨D,0,none⟩ = some (.slice p1 N cap1) /\ W.drew.cell? ⟨D,2,none⟩ = some (.int .i64 wh):=⟨x0,x2⟩
 have cN1:=next_row (W:=W.drew) (q:=wh) (hF1.below (Below.refl _ _).drew).2 (tabs_below hT1 (Below.refl _ _).drew (Nat.le_refl _)) hG (by omega)
 have hcell:Hid (∀ W',Below W.drew.heap.size W.drew W' -> W'.cell? ⟨D,0,none⟩ = some (.slice p1 N cap1) /\ W'.cell? ⟨D,2,none⟩ = some (.int .i64 wh)):=fun W' hb => ⟨((hF1.below (Below.refl _ _).drew).below hb).cell.1,((hF1.below (Below.refl _ _).drew).below hb).cell.2.2.1⟩
 go_region_held3 (fun w' => w'.cell? ⟨D,0,none⟩ = some (.slice p1 N cap1) /\ w'.cell? ⟨D,2,none⟩ = some (.int .i64 wh)) (first | (with_reducible exact g02) | (with_reducible exact g03))
  (first | (go_at_call 77; refine cN1.mono ?_; rintro e W1 ⟨rfl,hb1⟩; have g03:=hcell.out W1 hb1))
 have hBW:Below W.heap.size W W1:=(Below.refl _ _).drew.trans hb1
 have hF2:=hF1.below hBW
 have hBu2:ButF D v w W1:=hBu1.trans (.of_below hBW)
 have hT2:=tabs_below hT1 hBW (Nat.le_refl _)
 clear cN1 hcell g02 g03 x0 x2 hF1 hBu1 hT1 hb1 hBW
 have hrun:Fd.Run G N wh wh := .refl _
 go_wp2
 go_loopw [5,6] (fun z y wr => ∃ q:Nat,z = .int .i64 (Rn.nx (Rn.off G q) (N - q)).2.1 /\ y = .int .i64 (Rn.nx (Rn.off G q) (N - q)).2.2 /\ q <= N /\ FeedAt wr D B (.slice p1 N cap1) G N k q pb pr pl pc false ended /\ Fd.Run G N wh q /\ ButF D v w wr /\ Lib.Utf8Tabs 2 3 wr) (fun _ _ wr => N - Fd.qOf wr D)
 case atStart => exact ⟨wh,rfl,rfl,hwN,hF2,hrun,hBu2,hT2⟩
 case round =>
  clear hF2 hBu2 hT2 hrun hwN
  obtain ⟨q,rfl,rfl,hq,hF,hrun,hBu,hTq⟩:=hrel
  have hqo:=hide' hF.qOf
  obtain ⟨x0, -,x2, -, -, -, -,x7, -⟩:=hF.cell
  have z0:=hF.fz 0
  have z2:=hF.fz 2
  have z7:=hF.fz 7
  have HF:=hide' hF
  have HBu:=hide' hBu
  have HT:=hide' hTq
  have HR:=hide' hrun
  clear hF hBu hTq hrun
  cases hw:Rn.whole (Rn.off G q) (N - q)
  . cases hwt:Rn.waits (Rn.off G q) (N - q)
    . by_cases hqN : q = N
      . subst hqN
        have e:Rn.nx (Rn.off G q) (q - q)=(0,0,3):=by rw [Nat.sub_self]; rfl
        rw [e]
        have HW:=hide' hw
        clear hw hwt e
        go_wp2
        go_end0
        exact ⟨rfl,HBu.out,_,q,q,false,HF.out,hat,HR.out,HW.out,fun _ => ⟨rfl, .inl rfl⟩,fun e => by cases e⟩
      . rw [Rn.nx_bad (by omega) hwt hw]
        have hfk:=Fd.fk_lt (show 0 < N - q by omega) hw hwt
        rcases owns_row HF.out.2 with ⟨_,e2⟩ | ⟨b,cap,e1,hb1,hb2,hc1,hm1,hby⟩
        . exfalso; omega
        obtain ⟨rfl,rfl⟩ : p1=some ⟨b,0,none⟩ /\ cap1=cap:=by cases e1; exact ⟨rfl,rfl⟩
        clear e1
        have hm':cap1 <= 9223372036854775807:=by unfold maxLen at hm1; omega
        have hF4:=HF.out.set7 true
        have hB4:ButF D v w (wr.setCell ⟨D,7,none⟩ (.bool true)):=HBu.out.setCell rfl _
        have hT4:=tabs_but HT.out ((ButF.refl D v wr).setCell (p:=⟨D,7,none⟩) rfl (.bool true)) hD hrow
        obtain ⟨a,ha⟩ : ∃ a,Rn.fk (Rn.off G q) (N - q)=a:=⟨_,rfl⟩
        have hgd:Hid (Rn.good (Rn.off G q) (N - q)=a):=(Fd.good_bad (show 0 < N - q by omega) hw).trans ha
        have HEND:Hid (Fd.Run G N wh q /\ Rn.whole (Rn.off G q) (N - q)=false /\ q < N /\ Rn.waits (Rn.off G q) (N - q)=false /\ Rn.fk (Rn.off G q) (N - q)=a):=⟨HR.out,hw,by omega,hwt,ha⟩
        rw [ha] at hfk
        clear hw hwt ha HF HBu HT HR hby
        go_wp2
        generalize wr.setCell ⟨D,7,none⟩ (.bool true)=W4 at *
        have hF5:=hF4.below (Below.refl _ _).drew
        have hby:=bytes_of_owns hF5.2
        have cG:=good_any (Rn.off G q) (N - q) b (0 + q) (cap1 - q) W4.drew (tabs_below hT4 (Below.refl _ _).drew (Nat.le_refl _)) (fun j => hG _) (by omega) (by omega) (hby.off (by omega))
        rw [hgd.out,Nat.zero_add] at cG
        obtain ⟨y0, -,y2, -, -, -, -, -, -⟩:=hF5.cell
        have yz:=hF5.fz 0
        have hcell:Hid (∀ W',Below W4.drew.heap.size W4.drew W' -> W'.cell? ⟨D,0,none⟩ = some (.slice (some ⟨b,0,none⟩) N cap1) /\ W'.cell? ⟨D,2,none⟩ = some (.int .i64 q) /\ W'.frozen? ⟨D,0,none⟩ = false):=fun W' hb => ⟨(hF5.below hb).cell.1,(hF5.below hb).cell.2.2.1,(hF5.below hb).fz 0⟩
        have HF5:=hide' hF5
        have HB4:=hide' hB4
        have i1:(0:Int) <= (q:Int):=by omega
        have i2:(q:Int) <= (N:Int):=by omega
        have i3 : ¬ cap1 - q=0:=by omega
        have i4 : ¬ cap1=q:=by omega
        have i5:IntKind.i64.wrap ((q:Int) + (a:Int))=(q:Int) + (a:Int):=by rw [IntKind.wrap_i64]; omega
        have i6:IntKind.i64.wrap ((q:Int) + (a:Int) + 1)=(q:Int) + (a:Int) + 1:=by rw [IntKind.wrap_i64]; omega
        have i7:(0:Int) <= (q:Int) + (a:Int) + 1:=by omega
        have i8:(q:Int) + (a:Int) + 1 <= (cap1:Int):=by omega
        clear hF4 hB4 hT4 hF5 hby x0 x2 x7 z0 z2 z7 hgd hqo
        go_region_with (first | (go_at_call 85; refine cG.mono ?_; rintro e W5 ⟨rfl,hb5⟩; obtain ⟨y1,y3,y4⟩:=hcell.out W5 hb5))
        all_goals go_wp2
        all_goals go_end0
        all_goals obtain ⟨E1,E2,E3,E4,E5⟩:=HEND.out
        all_goals have hF7:=HF5.out.below hb5
        all_goals have hB7:ButF D v w W5:=HB4.out.trans (.of_below ((Below.refl _ _).drew.trans hb5))
        all_goals have hn7:(Value.slice (some ⟨b,0,none⟩) (q + a + 1) cap1).ownBlock ≠ some D:=hF7.block_ne
        all_goals exact ⟨rfl,hB7.setCell rfl _,_,q,q + a + 1,true,hF7.set0 (owns_take hF7.2 (by omega)) hn7,hat,E1,E2,fun e => (by cases e),fun _ => ⟨E3,E4,by rw [E5]⟩⟩
    . rw [(Rn.nx_waits hwt).1]
      have HW:=hide' hw
      have HWT:=hide' hwt
      clear hw hwt
      go_wp2
      go_end0
      exact ⟨rfl,HBu.out,_,q,N,false,HF.out,hat,HR.out,HW.out,fun _ => ⟨rfl, .inr HWT.out⟩,fun e => by cases e⟩
  . rw [Rn.nx_whole hw]
    obtain ⟨l1,l2, -, -⟩:=Fd.whole_lt hw
    have HR2:=hide' (HR.out.trans (Fd.Run.one hw))
    clear hw HR
    generalize Rn.fs (Rn.off G q) (N - q)=z at *
    obtain ⟨q2,hq2⟩ : ∃ q2,q + z=q2:=⟨_,rfl⟩
    rw [hq2] at HR2
    have hF3:=HF.out.set2 q2
    have hBu3:ButF D v w (wr.setCell ⟨D,2,none⟩ (.int .i64 (q2:Nat))):=HBu.out.setCell rfl _
    have hT3:=tabs_but HT.out ((ButF.refl D v wr).setCell (p:=⟨D,2,none⟩) rfl (.int .i64 (q2:Nat))) hD hrow
    have ez:((q2:Nat) : Int)=(q:Int) + (z:Int):=by omega
    have q2N:q2 <= N:=by omega
    have q2q:q < q2:=by omega
    rw [ez] at hF3 hBu3 hT3
    clear HF HBu HT ez hq2
    go_wp2
    generalize wr.setCell ⟨D,2,none⟩ (.int .i64 ((q:Int) + (z:Int)))=W3 at *
    have hF5:=hF3.below (Below.refl _ _).drew
    have cN3:=next_row (W:=W3.drew) (q:=q2) hF5.2 (tabs_below hT3 (Below.refl _ _).drew (Nat.le_refl _)) hG q2N
    obtain ⟨y0, -,y2, -, -, -, -, -, -⟩:=hF5.cell
    have g02:W3.drew.cell? ⟨D,0,none⟩ = some (.slice p1 N cap1) /\ W3.drew.cell? ⟨D,2,none⟩ = some (.int .i64 q2):=⟨y0,y2⟩
    have hcell:Hid (∀ W',Below W3.drew.heap.size W3.drew W' -> W'.cell? ⟨D,0,none⟩ = some (.slice p1 N cap1) /\ W'.cell? ⟨D,2,none⟩ = some (.int .i64 q2)):=fun W' hb => ⟨(hF5.below hb).cell.1,(hF5.below hb).cell.2.2.1⟩
    have HF5:=hide' hF5
    have HB3:=hide' hBu3
    have HT3:=hide' hT3
    clear hF3 hBu3 hT3 hF5 x0 x2 x7 z0 z2 z7 y0 y2
    go_region_held3 (fun w' => w'.cell? ⟨D,0,none⟩ = some (.slice p1 N cap1) /\ w'.cell? ⟨D,2,none⟩ = some (.int .i64 q2)) (first | (with_reducible exact g02) | (with_reducible exact g03))
     (first | (go_at_call 77; refine cN3.mono ?_; rintro e W5 ⟨rfl,hb5⟩; have g03:=hcell.out W5 hb5))
    have hF6:=HF5.out.below hb5
    have h35:Below W3.heap.size W3 W5:=(Below.refl _ _).drew.trans hb5
    have hB6:ButF D v w W5:=HB3.out.trans (.of_below h35)
    have hT6:=tabs_below HT3.out h35 (Nat.le_refl _)
    have hq6:=hide' hF6.qOf
    clear cN3 hcell g02 g03 hb5 HF5 HB3 HT3 h35
    go_wp2
    go_roundw
    case rel => exact ⟨q2,rfl,rfl,q2N,hF6,HR2.out,hB6,hT6⟩
    case measure => rw [hq6.out,hqo.out]; omega
end Go.Proofs.YteiiepjegdlbeaaDoor
