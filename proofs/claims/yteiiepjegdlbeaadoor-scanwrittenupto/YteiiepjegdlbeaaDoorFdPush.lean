import Derived.Test.YteiiepjegdlbeaaDoorFdAdd
import Derived.Test.YteiiepjegdlbeaaDoorFdSt
set_option maxHeartbeats 400000
namespace Go.Proofs.YteiiepjegdlbeaaDoor
open Go.RowKit Go.Lib
section
variable {D B:Nat} {v:Value} {g:Nat -> Nat} {n k wh pb pr pl pc:Nat} {bad ended:Bool} {w:World}
theorem push_bad (h:FeedAt w D B v g n k wh pb pr pl pc true false) (x:Value) :
 Calls Tryd.prog 73 #[.pointer (some ⟨D,0,none⟩),x] w fun e w' => e = .returned (.int .i64 0) /\ w'=w:=by
 obtain ⟨-, -, -, -, -, -, -,c7,c8⟩:=h.cell
 clear h
 go_enter Tryd.func73,Tryd.ntmps73
 go_wp2
 go_ret
 exact ⟨rfl,rfl⟩
theorem push_walk (h:FeedAt w D B v g n k wh pb pr pl pc false false) (x:Value) (R:World -> World -> Prop)
 (cD : ∃ Q:World -> Prop,(Calls Tryd.prog 86 #[.pointer (some ⟨D,0,none⟩)] w fun e w' => e = .returned (.tuple #[]) /\ Q w') /\
  ∀ w1,Q w1 -> Calls Tryd.prog 87 #[.pointer (some ⟨D,0,none⟩),x] w1 fun e w' => e = .returned (.tuple #[]) /\ R w w') :
 Calls Tryd.prog 73 #[.pointer (some ⟨D,0,none⟩),x] w fun e w' => e = .returned (.int .i64 0) /\ R w w':=by
 obtain ⟨-, -, -, -, -, -, -,c7,c8⟩:=h.cell
 clear h
 obtain ⟨Q,c1,c2⟩:=cD
 go_enter Tryd.func73,Tryd.ntmps73
 go_wp2_with fail
 refine c1.mono ?_
 rintro e w1 ⟨rfl,hq⟩
 have c3:=c2 w1 hq
 clear c1 c2 hq
 go_wp2_with fail
 refine c3.mono ?_
 rintro e w2 ⟨rfl,hr⟩
 have HR:=hide' hr
 clear hr c3
 go_wp2_with fail
 go_ret
 exact ⟨rfl,HR.out⟩
end
theorem tabs_put {D:Nat} {v:Value} {w w':World} (hT:Lib.Utf8Tabs 2 3 w) (h:ButF D v w w') {B:Nat} (hBB:2 < B /\ 3 < B) (hD:B <= D) (hv : ∀ q,v.ownBlock=some q -> B <= q /\ q < w.heap.size) : Lib.Utf8Tabs 2 3 w' :=
 tabs_but hT h ⟨by omega,by omega⟩ (fun q hq => by have:=(hv q hq).1; omega)
theorem feedPush_abs {w:World} {D B:Nat} {F G:Nat -> Nat} {N T:Nat} {v:Value} {p:Nat × Nat × Nat} (h:Feed w D B F N T false v p)
 (hT:Lib.Utf8Tabs 2 3 w) (hBB:2 < B /\ 3 < B) (hD:B <= D)
 (ad:Addr) (m c:Nat) (f:Nat -> Nat) (hG : ∀ j,G j < 256) (hG1 : ∀ j,j < N -> F j=G j) (hG2 : ∀ j,j < m -> G (N + j)=f j) (hc : ∀ j u,(xs f m)[j]? = some u -> w.cell? (ad.add j)=some u) (had:ad.block ≠ D /\ v.ownBlock ≠ some ad.block) (hlen:N + m <= 140737488355328) :
 Calls Tryd.prog 73 #[.pointer (some ⟨D,0,none⟩), .slice (some ad) m c] w fun e w' => e = .returned (.int .i64 0) /\ ∃ v',Feed w' D B G (N + m) T false v' p /\ (v'.ownBlock=v.ownBlock \/ ∃ X,w.heap.size <= X /\ v'.ownBlock=some X) /\ ButF D v w w':=by
 have hrow:=h.row
 have hDlt:=h.lt
 obtain ⟨h0,d,n,k,wh,bad,h1,h2⟩:=h
 have hl:=h2.le
 cases bad
 . -- drop,then add
   have core : ∀ (w1:World) (v1:Value) (d1 n1 k1 wh1:Nat),ButF D v w w1 -> FeedAt w1 D B v1 (Rn.off F d1) n1 k1 wh1 T p.1 p.2.1 p.2.2 false false -> Fd.Inv F N T false d1 n1 k1 wh1 false -> v1.ownBlock=v.ownBlock -> B <= w1.heap.size ->
    Calls Tryd.prog 87 #[.pointer (some ⟨D,0,none⟩), .slice (some ad) m c] w1 fun e w' => e = .returned (.tuple #[]) /\ ∃ v',Feed w' D B G (N + m) T false v' p /\ (v'.ownBlock=v.ownBlock \/ ∃ X,w.heap.size <= X /\ v'.ownBlock=some X) /\ ButF D v w w':=by
    intro w1 v1 d1 n1 k1 wh1 hb hF1 hI hv1 hB1
    have hl1:=hI.le
    obtain ⟨hp1,hp2⟩:=hI.plain rfl
    have hc1 : ∀ j u,(xs f m)[j]? = some u -> w1.cell? (ad.add j)=some u:=fun j u hu => by
     have:=hc j u hu
     have hbl:(ad.add j).block=ad.block:=by unfold Addr.add; split <;> rfl
     have hlt:ad.block < w.heap.size:=by rw [<- hbl]; exact block_lt_of_cell this
     exact (World.cell?_of_block (by rw [hbl]; exact hb.block _ hlt had.1 had.2)).trans this
    refine (feedAdd_any hF1 (tabs_put hT hb hBB hD hrow) ⟨by omega,by omega⟩ hBB hB1 (by omega) ad m c f (Rn.off G d1) (fun j => hG _) (fun j hj => (hG1 _ (by omega)).symm) (fun j hj => by show G (d1 + (n1 + j))=f j; rw [<- Nat.add_assoc,hp1]; exact hG2 j hj) hc1 (by omega) (n1 + m) rfl).mono ?_
    rintro e w' ⟨rfl,hb2,v',q,n',bad',hF2,hat,hrun,hst,hpl,hwr⟩
    refine ⟨rfl,v',⟨⟨h0.1,h0.2.1,h0.2.2.1,hlen⟩,d1,n',k1,q,bad',hF2, ?_⟩, ?_, ?_⟩
    . have e1:d1 + (n1 + m)=N + m:=by omega
      have e2:N + m - (d1 + q)=n1 + m - q:=by omega
      refine hI.more hG1 (by omega) ?_ ?_ ?_ ?_
      . have:=hrun.shift
        rw [e1] at this
        exact this
      . rw [e2, <- Fd.off_off]; exact hst
      . intro hb'
        obtain ⟨a1,a2⟩:=hpl hb'
        refine ⟨by omega, ?_⟩
        rw [e2, <- Fd.off_off]
        exact a2.imp (fun e => by omega) id
      . intro hb'
        obtain ⟨a1,a2,a3⟩:=hwr hb'
        rw [e2, <- Fd.off_off]
        exact ⟨by omega,a2,a3⟩
    . rcases hat with e | ⟨X,hX,e⟩
      . exact .inl (e.trans hv1)
      . exact .inr ⟨X,Nat.le_trans hb.size hX,e⟩
    . exact hb.trans_new hb2 (fun q hq => .inl (by rw [<- hv1]; exact hq))
   refine push_walk h1 _ (fun w w' => ∃ v',Feed w' D B G (N + m) T false v' p /\ (v'.ownBlock=v.ownBlock \/ ∃ X,w.heap.size <= X /\ v'.ownBlock=some X) /\ ButF D v w w') ?_
   by_cases hfew:k < n - k
   . refine ⟨fun w1 => Below w.heap.size w w1,feedDrop_few h1 (by omega) (by omega) hfew,fun w1 hb => ?_⟩
     exact core w1 v d n k wh (.of_below hb) (h1.below hb) h2 rfl (by have:=hb.size; omega)
   . rcases owns_row h1.2 with ⟨rfl,rfl⟩ | ⟨q,cap,rfl,hq1,hq2,hcc,hm,hby⟩
     . obtain rfl:k=0:=by omega
       obtain rfl:wh=0:=by omega
       refine ⟨fun w1 => FeedAt w1 D B (.slice none 0 0) (Rn.off F d) 0 0 0 T p.1 p.2.1 p.2.2 false false /\ But D w w1,feedDrop_nil h1,fun w1 hh => ?_⟩
       exact core w1 _ d 0 0 0 (.of_but hh.2) hh.1 h2 rfl (by have:=hh.2.size; omega)
     . refine ⟨fun w1 => FeedAt w1 D B (.slice (some ⟨q,0,none⟩) (n - k) cap) (Rn.off (Rn.off F d) k) (n - k) 0 (wh - k) T p.1 p.2.1 p.2.2 false false /\ ButF D (.slice (some ⟨q,0,none⟩) n cap) w w1,feedDrop_row q cap h1 (by omega) (by omega) hcc hm (by omega),fun w1 hh => ?_⟩
       have hf:=hh.1
       rw [Fd.off_off] at hf
       exact core w1 _ (d + k) (n - k) 0 (wh - k) hh.2 hf h2.drop rfl (by have:=hh.2.size; omega)
 . refine (push_bad h1 _).mono ?_
   rintro e w' ⟨rfl,rfl⟩
   refine ⟨rfl,v,⟨⟨h0.1,h0.2.1,h0.2.2.1,hlen⟩,d,n,k,wh,true,h1.congr (fun j hj => hG1 _ (by omega)),h2.more_bad hG1 (by omega)⟩, .inl rfl, .refl _ _ _⟩
section
variable {w:World} {D B:Nat} {F:Nat -> Nat} {N T:Nat} {E:Bool} {v:Value} {p:Nat × Nat × Nat}
end
end Go.Proofs.YteiiepjegdlbeaaDoor
