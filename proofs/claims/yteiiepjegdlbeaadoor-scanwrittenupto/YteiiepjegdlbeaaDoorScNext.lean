import Derived.Test.YteiiepjegdlbeaaDoorScLook
import Derived.Test.YteiiepjegdlbeaaDoorScShelf
import Derived.Lib.IndexAny
set_option maxHeartbeats 4000000
namespace Go.Proofs.YteiiepjegdlbeaaDoor
open Go.RowKit Go.Lib
namespace Sc
def sgn (sg:List UInt8) : List Nat:=sg.map UInt8.toNat
def CR (sg:List UInt8) (r:Nat) : Prop := ∀ W,Calls Tryd.prog 63 #[.string ⟨sg.toArray⟩, .int .i32 r] W fun e w' => e = .returned (.bool (decide (r ∈ sgn sg))) /\ Below W.heap.size W w'
theorem cr_low (sg:List UInt8) (r:Nat) (h:r < 128) : CR sg r:=by
 intro W
 refine (Tryd.strings_ContainsRune_ascii ⟨sg.toArray⟩ r W (by omega) (by omega)).mono ?_
 rintro e w' ⟨rfl,rfl⟩
 refine ⟨ret_bool ?_,Below.refl _ _⟩
 rw [<- Lib.contains_iff_indexByte]
 simp only [Int.toNat_natCast]
 rw [Bool.eq_iff_iff]
 simp only [List.contains_iff_mem,decide_eq_true_eq,sgn,List.mem_map]
 constructor
 . intro h1
   exact ⟨_,h1,by simp; omega⟩
 . rintro ⟨b,h1,h2⟩
   rw [<- h2]
   simpa using h1
section
variable {w:World} {D B n:Nat} {f:Nat -> Nat} {S:St} {R:Raw}
structure Rdy (w:World) (B n:Nat) (f:Nat -> Nat) (S:St) (R:Raw) (d:Nat) : Prop where
 tb:Tb B w
 bw:B <= w.heap.size
 fp:R.fp=some d
 q:S.q=S.k.ps
 e:S.e=S.fed
 qe:S.k.ps <= S.fed
 fn:S.fed <= n
 mn:Mn f S.k.ps S.fed
 lt : ∀ j,f j < 256
 big:n <= 1099511627776
 pl:S.pl.1 <= 1099511627776 /\ S.pl.2.1 <= 1099511627776 /\ S.pl.2.2.1 <= 1099511627776 /\ S.pl.2.2.2 <= 1099511627776
theorem pk_lt (hf : ∀ j,f j < 256) (N T:Nat) : (Fd.pk f N T false).1 < 2147483648:=by
 unfold Fd.pk
 have hv:=Rn.fv_le (Rn.off f T) (fun j => hf _)
 repeat' split
 all_goals (first | omega | (show (0:Nat) < _; omega) | (show (10:Nat) < _; omega) | skip)
 all_goals (show Rn.fv _ < _; omega)
theorem next_ok (h:SC w D B f n S R) (d:Nat) (hy:Rdy w B n f S R d) (c:Nat) (sg:List UInt8) (hk:(Fd.pk f n S.k.ps false).2.2.2=0) (hin:Ch.isT Ch.tab c ((Fd.pk f n S.k.ps false).1:Nat)=true \/ (Fd.pk f n S.k.ps false).1 ∈ sgn sg) (hcr:CR sg (Fd.pk f n S.k.ps false).1) :
 Calls Tryd.prog 46 #[.pointer (some ⟨D,0,none⟩), .int .i64 (c:Nat), .string ⟨sg.toArray⟩] w fun e w' => e = .returned (.tuple #[.int .i32 ((Fd.pk f n S.k.ps false).1:Nat), .bool true]) /\ ∃ x R',S.fed <= x /\ x <= n /\ R' = { R with fv:=R'.fv } /\ SC w' D B f n { S with fed:=x,q:=S.k.ps + (Fd.pk f n S.k.ps false).2.2.1,e:=x,k:=S.k.took (Fd.pk f n S.k.ps false).2.2.1 } R' /\ To D R w R' w' /\ Mn f S.k.ps x /\ Fd.pk f x S.k.ps false=Fd.pk f n S.k.ps false:=by
 have cL:=look_any h hy.tb hy.bw hy.lt (by have:=hy.big; omega) d hy.fp (by rw [hy.q]; exact hy.qe) hy.e hy.fn (by rw [hy.q]; exact hy.mn)
 rw [hy.q] at cL
 have hlt:=pk_lt hy.lt n S.k.ps
 obtain ⟨P,hP⟩ : ∃ P,Fd.pk f n S.k.ps false=P:=⟨_,rfl⟩
 rw [hP] at cL hk hin hcr hlt ⊢
 have HPk:=hide' hP
 clear hP
 obtain ⟨r,a0,wd,m⟩:=P
 simp only at cL hk hin hcr hlt ⊢
 subst hk
 have HH:=hide' h
 have HY:=hide' hy
 clear h hy
 go_enter Tryd.func46,Tryd.ntmps46
 go_wp2_with fail
 refine cL.mono ?_
 rintro e w1 ⟨⟨y,rfl⟩,x,R1,hx1,hx2,hR1,hS1,hpx,hTo1,hMn1⟩
 have hT1:=HY.out.tb.to (HH.out.to_below hTo1)
 have hB1:=Nat.le_trans HY.out.bw hTo1.mv.size
 have hb2:Below w1.heap.size w1 (w1.alloc (.cells (chA (r,a0,wd,0) y) 97)):=(Below.refl _ _).alloc (Nat.le_refl _) _
 have hK2:(w1.alloc (.cells (chA (r,a0,wd,0) y) 97)).heap[w1.heap.size]? = some (.cells (chA (r,a0,wd,0) y) 97 (0,0)):=heap_alloc_new w1 _
 have hft : ∀ q,some q ∈ foot D R1 -> q ≠ w1.heap.size:=fun q hq => by have:=(hS1.lt q hq).2; omega
 have hed1:R1.fp=some d:=by rw [hR1]; exact HY.out.fp
 have hKs:w1.heap.size < (w1.alloc (.cells (chA (r,a0,wd,0) y) 97)).heap.size:=by simp
 have core : ∀ W,Below (w1.alloc (.cells (chA (r,a0,wd,0) y) 97)).heap.size (w1.alloc (.cells (chA (r,a0,wd,0) y) 97)) W ->
  SC W D B f n { S with fed:=x,q:=S.k.ps,e:=x } R1 /\ To D R w R1 W /\ Tb B W /\ B <= W.heap.size /\ W.heap[w1.heap.size]? = some (.cells (chA (r,a0,wd,0) y) 97 (0,0)):=by
  intro W hb
  have hb3:=hb2.trans (hb.mono (by simp))
  exact ⟨hS1.below hb3,hTo1.trans (.of_below hb3),hT1.below hb3 hB1,Nat.le_trans hB1 hb3.size,(hb.block w1.heap.size hKs).trans hK2⟩
 have cI:=is_any c r (w1.alloc (.cells (chA (r,a0,wd,0) y) 97)) (core _ (Below.refl _ _)).2.2.1.spans
 unfold chA at cI
 have CORE:=hide' core
 have HFT:=hide' hft
 have HS1:=hide' hR1
 have HED:=hide' hed1
 have HMN:=hide' hMn1
 have HPX:=hide' hpx
 clear cL hb2 hK2 hft hed1 hKs hR1 hMn1 hpx hT1 core hS1 hTo1
 unfold chV
 go_wp2_with fail
 refine cI.mono ?_
 rintro e W ⟨rfl,hbW⟩
 clear cI
 cases hi:Ch.isT Ch.tab c r
 . rw [hi] at hin
   have hmem:r ∈ sgn sg:=by rcases hin with e | e; cases e; exact e
   have cC:=hcr W
   rw [show decide (r ∈ sgn sg)=true by simpa using hmem] at cC
   have HBW:=hide' hbW
   obtain ⟨-, -, -, -,hKW⟩:=CORE.out W hbW
   have w0:W.cell? ⟨w1.heap.size,0,none⟩ = some (.int .i32 (r:Nat)):=by rw [Lib.cell_of_heap hKW]; rfl
   clear hbW hi hin hmem hcr hKW
   go_wp2_with fail
   refine cC.mono ?_
   rintro e W' ⟨rfl,hbW'⟩
   have hbW:=HBW.out.trans (hbW'.mono HBW.out.size)
   clear HBW hbW' cC w0
   obtain ⟨hSV,hToV,hTV,hBV,hKV⟩:=CORE.out _ hbW
   obtain ⟨V,rfl⟩ : ∃ V,V=W':=⟨_,rfl⟩
   clear hbW
   have hps:S.k.ps <= x:=Nat.le_trans HY.out.qe hx1
   have cN:=feedNext_S hSV hTV d HED.out hps
   rw [show Fd.pk f ({ S with fed:=x,q:=S.k.ps,e:=x } : St).e ({ S with fed:=x,q:=S.k.ps,e:=x } : St).q false=(r,a0,wd,0) from HPX.out] at cN
   have w14:V.cell? ⟨D,14,none⟩ = some (.pointer (some ⟨d,0,none⟩)):=by
    have:=hSV.c14
    rw [HED.out] at this
    exact this
   have HKV:=hide' hKV
   have HTV:=hide' hToV
   have hVs:=heap_lt hKV
   have HVs:=hide' hVs
   clear hKV hToV hTV hBV hSV hVs
   go_wp2_with fail
   refine cN.mono ?_
   rintro e V2 ⟨⟨y2,rfl⟩,hS2,hTo2⟩
   have hK2:=(hTo2.mv.block _ HVs.out fun hm => HFT.out _ hm rfl).trans HKV.out
   have t0:V2.cell? ⟨w1.heap.size,0,none⟩ = some (.int .i32 (r:Nat)):=by rw [Lib.cell_of_heap hK2]; rfl
   have t5:V2.cell? ⟨w1.heap.size,5,none⟩ = some (.int .i64 (wd:Nat)):=by rw [Lib.cell_of_heap hK2]; rfl
   have d16:=hS2.c16
   have g16:=hS2.fz 16
   have d17:=hS2.c17
   have g17:=hS2.fz 17
   have hne : ¬ w1.heap.size=D:=fun e => HFT.out D (by simp [foot]) e.symm
   have hne' : ¬ D=w1.heap.size:=fun e => hne e.symm
   have hbd:S.k.ps + wd < 9223372036854775808:=by
    have h1:=(Fd.pk_bound f x S.k.ps false).2 hps
    rw [HPX.out] at h1
    have h2:S.k.ps + wd <= x:=h1
    have:=HY.out.big
    omega
   have HS2:=hide' hS2
   have HTo2:=hide' (HTV.out.trans hTo2)
   clear hS2 hTo2 hK2 cN HKV HTV w14
   dsimp only at d16 d17
   go_wp2_with fail
   go_region
   go_wp2_with fail
   go_ret2
   have s1:=HS2.out.put 17 (.int .i64 (S.k.ps:Nat)) { S with fed:=x,q:=S.k.ps + wd,e:=x,k := { S.k with fr:=S.k.ps } } rfl ⟨rfl,rfl,rfl,rfl,rfl,rfl,rfl,rfl⟩
   have s2:=s1.drew.put 16 (.int .i64 ((S.k.ps + wd:Nat) : Int)) { S with fed:=x,q:=S.k.ps + wd,e:=x,k:=S.k.took wd } rfl ⟨rfl,rfl,rfl,rfl,rfl,rfl,rfl,rfl⟩
   exact ⟨rfl,x,R1,hx1,hx2,HS1.out,s2,((HTo2.out.setCell 17 _ rfl).drew).setCell 16 _ rfl,HMN.out,HPX.out⟩
 . obtain ⟨hSW,hToW,hTW,hBW,hKW⟩:=CORE.out _ hbW
   clear hi hin hcr hbW
   have hps:S.k.ps <= x:=Nat.le_trans HY.out.qe hx1
   have cN:=feedNext_S hSW hTW d HED.out hps
   rw [show Fd.pk f ({ S with fed:=x,q:=S.k.ps,e:=x } : St).e ({ S with fed:=x,q:=S.k.ps,e:=x } : St).q false=(r,a0,wd,0) from HPX.out] at cN
   have w14:W.cell? ⟨D,14,none⟩ = some (.pointer (some ⟨d,0,none⟩)):=by
    have:=hSW.c14
    rw [HED.out] at this
    exact this
   have HKW:=hide' hKW
   have HTW:=hide' hToW
   have hWs:=heap_lt hKW
   have HWs:=hide' hWs
   clear hKW hToW hTW hBW hSW hWs
   go_wp2_with fail
   refine cN.mono ?_
   rintro e W2 ⟨⟨y2,rfl⟩,hS2,hTo2⟩
   have hK2:=(hTo2.mv.block _ HWs.out fun hm => HFT.out _ hm rfl).trans HKW.out
   have t0:W2.cell? ⟨w1.heap.size,0,none⟩ = some (.int .i32 (r:Nat)):=by rw [Lib.cell_of_heap hK2]; rfl
   have t5:W2.cell? ⟨w1.heap.size,5,none⟩ = some (.int .i64 (wd:Nat)):=by rw [Lib.cell_of_heap hK2]; rfl
   have d16:=hS2.c16
   have g16:=hS2.fz 16
   have d17:=hS2.c17
   have g17:=hS2.fz 17
   have hne : ¬ w1.heap.size=D:=fun e => HFT.out D (by simp [foot]) e.symm
   have hne' : ¬ D=w1.heap.size:=fun e => hne e.symm
   have hbd:S.k.ps + wd < 9223372036854775808:=by
    have h1:=(Fd.pk_bound f x S.k.ps false).2 hps
    rw [HPX.out] at h1
    have h2:S.k.ps + wd <= x:=h1
    have:=HY.out.big
    omega
   have HS2:=hide' hS2
   have HTo2:=hide' (HTW.out.trans hTo2)
   clear hS2 hTo2 hK2 cN HKW HTW w14
   dsimp only at d16 d17
   go_wp2_with fail
   go_region
   go_wp2_with fail
   go_ret2
   have s1:=HS2.out.put 17 (.int .i64 (S.k.ps:Nat)) { S with fed:=x,q:=S.k.ps + wd,e:=x,k := { S.k with fr:=S.k.ps } } rfl ⟨rfl,rfl,rfl,rfl,rfl,rfl,rfl,rfl⟩
   have s2:=s1.drew.put 16 (.int .i64 ((S.k.ps + wd:Nat) : Int)) { S with fed:=x,q:=S.k.ps + wd,e:=x,k:=S.k.took wd } rfl ⟨rfl,rfl,rfl,rfl,rfl,rfl,rfl,rfl⟩
   exact ⟨rfl,x,R1,hx1,hx2,HS1.out,s2,((HTo2.out.setCell 17 _ rfl).drew).setCell 16 _ rfl,HMN.out,HPX.out⟩
end
end Sc
end Go.Proofs.YteiiepjegdlbeaaDoor
