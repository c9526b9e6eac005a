import Derived.Test.YteiiepjegdlbeaaDoorScNxtC
import Derived.Test.YteiiepjegdlbeaaDoorScMono
import Derived.Test.YteiiepjegdlbeaaDoorScBadM
import Derived.Lib.SlBytesConst
set_option maxHeartbeats 4000000
set_option maxRecDepth 10000
namespace Go.Proofs.YteiiepjegdlbeaaDoor
open Go.RowKit Go.Lib
namespace Sc
section
variable {w:World} {D B n:Nat} {f:Nat -> Nat} {S:St} {R:Raw}
theorem next_none (h:SCe w D B f n S R) (hT:Tb B w) (hB:B <= w.heap.size) (hf : ∀ j,f j < 256) (hbig:n <= 1099511627776) (hpl:S.pl.1 <= 1099511627776 /\ S.pl.2.1 <= 1099511627776 /\ S.pl.2.2.1 <= 1099511627776 /\ S.pl.2.2.2 <= 1099511627776)
 (iv:Int) (l:List UInt8) (hl:l.length <= 70368744177664) (hfp:R.fp=none) (k:Wk) (hk:Steps (inOf iv) (nmOf iv l) f n {} k) (hk0:k.how=0) :
 Calls Tryd.prog 17 #[.pointer (some ⟨D,0,none⟩), .int .i64 iv, .string ⟨l.toArray⟩] w (NextE w D B f n S.pl S.ended (inOf iv) (nmOf iv l) R k):=by
 have hs:Scn w D B f n S.pl S.ended none R:=⟨S,h,rfl,rfl,hfp⟩
 refine (next_go (fun q hq => (h.lt q hq).2) hT hB hf hbig hpl iv l hl {} rfl (chose_new hs hT hB hf hbig hpl iv l hl (fun k e => by cases e)) (.refl _)).mono ?_
 rintro e w' ⟨k',hk',hke',hN⟩
 obtain rfl:k'=k:=hk'.one_end hk hke' (.inl (by omega))
 exact hN
theorem next_tag (h:SCe w D B f n S R) (hT:Tb B w) (hB:B <= w.heap.size) (hf : ∀ j,f j < 256) (hbig:n <= 1099511627776) (hpl:S.pl.1 <= 1099511627776 /\ S.pl.2.1 <= 1099511627776 /\ S.pl.2.2.1 <= 1099511627776 /\ S.pl.2.2.2 <= 1099511627776)
 (iv:Int) (l:List UInt8) (hl:l.length <= 70368744177664) (hfp:R.fp=none) (k:Wk) (hk:Steps (inOf iv) (nmOf iv l) f n {} k) (hk0:k.how=0) (hkt:k.text = []) :
 Calls Tryd.prog 17 #[.pointer (some ⟨D,0,none⟩), .int .i64 iv, .string ⟨l.toArray⟩] w fun e w' => ∃ av,e = .returned (.tuple #[.agg (tokA k.kind k.tag av [] (pla S.pl f n k.tg) (pla S.pl f n k.ps)), .agg place0, .int .i64 0]) /\
  ∃ v S',SCe w' D B (Rn.off f k.ps) (n - k.ps) S' (noRaw v) /\ S'.pl=pla S.pl f n k.ps /\ To D R w (noRaw v) w' /\ w'.ownsRow B 61 2 av k.attrs.length (acells k.attrs) /\ Tb B w':=by
 refine (next_none h hT hB hf hbig hpl iv l hl hfp k hk hk0).mono ?_
 intro e w' hN
 unfold NextE at hN
 rw [if_pos hk0,if_pos hkt] at hN
 obtain ⟨av,v,rfl,⟨S',s1,s2,_,_⟩,t1,t2,t3,_⟩:=hN
 exact ⟨av,rfl,v,S',s1,s2,t1,t3,t2⟩
theorem next_text (h:SCe w D B f n S R) (hT:Tb B w) (hB:B <= w.heap.size) (hf : ∀ j,f j < 256) (hbig:n <= 1099511627776) (hpl:S.pl.1 <= 1099511627776 /\ S.pl.2.1 <= 1099511627776 /\ S.pl.2.2.1 <= 1099511627776 /\ S.pl.2.2.2 <= 1099511627776)
 (iv:Int) (l:List UInt8) (hl:l.length <= 70368744177664) (hfp:R.fp=none) (k:Wk) (hk:Steps (inOf iv) (nmOf iv l) f n {} k) (hk0:k.how=0) (hkt:k.text ≠ []) :
 Calls Tryd.prog 17 #[.pointer (some ⟨D,0,none⟩), .int .i64 iv, .string ⟨l.toArray⟩] w fun e w' => e = .returned (.tuple #[.agg (tokA 0 [] (.slice none 0 0) k.text (pla S.pl f n k.tf) (pla S.pl f n k.tg)), .agg place0, .int .i64 0]) /\ ∃ R',To D R w R' w' /\ Tb B w':=by
 refine (next_none h hT hB hf hbig hpl iv l hl hfp k hk hk0).mono ?_
 intro e w' hN
 unfold NextE at hN
 rw [if_pos hk0,if_neg hkt] at hN
 obtain ⟨rfl,R',_,t1,t2⟩:=hN
 exact ⟨rfl,R',t1,t2⟩
end
def exl:List UInt8 := [60,97,62,120,60,47,97,62]
def exf:Nat -> Nat:=Rn.lf exl
theorem ex1:Steps 0 [] exf 8 {} { st:=9,how:=0,ps:=3,fr:=2,kind:=1,tag := [97] }:=by
 have s1:step 0 [] exf 8 {} = some { st:=2,ps:=1 }:=by kernel_rfl
 have s2:step 0 [] exf 8 { st:=2,ps:=1 } = some { st:=9,ps:=2,fr:=1,tag := [97] }:=by kernel_rfl
 have s3:step 0 [] exf 8 { st:=9,ps:=2,fr:=1,tag := [97] } = some { st:=9,how:=0,ps:=3,fr:=2,kind:=1,tag := [97] }:=by kernel_rfl
 exact .cons rfl s1 (.cons rfl s2 (.cons rfl s3 (.refl _)))
theorem ex2:Steps 1 [97] (Rn.off exf 3) 5 {} { st:=19,how:=0,ps:=5,fr:=4,text := [120],tg:=1,kind:=2,tag := [97] }:=by
 have s1:step 1 [97] (Rn.off exf 3) 5 {} = some { ps:=1,text := [120] }:=by kernel_rfl
 have s2:step 1 [97] (Rn.off exf 3) 5 { ps:=1,text := [120] } = some { st:=2,ps:=2,fr:=1,text := [120],tg:=1 }:=by kernel_rfl
 have s3:step 1 [97] (Rn.off exf 3) 5 { st:=2,ps:=2,fr:=1,text := [120],tg:=1 } = some { st:=18,ps:=3,fr:=2,text := [120],tg:=1 }:=by kernel_rfl
 have s4:step 1 [97] (Rn.off exf 3) 5 { st:=18,ps:=3,fr:=2,text := [120],tg:=1 } = some { st:=18,ps:=4,fr:=2,text := [120],tg:=1 }:=by kernel_rfl
 have s5:step 1 [97] (Rn.off exf 3) 5 { st:=18,ps:=4,fr:=2,text := [120],tg:=1 } = some { st:=19,ps:=4,fr:=2,text := [120],tg:=1 }:=by kernel_rfl
 have s6:step 1 [97] (Rn.off exf 3) 5 { st:=19,ps:=4,fr:=2,text := [120],tg:=1 } = some { st:=19,how:=0,ps:=5,fr:=4,text := [120],tg:=1,kind:=2,tag := [97] }:=by kernel_rfl
 exact .cons rfl s1 (.cons rfl s2 (.cons rfl s3 (.cons rfl s4 (.cons rfl s5 (.cons rfl s6 (.refl _))))))
theorem var_fin (W:World) (kind:Nat) (nm:List UInt8) (pa:Option Addr) (m c:Nat) (tx:List UInt8) (p q:Nat × Nat × Nat × Nat) :
 ((W.alloc (.cells tok0 43)).alloc (.cells place0 32)).there W.heap.size 0 (tokA kind nm (.slice pa m c) tx p q).size /\
 (((W.alloc (.cells tok0 43)).alloc (.cells place0 32)).setCells W.heap.size 0 (tokA kind nm (.slice pa m c) tx p q).toList).there (W.heap.size + 1) 0 place0.size /\
 Below W.heap.size W ((((W.alloc (.cells tok0 43)).alloc (.cells place0 32)).setCells W.heap.size 0 (tokA kind nm (.slice pa m c) tx p q).toList).setCells (W.heap.size + 1) 0 place0.toList) /\
 ((((W.alloc (.cells tok0 43)).alloc (.cells place0 32)).setCells W.heap.size 0 (tokA kind nm (.slice pa m c) tx p q).toList).setCells (W.heap.size + 1) 0 place0.toList).heap[W.heap.size]? = some (.cells (tokA kind nm (.slice pa m c) tx p q) 43 (0,0)):=by
 have h6:((W.alloc (.cells tok0 43)).alloc (.cells place0 32)).heap[W.heap.size]? = some (.cells tok0 43 (0,0)) :=
  (((Below.refl _ _).alloc (Nat.le_refl _) _).block W.heap.size (by simp)).trans (heap_alloc_new W _)
 have h7:((W.alloc (.cells tok0 43)).alloc (.cells place0 32)).heap[W.heap.size + 1]? = some (.cells place0 32 (0,0)):=by
  have:=heap_alloc_new (W.alloc (.cells tok0 43)) (.cells place0 32)
  rw [show (W.alloc (.cells tok0 43)).heap.size=W.heap.size + 1 by simp] at this
  exact this
 refine ⟨there_of h6 0 12 (Nat.le_refl _),there_of ((heap_setCells_far (by omega) _ _ _).trans h7) 0 4 (Nat.le_refl _), ?_, ?_⟩
 . exact below_cells (by omega) _ _ _ (below_cells (Nat.le_refl _) _ _ _ (((Below.refl W.heap.size W).alloc (Nat.le_refl _) _).alloc (by simp) _))
 . refine (heap_setCells_far (by omega) _ _ _).trans ?_
   have:=heap_setCells (tokA kind nm (.slice pa m c) tx p q).toList 0 _ _ h6
   rw [tok_set] at this
   exact this
theorem ex_pl:pla (0,0,1,1) exf 8 3=(3,3,1,4):=by kernel_rfl
theorem ex_to:pla (3,3,1,4) (Rn.off exf 3) 5 1=(4,4,1,5):=by kernel_rfl
theorem awake_any (w:World) (hS:Spans w) (hU:Lib.Utf8Tabs 2 3 w) :
 Calls Tryd.prog 8 #[] w fun e w' => e = .returned (.bool true) /\ Below w.heap.size w w':=by
 have hT:Tb w.heap.size w:=⟨w,hS,hU,Nat.le_refl _,Below.refl _ _⟩
 have cN:=scNew_any w w.heap.size (Nat.le_refl _) exf
 have CN:=hide' cN
 have HT:=hide' hT
 have kc:=fun (w:World) (C:Array Value) (n c:Nat) => Lib.run_convert_bytes_const (P:=Tryd.prog) w 22 5 C n c Tryd.underlying22 Tryd.underlying5
 clear hT hS hU cN
 go_enter Tryd.func8,Tryd.ntmps8
 go_wp2_with fail
 refine CN.out.mono ?_
 rintro e w1 ⟨rfl,hS1,hb1,hl1⟩
 have hbA:Below w1.heap.size w1 (w1.alloc (.cells #[.int .u8 60, .int .u8 97, .int .u8 62, .int .u8 120, .int .u8 60, .int .u8 47, .int .u8 97, .int .u8 62] 5 (8,9))):=(Below.refl _ _).alloc (Nat.le_refl _) _
 have hby:Bytes (w1.alloc (.cells #[.int .u8 60, .int .u8 97, .int .u8 62, .int .u8 120, .int .u8 60, .int .u8 47, .int .u8 97, .int .u8 62] 5 (8,9))) w1.heap.size 0 8 exf:=by
  intro j hj
  rw [Lib.cell_of_heap (heap_alloc_new w1 _)]
  match j,hj with
  | 0,_ | 1,_ | 2,_ | 3,_ | 4,_ | 5,_ | 6,_ | 7,_ => rfl
  | _ + 8,h => omega
 have cP:=push_no (hS1.below hbA) w1.heap.size 0 8 8 exf hby (by omega) (Nat.le_trans hb1.size hbA.size)
 have CP:=hide' cP
 have HS1:=hide' (hS1.below hbA)
 have HB1:Hid (Below w.heap.size w (w1.alloc (.cells #[.int .u8 60, .int .u8 97, .int .u8 62, .int .u8 120, .int .u8 60, .int .u8 47, .int .u8 97, .int .u8 62] 5 (8,9)))):=hb1.trans (hbA.mono hb1.size)
 clear hS1 hb1 hl1 hbA hby cP CN
 go_wp2_with fail
 refine CP.out.mono ?_
 rintro e w2 ⟨rfl,v2,hS2,hTo2⟩
 have hB2:=HB1.out.trans (HS1.out.to_below hTo2)
 have cN1:=next_tag hS2.toE (HT.out.to hB2) hB2.size (Rn.lf_lt _) (by decide) (by decide) 0 [] (by simp) rfl _ ex1 rfl rfl
 dsimp only [noSt] at cN1
 rw [ex_pl] at cN1
 have CN1:=hide' cN1
 have HB2:=hide' hB2
 have HS2:=hide' hS2
 clear hS2 hTo2 hB2 cN1 CP
 go_wp2_with fail
 refine CN1.out.mono ?_
 rintro e w3 ⟨av,rfl,v3,S3,hS3,hpl3,hTo3,hat3,hT3⟩
 obtain ⟨pa,ca,rfl⟩:=own_shape hat3
 obtain ⟨tk1,htk1⟩ : ∃ tk1,tk1=tokA 1 [97] (.slice pa ([] : List (List UInt8 × List UInt8)).length ca) [] (pla (0,0,1,1) exf 8 0) (3,3,1,4):=⟨_,rfl⟩
 obtain ⟨a1,a2,a3,a4⟩:=var_fin w3 1 [97] pa ([] : List (List UInt8 × List UInt8)).length ca [] (pla (0,0,1,1) exf 8 0) (3,3,1,4)
 have ao:tk1.all (·.oneCell')=true:=by rw [htk1]; exact tokOne _ _ _ _ _ _ _ _
 have ai:(Tryd.prog.info? 43).map (·.size)=some tk1.size:=by rw [htk1]; exact tokInfo
 rw [<- htk1] at a1 a2 a3 a4
 obtain ⟨X3,hX3⟩ : ∃ X3,X3=((((World.alloc w3 (.cells tok0 43)).alloc (.cells place0 32)).setCells w3.heap.size 0 tk1.toList).setCells (w3.heap.size + 1) 0 place0.toList):=⟨_,rfl⟩
 rw [<- hX3] at a3 a4
 have hB3:=HB2.out.trans (HS2.out.to_below hTo3)
 have hSX:=hS3.below a3
 have hB3X:=hB3.trans (a3.mono hB3.size)
 have hl3:=hS3.lt
 have cN2:=next_text hSX (hT3.below a3 hB3.size) hB3X.size (fun j => Rn.lf_lt _ _) (by decide) (by rw [hpl3]; decide) 1 [97] (by simp) rfl _ ex2 rfl (by decide)
 rw [hpl3] at cN2
 rw [ex_to] at cN2
 have CN2:=hide' cN2
 have HA1:=hide' a1
 have HA2:=hide' a2
 have HA4:=hide' a4
 have HAO:=hide' ao
 have HAI:=hide' ai
 have HX3:=hide' hX3
 have HTK:=hide' htk1
 have HSX:=hide' hSX
 have HB3:=hide' hB3X
 have HL3:=hide' hl3
 have HW3:Hid (w3.heap.size < X3.heap.size):=heap_lt a4
 clear hS3 hpl3 hTo3 hat3 hT3 a1 a2 a3 a4 ao ai hB3 hSX hB3X cN2 CN1 hl3 kc
 simp only [<- htk1]
 clear htk1 hX3
 go_wp2_with (first | refine wpList_store_mid rfl 43 (.tmp 2) (.tmp 21) rfl w3.heap.size 0 tk1 rfl rfl HA1.out HAI.out HAO.out ?_ | (refine wpList_store_mid rfl 32 (.tmp 3) (.tmp 22) rfl (w3.heap.size + 1) 0 place0 rfl rfl HA2.out placeInfo place0One ?_; change wpList _ _ _ _ _ ((((World.alloc w3 (.cells tok0 43)).alloc (.cells place0 32)).setCells w3.heap.size 0 tk1.toList).setCells (w3.heap.size + 1) 0 place0.toList); rw [<- HX3.out]))
 refine CN2.out.mono ?_
 rintro e w5 ⟨rfl,R5,hTo5,hT5⟩
 obtain ⟨tk2,htk2⟩ : ∃ tk2,tk2=tokA 0 [] (.slice none 0 0) [120] (pla (3,3,1,4) (Rn.off exf 3) (8 - 3) 0) (4,4,1,5):=⟨_,rfl⟩
 obtain ⟨b1,b2,b3,b4⟩:=var_fin w5 0 [] none 0 0 [120] (pla (3,3,1,4) (Rn.off exf 3) (8 - 3) 0) (4,4,1,5)
 have bo:tk2.all (·.oneCell')=true:=by rw [htk2]; exact tokOne _ _ _ _ _ _ _ _
 have bi:(Tryd.prog.info? 43).map (·.size)=some tk2.size:=by rw [htk2]; exact tokInfo
 rw [<- htk2] at b1 b2 b3 b4
 obtain ⟨X5,hX5⟩ : ∃ X5,X5=((((World.alloc w5 (.cells tok0 43)).alloc (.cells place0 32)).setCells w5.heap.size 0 tk2.toList).setCells (w5.heap.size + 1) 0 place0.toList):=⟨_,rfl⟩
 rw [<- hX5] at b3 b4
 have hB5:=HB3.out.trans (HSX.out.to_below hTo5)
 have hB5X:=hB5.trans (b3.mono hB5.size)
 have hb2:X5.heap[w3.heap.size]? = some (.cells tk1 43 (0,0)):=by
  have e1:=hTo5.mv.block w3.heap.size HW3.out fun hq => by have:=(HL3.out _ hq).2; omega
  exact (b3.block w3.heap.size (Nat.lt_of_lt_of_le HW3.out hTo5.mv.size)).trans (e1.trans HA4.out)
 have y0:X5.cell? ⟨w3.heap.size,0,none⟩ = some (.int .i64 1):=by rw [Lib.cell_of_heap hb2,HTK.out]; rfl
 have y1:X5.cell? ⟨w3.heap.size,1,none⟩ = some (.string ⟨#[97]⟩):=by rw [Lib.cell_of_heap hb2,HTK.out]; rfl
 have y3:X5.cell? ⟨w5.heap.size,3,none⟩ = some (.string ⟨#[120]⟩):=by rw [Lib.cell_of_heap b4,htk2]; rfl
 have y8:X5.cell? ⟨w5.heap.size,8,none⟩ = some (.int .i64 4):=by rw [Lib.cell_of_heap b4,htk2]; rfl
 have HC1:=hide' b1
 have HC2:=hide' b2
 have HCO:=hide' bo
 have HCI:=hide' bi
 have HX5:=hide' hX5
 have HB5:=hide' hB5X
 clear hTo5 hT5 b1 b2 b3 b4 bo bi hB5 hB5X hb2 CN2 HA1 HA2 HA4 HX3 HSX HL3 HW3 HTK
 simp only [<- htk2]
 clear htk2 hX5
 go_wp2_with (first | refine wpList_store_mid rfl 43 (.tmp 5) (.tmp 27) rfl w5.heap.size 0 tk2 rfl rfl HC1.out HCI.out HCO.out ?_ | (refine wpList_store_mid rfl 32 (.tmp 6) (.tmp 28) rfl (w5.heap.size + 1) 0 place0 rfl rfl HC2.out placeInfo place0One ?_; change wpList _ _ _ _ _ ((((World.alloc w5 (.cells tok0 43)).alloc (.cells place0 32)).setCells w5.heap.size 0 tk2.toList).setCells (w5.heap.size + 1) 0 place0.toList); rw [<- HX5.out]))
 go_ret
 exact ⟨rfl,HB5.out⟩
end Sc
end Go.Proofs.YteiiepjegdlbeaaDoor
