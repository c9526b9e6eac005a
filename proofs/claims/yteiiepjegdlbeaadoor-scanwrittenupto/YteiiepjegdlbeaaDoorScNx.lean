import Derived.Test.YteiiepjegdlbeaaDoorScNext
set_option maxHeartbeats 4000000
set_option maxRecDepth 4000
namespace Go.Proofs.YteiiepjegdlbeaaDoor
open Go.RowKit Go.Lib
namespace Sc
theorem arr_cr (g:Nat -> Nat) (hg : ∀ j,g j < 256) (m:Nat) : (Rn.arr g m).toList = [13] ↔ m=1 /\ g 0=13:=by
 have e:(Rn.arr g m).toList=(List.range m).map fun j => (g j).toUInt8:=by
  unfold Rn.arr
  rw [ByteArray.toList_mk]
  apply List.ext_getElem?
  intro j
  by_cases hj:j < m
  . simp [hj]
  . simp [hj]
 rw [e]
 constructor
 . intro h
   have h1:m=1:=by simpa using congrArg List.length h
   subst h1
   refine ⟨rfl, ?_⟩
   have h2:=congrArg (fun l:List UInt8 => (l.map UInt8.toNat)) h
   simp at h2
   have:=hg 0
   omega
 . rintro ⟨rfl,h⟩
   simp [h]
theorem con13 (sg:List UInt8) (W:World) : Calls Tryd.prog 65 #[.string ⟨sg.toArray⟩, .string ⟨#[13]⟩] W fun e w' => e = .returned (.bool (decide (13 ∈ sgn sg))) /\ w'=W:=by
 refine (Tryd.strings_Contains_one ⟨sg.toArray⟩ 13 W).mono ?_
 rintro e w' ⟨rfl,rfl⟩
 refine ⟨ret_bool ?_,rfl⟩
 rw [<- Lib.contains_iff_indexByte,Bool.eq_iff_iff]
 simp only [List.contains_iff_mem,decide_eq_true_eq,sgn,List.mem_map]
 constructor
 . intro h1
   exact ⟨_,h1,rfl⟩
 . rintro ⟨b,h1,h2⟩
   have:b=13:=by
    apply UInt8.toNat_inj.1
    rw [h2]
    rfl
   rw [<- this]
   exact h1
section
variable {w:World} {D B n:Nat} {f:Nat -> Nat} {S:St} {R:Raw}
theorem Rdy.pl60 {d:Nat} (h:Rdy w B n f S R d) : S.pl.1 <= 1152921504606846976 /\ S.pl.2.1 <= 1152921504606846976 /\ S.pl.2.2.1 <= 1152921504606846976 /\ S.pl.2.2.2 <= 1152921504606846976:=by
 have:=h.pl
 exact ⟨by omega,by omega,by omega,by omega⟩
def NoEnd (w':World) (D B:Nat) (f:Nat -> Nat) (n:Nat) (S:St) (R R':Raw) (x c:Nat) (sg:List UInt8) : Prop :=
 if ¬ (n=S.k.ps + 1 /\ f S.k.ps=13 /\ 13 ∈ sgn sg) /\ gd f n S.k.ps c < n - S.k.ps then SC w' D B f n { S with fed:=x,q:=S.k.ps,e:=x,k:=S.k.fails (S.k.ps + gd f n S.k.ps c) } R' /\ R' = { R with fv:=R'.fv,bp:=pla S.pl f n (S.k.ps + gd f n S.k.ps c) }
 else SC w' D B f n { S with fed:=x,q:=S.k.ps,e:=x } R' /\ R' = { R with fv:=R'.fv }
theorem next_no1 (h:SC w D B f n S R) (d:Nat) (hy:Rdy w B n f S R d) (c:Nat) (sg:List UInt8) (hk:(Fd.pk f n S.k.ps false).2.2.2=1) :
 Calls Tryd.prog 46 #[.pointer (some ⟨D,0,none⟩), .int .i64 (c:Nat), .string ⟨sg.toArray⟩] w fun e w' => e = .returned (.tuple #[.int .i32 0, .bool false]) /\ ∃ x R',S.fed <= x /\ x <= n /\ To D R w R' w' /\ Mn f S.k.ps x /\ NoEnd w' D B f n S R R' x c sg:=by
 have cL:=look_any h hy.tb hy.bw hy.lt (by have:=hy.big; omega) d hy.fp (by rw [hy.q]; exact hy.qe) hy.e hy.fn (by rw [hy.q]; exact hy.mn)
 rw [hy.q] at cL
 have hlt:=pk_lt hy.lt n S.k.ps
 obtain ⟨P,hP⟩ : ∃ P,Fd.pk f n S.k.ps false=P:=⟨_,rfl⟩
 rw [hP] at cL hk hlt
 have HPk:=hide' hP
 clear hP
 obtain ⟨r,a0,wd,m⟩:=P
 simp only at cL hk hlt
 subst hk
 have HH:=hide' h
 have HY:=hide' hy
 clear h hy
 go_enter Tryd.func46,Tryd.ntmps46
 go_wp2_with fail
 refine cL.mono ?_
 rintro e w1 ⟨⟨y,rfl⟩,x,R1,hx1,hx2,hR1,hS1,hpx,hTo1,hMn1⟩
 have hT1:=HY.out.tb.to (HH.out.to_below hTo1)
 have hB1:=Nat.le_trans HY.out.bw hTo1.mv.size
 have hps:S.k.ps <= n:=Nat.le_trans HY.out.qe (Nat.le_trans hx1 hx2)
 have hb2:Below w1.heap.size w1 (w1.alloc (.cells (chA (r,a0,wd,1) y) 97)):=(Below.refl _ _).alloc (Nat.le_refl _) _
 have core : ∀ W,Below w1.heap.size w1 W ->
  SC W D B f n { S with fed:=x,q:=S.k.ps,e:=x } R1 /\ To D R w R1 W /\ Tb B W /\ B <= W.heap.size:=by
  intro W hb
  exact ⟨hS1.below hb,hTo1.trans (.of_below hb),hT1.below hb hB1,Nat.le_trans hB1 hb.size⟩
 have CORE:=hide' core
 have HS1:=hide' hR1
 have HMN:=hide' hMn1
 have HPX:=hide' hpx
 have HB2:=hide' hb2
 clear cL hR1 hMn1 hpx hT1 core hS1 hTo1 hb2
 unfold chV
 obtain ⟨hSW,hToW,hTW,hBW⟩:=CORE.out _ HB2.out
 have d16:=hSW.c16
 have d0:=hSW.c0
 have hl:=hSW.rest.sl
 unfold chA at d16 d0 hl
 dsimp only at d16
 clear hSW hToW hTW hBW
 by_cases hpn:S.k.ps < n
 . obtain ⟨q, o, cap, er, hc, hm, hby⟩ : ∃ q o cap, R1.rest = .slice (some ⟨q, o, none⟩) n cap ∧ n ≤ cap ∧ cap ≤ maxLen ∧ Bytes _ q o n f := by
    rcases hl with ⟨_,e⟩ | e
    . omega
    . exact e
   rw [er] at d0
   have hm':cap <= 9223372036854775807:=by unfold maxLen at hm; omega
   have hby2:Bytes (w1.alloc (.cells #[.int .i32 (r:Nat), .int .i64 (y.1:Nat), .int .i64 (y.2.1:Nat), .int .i64 (y.2.2.1:Nat), .int .i64 (y.2.2.2:Nat), .int .i64 (wd:Nat)] 97)) q (o + S.k.ps) (n - S.k.ps) (Rn.off f S.k.ps):=fun j hj => by rw [Nat.add_assoc]; exact hby (S.k.ps + j) (by omega)
   have HBY:=hide' hby2
   have i2:(S.k.ps:Int) <= n:=by omega
   have i3:(0:Int) <= (S.k.ps:Int):=by omega
   have i4 : ¬ cap=S.k.ps:=by omega
   have HY':=HY.out.lt
   have hcv:=fun m => bytes_string ((w1.alloc (.cells #[.int .i32 (r:Nat), .int .i64 (y.1:Nat), .int .i64 (y.2.1:Nat), .int .i64 (y.2.2.1:Nat), .int .i64 (y.2.2.2:Nat), .int .i64 (wd:Nat)] 97)).drewN m) q (o + S.k.ps) (n - S.k.ps) (cap - S.k.ps) (Rn.off f S.k.ps) (fun j => HY' _) HBY.out
   have cB : ∀ W,Below w1.heap.size w1 W -> ∀ g,g + 1 <= n - S.k.ps -> Calls Tryd.prog 66 #[.int .i64 (c:Nat), .slice (some ⟨q,o + S.k.ps,none⟩) (g + 1) (cap - S.k.ps)] W fun e w' => e = .returned (.bool (Ch.begP c (Rn.off f S.k.ps) (g + 1))) /\ Below W.heap.size W w':=by
    intro W hb g hg
    obtain ⟨-, -,hTW, -⟩:=CORE.out W hb
    refine begins_any c _ (Rn.off f S.k.ps) (g + 1) W (fun j => HY' _) hTW.spans hTW.tabs (.inr ⟨q,o + S.k.ps,cap - S.k.ps,rfl,by omega,by unfold maxLen at hm ⊢; omega,fun j hj => ?_⟩)
    have hS:=(CORE.out W hb).1.rest.sl
    rcases hS with ⟨e,_⟩ | ⟨q',o',cap',e,_,_,hb'⟩
    . rw [er] at e; cases e
    . rw [er] at e
      cases e
      rw [Nat.add_assoc]
      exact hb' (S.k.ps + j) (by omega)
   have CB:=hide' cB
   have harr:=arr_cr (Rn.off f S.k.ps) (fun j => HY' _) (n - S.k.ps)
   have cC:=fun m => con13 sg ((w1.alloc (.cells #[.int .i32 (r:Nat), .int .i64 (y.1:Nat), .int .i64 (y.2.1:Nat), .int .i64 (y.2.2.1:Nat), .int .i64 (y.2.2.2:Nat), .int .i64 (wd:Nat)] 97)).drewN m)
   clear hby hl hby2 er hm HY' cB
   by_cases hcr:n - S.k.ps=1 /\ f S.k.ps=13
   . have hcr':=harr.2 hcr
     have HCR:=hide' hcr
     clear harr
     by_cases h13:13 ∈ sgn sg
     . rw [show decide (13 ∈ sgn sg)=true by simpa using h13] at cC
       clear hcr
       go_wp2_with fail
       go_quiet (fail)
       go_wp2_with fail
       refine (cC _).mono ?_
       rintro e W ⟨rfl,rfl⟩
       clear cC
       go_wp2_with fail
       obtain ⟨hSW,hToW,hTW,hBW⟩:=CORE.out _ (below_drewN HB2.out nq)
       refine bodyPost_ret (v := .tuple #[.int .i32 0, .bool false]) (by simp [results,Tryd.results46,go_sem]) rfl ⟨rfl, ?_⟩
       have hN:NoEnd ((w1.alloc (.cells #[.int .i32 (r:Nat), .int .i64 (y.1:Nat), .int .i64 (y.2.1:Nat), .int .i64 (y.2.2.1:Nat), .int .i64 (y.2.2.2:Nat), .int .i64 (wd:Nat)] 97)).drewN nq) D B f n S R R1 x c sg:=by
        unfold NoEnd
        rw [if_neg (fun k => k.1 ⟨by have:=HCR.out.1; omega,HCR.out.2,h13⟩)]
        exact ⟨hSW,HS1.out⟩
       first | exact ⟨x,R1,hx1,hx2,hToW,HMN.out,hN⟩ | exact ⟨x,hx1,hx2,R1,hToW,HMN.out,hN⟩
     . rw [show decide (13 ∈ sgn sg) = false by simpa using h13] at cC
       clear hcr
       go_wp2_with fail
       go_quiet (fail)
       go_wp2_with fail
       refine (cC _).mono ?_
       rintro e W ⟨rfl,rfl⟩
       clear cC
       go_wp2_with fail
       go_loopw [11] (fun b wr => ∃ g:Nat,b = .int .i64 g /\ g <= n - S.k.ps /\ Hid (gdF f S.k.ps c (n - S.k.ps - g) g=gd f n S.k.ps c) /\ Below w1.heap.size w1 wr) (fun b _ => (n - S.k.ps) - (RowKit.intOf b).toNat)
       case atStart => exact ⟨0,rfl,Nat.zero_le _,(show _=_ from rfl),below_drewN HB2.out nq⟩
       case round =>
        obtain ⟨g,rfl,hg,hgd,hbr⟩:=hrel
        have HBR:=hide' hbr
        clear hbr
        by_cases hlt2:g < n - S.k.ps
        . have cBg:=CB.out wr HBR.out g (by omega)
          obtain ⟨k0,hk0⟩ : ∃ k0,n - S.k.ps - g=k0 + 1:=⟨n - S.k.ps - g - 1,by omega⟩
          have hgd':=hgd.out
          rw [hk0] at hgd'
          unfold gdF at hgd'
          have i5:(g:Int) < ((n - S.k.ps:Nat) : Int):=by omega
          have i6:(g:Int) + 1 <= ((cap - S.k.ps:Nat) : Int):=by omega
          have i7 : ¬ cap - S.k.ps=0:=by omega
          have i8:(g:Int) + 1 <= ((n - S.k.ps:Nat) : Int):=by omega
          cases hbp:Ch.begP c (Rn.off f S.k.ps) (g + 1)
          . rw [hbp] at cBg hgd'
            rw [if_neg (by simp)] at hgd'
            have HG:=hide' hgd'
            clear hgd hgd' hbp
            go_wp2_with fail
            refine cBg.mono ?_
            rintro e W ⟨rfl,hbW⟩
            have hbW1:=HBR.out.trans (hbW.mono HBR.out.size)
            obtain ⟨hSW,hToW,hTW,hBW⟩:=CORE.out W hbW1
            have e16:=hSW.c16
            have cF:=fail_any hSW (S.k.ps + g) HY.out.lt (by omega) (by have:=HY.out.big; omega) HY.out.pl60
            have HToW:=hide' hToW
            have i9:S.k.ps + g < 9223372036854775808:=by have:=HY.out.big; omega
            dsimp only at e16
            clear hSW hToW hTW hBW hbW hbW1 cBg
            go_wp2_with fail
            refine cF.mono ?_
            rintro e W2 ⟨rfl,hS2,hTo2⟩
            have HS2:=hide' hS2
            have HTo2:=hide' (HToW.out.trans hTo2)
            clear hS2 hTo2 cF HToW
            go_wp2_with fail
            go_ret2
            refine ⟨rfl,x,_,hx1,hx2,HTo2.out,HMN.out, ?_⟩
            unfold NoEnd
            rw [<- HG.out,if_pos ⟨fun e => h13 e.2.2,hlt2⟩]
            exact ⟨HS2.out,by rw [HS1.out]⟩
          . rw [hbp] at cBg hgd'
            rw [if_pos rfl] at hgd'
            have HG:=hide' hgd'
            clear hgd hgd' hbp
            go_wp2_with fail
            refine cBg.mono ?_
            rintro e W ⟨rfl,hbW⟩
            have HBW:=hide' (HBR.out.trans (hbW.mono HBR.out.size))
            clear hbW cBg
            go_wp2_with fail
            go_roundw
            case rel => exact ⟨g + 1,by go_num,by omega,by rw [show n - S.k.ps - (g + 1)=k0 by omega]; exact HG.out,HBW.out⟩
            case measure => simp [RowKit.intOf]; omega
        . have i5 : ¬ (g:Int) < ((n - S.k.ps:Nat) : Int):=by omega
          have hgd':=hgd.out
          rw [show n - S.k.ps - g=0 by omega] at hgd'
          have HG:=hide' hgd'
          clear hgd hgd'
          go_wp2_with fail
          obtain ⟨hSW,hToW,hTW,hBW⟩:=CORE.out wr HBR.out
          refine bodyPost_ret (v := .tuple #[.int .i32 0, .bool false]) (by simp [results,Tryd.results46,go_sem]) rfl ⟨rfl, ?_⟩
          have e:gd f n S.k.ps c=g:=HG.out.symm
          have hN:NoEnd wr D B f n S R R1 x c sg:=by
           unfold NoEnd
           rw [if_neg (by rw [e]; exact fun k => hlt2 k.2)]
           exact ⟨hSW,HS1.out⟩
          first | exact ⟨x,R1,hx1,hx2,hToW,HMN.out,hN⟩ | exact ⟨x,hx1,hx2,R1,hToW,HMN.out,hN⟩
   . have hcr' : ¬ (Rn.arr (Rn.off f S.k.ps) (n - S.k.ps)).toList = [13]:=fun e => hcr (harr.1 e)
     have HCR:=hide' hcr
     clear harr hcr cC
     go_wp2_with fail
     go_quiet (fail)
     go_wp2_with fail
     go_loopw [11] (fun b wr => ∃ g:Nat,b = .int .i64 g /\ g <= n - S.k.ps /\ Hid (gdF f S.k.ps c (n - S.k.ps - g) g=gd f n S.k.ps c) /\ Below w1.heap.size w1 wr) (fun b _ => (n - S.k.ps) - (RowKit.intOf b).toNat)
     case atStart => exact ⟨0,rfl,Nat.zero_le _,(show _=_ from rfl),below_drewN HB2.out nq⟩
     case round =>
      obtain ⟨g,rfl,hg,hgd,hbr⟩:=hrel
      have HBR:=hide' hbr
      clear hbr
      by_cases hlt2:g < n - S.k.ps
      . have cBg:=CB.out wr HBR.out g (by omega)
        obtain ⟨k0,hk0⟩ : ∃ k0,n - S.k.ps - g=k0 + 1:=⟨n - S.k.ps - g - 1,by omega⟩
        have hgd':=hgd.out
        rw [hk0] at hgd'
        unfold gdF at hgd'
        have i5:(g:Int) < ((n - S.k.ps:Nat) : Int):=by omega
        have i6:(g:Int) + 1 <= ((cap - S.k.ps:Nat) : Int):=by omega
        have i7 : ¬ cap - S.k.ps=0:=by omega
        have i8:(g:Int) + 1 <= ((n - S.k.ps:Nat) : Int):=by omega
        cases hbp:Ch.begP c (Rn.off f S.k.ps) (g + 1)
        . rw [hbp] at cBg hgd'
          rw [if_neg (by simp)] at hgd'
          have HG:=hide' hgd'
          clear hgd hgd' hbp
          go_wp2_with fail
          refine cBg.mono ?_
          rintro e W ⟨rfl,hbW⟩
          have hbW1:=HBR.out.trans (hbW.mono HBR.out.size)
          obtain ⟨hSW,hToW,hTW,hBW⟩:=CORE.out W hbW1
          have e16:=hSW.c16
          have cF:=fail_any hSW (S.k.ps + g) HY.out.lt (by omega) (by have:=HY.out.big; omega) HY.out.pl60
          have HToW:=hide' hToW
          have i9:S.k.ps + g < 9223372036854775808:=by have:=HY.out.big; omega
          dsimp only at e16
          clear hSW hToW hTW hBW hbW hbW1 cBg
          go_wp2_with fail
          refine cF.mono ?_
          rintro e W2 ⟨rfl,hS2,hTo2⟩
          have HS2:=hide' hS2
          have HTo2:=hide' (HToW.out.trans hTo2)
          clear hS2 hTo2 cF HToW
          go_wp2_with fail
          go_ret2
          refine ⟨rfl,x,_,hx1,hx2,HTo2.out,HMN.out, ?_⟩
          unfold NoEnd
          rw [<- HG.out,if_pos ⟨fun e => HCR.out ⟨by omega,e.2.1⟩,hlt2⟩]
          exact ⟨HS2.out,by rw [HS1.out]⟩
        . rw [hbp] at cBg hgd'
          rw [if_pos rfl] at hgd'
          have HG:=hide' hgd'
          clear hgd hgd' hbp
          go_wp2_with fail
          refine cBg.mono ?_
          rintro e W ⟨rfl,hbW⟩
          have HBW:=hide' (HBR.out.trans (hbW.mono HBR.out.size))
          clear hbW cBg
          go_wp2_with fail
          go_roundw
          case rel => exact ⟨g + 1,by go_num,by omega,by rw [show n - S.k.ps - (g + 1)=k0 by omega]; exact HG.out,HBW.out⟩
          case measure => simp [RowKit.intOf]; omega
      . have i5 : ¬ (g:Int) < ((n - S.k.ps:Nat) : Int):=by omega
        have hgd':=hgd.out
        rw [show n - S.k.ps - g=0 by omega] at hgd'
        have HG:=hide' hgd'
        clear hgd hgd'
        go_wp2_with fail
        obtain ⟨hSW,hToW,hTW,hBW⟩:=CORE.out wr HBR.out
        refine bodyPost_ret (v := .tuple #[.int .i32 0, .bool false]) (by simp [results,Tryd.results46,go_sem]) rfl ⟨rfl, ?_⟩
        have e:gd f n S.k.ps c=g:=HG.out.symm
        have hN:NoEnd wr D B f n S R R1 x c sg:=by
         unfold NoEnd
         rw [if_neg (by rw [e]; exact fun k => hlt2 k.2)]
         exact ⟨hSW,HS1.out⟩
        first | exact ⟨x,R1,hx1,hx2,hToW,HMN.out,hN⟩ | exact ⟨x,hx1,hx2,R1,hToW,HMN.out,hN⟩
 . have hpe:S.k.ps=n:=by omega
   have hempty:(R1.rest = .slice none 0 0 /\ n=0) \/ ∃ q o cap,R1.rest = .slice (some ⟨q,o,none⟩) n cap /\ n <= cap /\ cap <= 9223372036854775807:=by
    rcases hl with e | ⟨q,o,cap,e,h1,h2,_⟩
    . exact .inl e
    . exact .inr ⟨q,o,cap,e,h1,by unfold maxLen at h2; omega⟩
   have fin : ∀ W,Below w1.heap.size w1 W -> To D R w R1 W /\ NoEnd W D B f n S R R1 x c sg:=by
    intro W hb
    obtain ⟨hSW,hToW,hTW,hBW⟩:=CORE.out W hb
    refine ⟨hToW, ?_⟩
    unfold NoEnd
    rw [if_neg (fun k => by have:=k.2; omega)]
    exact ⟨hSW,HS1.out⟩
   have FIN:=hide' fin
   clear fin hl
   rcases hempty with ⟨er,hn0⟩ | ⟨q,o,cap,er,hc,hm⟩
   . have hp0:S.k.ps=0:=by omega
     rw [er] at d0
     rw [hp0] at d16
     have hcv:=conv_nil (fun _ => 0)
     have hz : ¬ (Rn.arr (fun _ => 0) 0).toList = [13]:=fun e => by have:=((arr_cr (fun _ => 0) (fun _ => by omega) 0).1 e).1; omega
     clear er hp0 hpe hn0 hps hpn
     go_wp2_with fail
     go_quiet (fail)
     go_wp2_with fail
     go_loopw [11] (fun b wr => b = .int .i64 0 /\ Below w1.heap.size w1 wr) (fun _ _ => 0)
     case atStart => exact ⟨rfl,below_drewN HB2.out nq⟩
     case round =>
      obtain ⟨rfl,hbr⟩:=hrel
      have HBR:=hide' hbr
      clear hbr
      go_wp2_with fail
      obtain ⟨hToW,hN⟩:=FIN.out wr HBR.out
      refine bodyPost_ret (v := .tuple #[.int .i32 0, .bool false]) (by simp [results,Tryd.results46,go_sem]) rfl ⟨rfl, ?_⟩
      first | exact ⟨x,R1,hx1,hx2,hToW,HMN.out,hN⟩ | exact ⟨x,hx1,hx2,R1,hToW,HMN.out,hN⟩
   . rw [er] at d0
     have i2:(S.k.ps:Int) <= n:=by omega
     have i3:(0:Int) <= (S.k.ps:Int):=by omega
     have i5:n - S.k.ps=0:=by omega
     have hz : ∀ g, ¬ (Rn.arr g 0).toList = [13]:=fun g e => by
      have:=congrArg List.length e
      unfold Rn.arr at this
      rw [ByteArray.toList_mk] at this
      simp at this
     have hcv:=fun m => bytes_string ((w1.alloc (.cells #[.int .i32 (r:Nat), .int .i64 (y.1:Nat), .int .i64 (y.2.1:Nat), .int .i64 (y.2.2.1:Nat), .int .i64 (y.2.2.2:Nat), .int .i64 (wd:Nat)] 97)).drewN m) q o 0 0 (fun _ => 0) (fun _ => by omega) (fun j hj => by omega)
     have hcv2:=fun m => bytes_string ((w1.alloc (.cells #[.int .i32 (r:Nat), .int .i64 (y.1:Nat), .int .i64 (y.2.1:Nat), .int .i64 (y.2.2.1:Nat), .int .i64 (y.2.2.2:Nat), .int .i64 (wd:Nat)] 97)).drewN m) q (o + S.k.ps) 0 (cap - S.k.ps) (fun _ => 0) (fun _ => by omega) (fun j hj => by omega)
     by_cases hcp:cap=S.k.ps
     . have hcp':cap - S.k.ps=0:=by omega
       clear er hpe hps hpn
       go_wp2_with fail
       go_quiet (fail)
       go_wp2_with fail
       go_loopw [11] (fun b wr => b = .int .i64 0 /\ Below w1.heap.size w1 wr) (fun _ _ => 0)
       case atStart => exact ⟨rfl,below_drewN HB2.out nq⟩
       case round =>
        obtain ⟨rfl,hbr⟩:=hrel
        have HBR:=hide' hbr
        clear hbr
        go_wp2_with fail
        obtain ⟨hToW,hN⟩:=FIN.out wr HBR.out
        refine bodyPost_ret (v := .tuple #[.int .i32 0, .bool false]) (by simp [results,Tryd.results46,go_sem]) rfl ⟨rfl, ?_⟩
        first | exact ⟨x,R1,hx1,hx2,hToW,HMN.out,hN⟩ | exact ⟨x,hx1,hx2,R1,hToW,HMN.out,hN⟩
     . clear er hpe hps hpn
       go_wp2_with fail
       go_quiet (fail)
       go_wp2_with fail
       go_loopw [11] (fun b wr => b = .int .i64 0 /\ Below w1.heap.size w1 wr) (fun _ _ => 0)
       case atStart => exact ⟨rfl,below_drewN HB2.out nq⟩
       case round =>
        obtain ⟨rfl,hbr⟩:=hrel
        have HBR:=hide' hbr
        clear hbr
        go_wp2_with fail
        obtain ⟨hToW,hN⟩:=FIN.out wr HBR.out
        refine bodyPost_ret (v := .tuple #[.int .i32 0, .bool false]) (by simp [results,Tryd.results46,go_sem]) rfl ⟨rfl, ?_⟩
        first | exact ⟨x,R1,hx1,hx2,hToW,HMN.out,hN⟩ | exact ⟨x,hx1,hx2,R1,hToW,HMN.out,hN⟩
end
section
variable {w:World} {D B n:Nat} {f:Nat -> Nat} {S:St} {R:Raw}
theorem next_no2 (h:SC w D B f n S R) (d:Nat) (hy:Rdy w B n f S R d) (c:Nat) (sg:List UInt8) (hk:(Fd.pk f n S.k.ps false).2.2.2=2) :
 Calls Tryd.prog 46 #[.pointer (some ⟨D,0,none⟩), .int .i64 (c:Nat), .string ⟨sg.toArray⟩] w fun e w' => e = .returned (.tuple #[.int .i32 0, .bool false]) /\ ∃ x R',S.fed <= x /\ x <= n /\ To D R w R' w' /\ Mn f S.k.ps x /\ NoEnd w' D B f n S R R' x c sg:=by
 have cL:=look_any h hy.tb hy.bw hy.lt (by have:=hy.big; omega) d hy.fp (by rw [hy.q]; exact hy.qe) hy.e hy.fn (by rw [hy.q]; exact hy.mn)
 rw [hy.q] at cL
 have hlt:=pk_lt hy.lt n S.k.ps
 obtain ⟨P,hP⟩ : ∃ P,Fd.pk f n S.k.ps false=P:=⟨_,rfl⟩
 rw [hP] at cL hk hlt
 have HPk:=hide' hP
 clear hP
 obtain ⟨r,a0,wd,m⟩:=P
 simp only at cL hk hlt
 subst hk
 have HH:=hide' h
 have HY:=hide' hy
 clear h hy
 go_enter Tryd.func46,Tryd.ntmps46
 go_wp2_with fail
 refine cL.mono ?_
 rintro e w1 ⟨⟨y,rfl⟩,x,R1,hx1,hx2,hR1,hS1,hpx,hTo1,hMn1⟩
 have hT1:=HY.out.tb.to (HH.out.to_below hTo1)
 have hB1:=Nat.le_trans HY.out.bw hTo1.mv.size
 have hps:S.k.ps <= n:=Nat.le_trans HY.out.qe (Nat.le_trans hx1 hx2)
 have hb2:Below w1.heap.size w1 (w1.alloc (.cells (chA (r,a0,wd,2) y) 97)):=(Below.refl _ _).alloc (Nat.le_refl _) _
 have core : ∀ W,Below w1.heap.size w1 W ->
  SC W D B f n { S with fed:=x,q:=S.k.ps,e:=x } R1 /\ To D R w R1 W /\ Tb B W /\ B <= W.heap.size:=by
  intro W hb
  exact ⟨hS1.below hb,hTo1.trans (.of_below hb),hT1.below hb hB1,Nat.le_trans hB1 hb.size⟩
 have CORE:=hide' core
 have HS1:=hide' hR1
 have HMN:=hide' hMn1
 have HPX:=hide' hpx
 have HB2:=hide' hb2
 clear cL hR1 hMn1 hpx hT1 core hS1 hTo1 hb2
 unfold chV
 obtain ⟨hSW,hToW,hTW,hBW⟩:=CORE.out _ HB2.out
 have d16:=hSW.c16
 have d0:=hSW.c0
 have hl:=hSW.rest.sl
 unfold chA at d16 d0 hl
 dsimp only at d16
 clear hSW hToW hTW hBW
 by_cases hpn:S.k.ps < n
 . obtain ⟨q, o, cap, er, hc, hm, hby⟩ : ∃ q o cap, R1.rest = .slice (some ⟨q, o, none⟩) n cap ∧ n ≤ cap ∧ cap ≤ maxLen ∧ Bytes _ q o n f := by
    rcases hl with ⟨_,e⟩ | e
    . omega
    . exact e
   rw [er] at d0
   have hm':cap <= 9223372036854775807:=by unfold maxLen at hm; omega
   have hby2:Bytes (w1.alloc (.cells #[.int .i32 (r:Nat), .int .i64 (y.1:Nat), .int .i64 (y.2.1:Nat), .int .i64 (y.2.2.1:Nat), .int .i64 (y.2.2.2:Nat), .int .i64 (wd:Nat)] 97)) q (o + S.k.ps) (n - S.k.ps) (Rn.off f S.k.ps):=fun j hj => by rw [Nat.add_assoc]; exact hby (S.k.ps + j) (by omega)
   have HBY:=hide' hby2
   have i2:(S.k.ps:Int) <= n:=by omega
   have i3:(0:Int) <= (S.k.ps:Int):=by omega
   have i4 : ¬ cap=S.k.ps:=by omega
   have HY':=HY.out.lt
   have hcv:=fun m => bytes_string ((w1.alloc (.cells #[.int .i32 (r:Nat), .int .i64 (y.1:Nat), .int .i64 (y.2.1:Nat), .int .i64 (y.2.2.1:Nat), .int .i64 (y.2.2.2:Nat), .int .i64 (wd:Nat)] 97)).drewN m) q (o + S.k.ps) (n - S.k.ps) (cap - S.k.ps) (Rn.off f S.k.ps) (fun j => HY' _) HBY.out
   have cB : ∀ W,Below w1.heap.size w1 W -> ∀ g,g + 1 <= n - S.k.ps -> Calls Tryd.prog 66 #[.int .i64 (c:Nat), .slice (some ⟨q,o + S.k.ps,none⟩) (g + 1) (cap - S.k.ps)] W fun e w' => e = .returned (.bool (Ch.begP c (Rn.off f S.k.ps) (g + 1))) /\ Below W.heap.size W w':=by
    intro W hb g hg
    obtain ⟨-, -,hTW, -⟩:=CORE.out W hb
    refine begins_any c _ (Rn.off f S.k.ps) (g + 1) W (fun j => HY' _) hTW.spans hTW.tabs (.inr ⟨q,o + S.k.ps,cap - S.k.ps,rfl,by omega,by unfold maxLen at hm ⊢; omega,fun j hj => ?_⟩)
    have hS:=(CORE.out W hb).1.rest.sl
    rcases hS with ⟨e,_⟩ | ⟨q',o',cap',e,_,_,hb'⟩
    . rw [er] at e; cases e
    . rw [er] at e
      cases e
      rw [Nat.add_assoc]
      exact hb' (S.k.ps + j) (by omega)
   have CB:=hide' cB
   have harr:=arr_cr (Rn.off f S.k.ps) (fun j => HY' _) (n - S.k.ps)
   have cC:=fun m => con13 sg ((w1.alloc (.cells #[.int .i32 (r:Nat), .int .i64 (y.1:Nat), .int .i64 (y.2.1:Nat), .int .i64 (y.2.2.1:Nat), .int .i64 (y.2.2.2:Nat), .int .i64 (wd:Nat)] 97)).drewN m)
   clear hby hl hby2 er hm HY' cB
   by_cases hcr:n - S.k.ps=1 /\ f S.k.ps=13
   . have hcr':=harr.2 hcr
     have HCR:=hide' hcr
     clear harr
     by_cases h13:13 ∈ sgn sg
     . rw [show decide (13 ∈ sgn sg)=true by simpa using h13] at cC
       clear hcr
       go_wp2_with fail
       go_quiet (fail)
       go_wp2_with fail
       refine (cC _).mono ?_
       rintro e W ⟨rfl,rfl⟩
       clear cC
       go_wp2_with fail
       obtain ⟨hSW,hToW,hTW,hBW⟩:=CORE.out _ (below_drewN HB2.out nq)
       refine bodyPost_ret (v := .tuple #[.int .i32 0, .bool false]) (by simp [results,Tryd.results46,go_sem]) rfl ⟨rfl, ?_⟩
       have hN:NoEnd ((w1.alloc (.cells #[.int .i32 (r:Nat), .int .i64 (y.1:Nat), .int .i64 (y.2.1:Nat), .int .i64 (y.2.2.1:Nat), .int .i64 (y.2.2.2:Nat), .int .i64 (wd:Nat)] 97)).drewN nq) D B f n S R R1 x c sg:=by
        unfold NoEnd
        rw [if_neg (fun k => k.1 ⟨by have:=HCR.out.1; omega,HCR.out.2,h13⟩)]
        exact ⟨hSW,HS1.out⟩
       first | exact ⟨x,R1,hx1,hx2,hToW,HMN.out,hN⟩ | exact ⟨x,hx1,hx2,R1,hToW,HMN.out,hN⟩
     . rw [show decide (13 ∈ sgn sg) = false by simpa using h13] at cC
       clear hcr
       go_wp2_with fail
       go_quiet (fail)
       go_wp2_with fail
       refine (cC _).mono ?_
       rintro e W ⟨rfl,rfl⟩
       clear cC
       go_wp2_with fail
       go_loopw [11] (fun b wr => ∃ g:Nat,b = .int .i64 g /\ g <= n - S.k.ps /\ Hid (gdF f S.k.ps c (n - S.k.ps - g) g=gd f n S.k.ps c) /\ Below w1.heap.size w1 wr) (fun b _ => (n - S.k.ps) - (RowKit.intOf b).toNat)
       case atStart => exact ⟨0,rfl,Nat.zero_le _,(show _=_ from rfl),below_drewN HB2.out nq⟩
       case round =>
        obtain ⟨g,rfl,hg,hgd,hbr⟩:=hrel
        have HBR:=hide' hbr
        clear hbr
        by_cases hlt2:g < n - S.k.ps
        . have cBg:=CB.out wr HBR.out g (by omega)
          obtain ⟨k0,hk0⟩ : ∃ k0,n - S.k.ps - g=k0 + 1:=⟨n - S.k.ps - g - 1,by omega⟩
          have hgd':=hgd.out
          rw [hk0] at hgd'
          unfold gdF at hgd'
          have i5:(g:Int) < ((n - S.k.ps:Nat) : Int):=by omega
          have i6:(g:Int) + 1 <= ((cap - S.k.ps:Nat) : Int):=by omega
          have i7 : ¬ cap - S.k.ps=0:=by omega
          have i8:(g:Int) + 1 <= ((n - S.k.ps:Nat) : Int):=by omega
          cases hbp:Ch.begP c (Rn.off f S.k.ps) (g + 1)
          . rw [hbp] at cBg hgd'
            rw [if_neg (by simp)] at hgd'
            have HG:=hide' hgd'
            clear hgd hgd' hbp
            go_wp2_with fail
            refine cBg.mono ?_
            rintro e W ⟨rfl,hbW⟩
            have hbW1:=HBR.out.trans (hbW.mono HBR.out.size)
            obtain ⟨hSW,hToW,hTW,hBW⟩:=CORE.out W hbW1
            have e16:=hSW.c16
            have cF:=fail_any hSW (S.k.ps + g) HY.out.lt (by omega) (by have:=HY.out.big; omega) HY.out.pl60
            have HToW:=hide' hToW
            have i9:S.k.ps + g < 9223372036854775808:=by have:=HY.out.big; omega
            dsimp only at e16
            clear hSW hToW hTW hBW hbW hbW1 cBg
            go_wp2_with fail
            refine cF.mono ?_
            rintro e W2 ⟨rfl,hS2,hTo2⟩
            have HS2:=hide' hS2
            have HTo2:=hide' (HToW.out.trans hTo2)
            clear hS2 hTo2 cF HToW
            go_wp2_with fail
            go_ret2
            refine ⟨rfl,x,_,hx1,hx2,HTo2.out,HMN.out, ?_⟩
            unfold NoEnd
            rw [<- HG.out,if_pos ⟨fun e => h13 e.2.2,hlt2⟩]
            exact ⟨HS2.out,by rw [HS1.out]⟩
          . rw [hbp] at cBg hgd'
            rw [if_pos rfl] at hgd'
            have HG:=hide' hgd'
            clear hgd hgd' hbp
            go_wp2_with fail
            refine cBg.mono ?_
            rintro e W ⟨rfl,hbW⟩
            have HBW:=hide' (HBR.out.trans (hbW.mono HBR.out.size))
            clear hbW cBg
            go_wp2_with fail
            go_roundw
            case rel => exact ⟨g + 1,by go_num,by omega,by rw [show n - S.k.ps - (g + 1)=k0 by omega]; exact HG.out,HBW.out⟩
            case measure => simp [RowKit.intOf]; omega
        . have i5 : ¬ (g:Int) < ((n - S.k.ps:Nat) : Int):=by omega
          have hgd':=hgd.out
          rw [show n - S.k.ps - g=0 by omega] at hgd'
          have HG:=hide' hgd'
          clear hgd hgd'
          go_wp2_with fail
          obtain ⟨hSW,hToW,hTW,hBW⟩:=CORE.out wr HBR.out
          refine bodyPost_ret (v := .tuple #[.int .i32 0, .bool false]) (by simp [results,Tryd.results46,go_sem]) rfl ⟨rfl, ?_⟩
          have e:gd f n S.k.ps c=g:=HG.out.symm
          have hN:NoEnd wr D B f n S R R1 x c sg:=by
           unfold NoEnd
           rw [if_neg (by rw [e]; exact fun k => hlt2 k.2)]
           exact ⟨hSW,HS1.out⟩
          first | exact ⟨x,R1,hx1,hx2,hToW,HMN.out,hN⟩ | exact ⟨x,hx1,hx2,R1,hToW,HMN.out,hN⟩
   . have hcr' : ¬ (Rn.arr (Rn.off f S.k.ps) (n - S.k.ps)).toList = [13]:=fun e => hcr (harr.1 e)
     have HCR:=hide' hcr
     clear harr hcr cC
     go_wp2_with fail
     go_quiet (fail)
     go_wp2_with fail
     go_loopw [11] (fun b wr => ∃ g:Nat,b = .int .i64 g /\ g <= n - S.k.ps /\ Hid (gdF f S.k.ps c (n - S.k.ps - g) g=gd f n S.k.ps c) /\ Below w1.heap.size w1 wr) (fun b _ => (n - S.k.ps) - (RowKit.intOf b).toNat)
     case atStart => exact ⟨0,rfl,Nat.zero_le _,(show _=_ from rfl),below_drewN HB2.out nq⟩
     case round =>
      obtain ⟨g,rfl,hg,hgd,hbr⟩:=hrel
      have HBR:=hide' hbr
      clear hbr
      by_cases hlt2:g < n - S.k.ps
      . have cBg:=CB.out wr HBR.out g (by omega)
        obtain ⟨k0,hk0⟩ : ∃ k0,n - S.k.ps - g=k0 + 1:=⟨n - S.k.ps - g - 1,by omega⟩
        have hgd':=hgd.out
        rw [hk0] at hgd'
        unfold gdF at hgd'
        have i5:(g:Int) < ((n - S.k.ps:Nat) : Int):=by omega
        have i6:(g:Int) + 1 <= ((cap - S.k.ps:Nat) : Int):=by omega
        have i7 : ¬ cap - S.k.ps=0:=by omega
        have i8:(g:Int) + 1 <= ((n - S.k.ps:Nat) : Int):=by omega
        cases hbp:Ch.begP c (Rn.off f S.k.ps) (g + 1)
        . rw [hbp] at cBg hgd'
          rw [if_neg (by simp)] at hgd'
          have HG:=hide' hgd'
          clear hgd hgd' hbp
          go_wp2_with fail
          refine cBg.mono ?_
          rintro e W ⟨rfl,hbW⟩
          have hbW1:=HBR.out.trans (hbW.mono HBR.out.size)
          obtain ⟨hSW,hToW,hTW,hBW⟩:=CORE.out W hbW1
          have e16:=hSW.c16
          have cF:=fail_any hSW (S.k.ps + g) HY.out.lt (by omega) (by have:=HY.out.big; omega) HY.out.pl60
          have HToW:=hide' hToW
          have i9:S.k.ps + g < 9223372036854775808:=by have:=HY.out.big; omega
          dsimp only at e16
          clear hSW hToW hTW hBW hbW hbW1 cBg
          go_wp2_with fail
          refine cF.mono ?_
          rintro e W2 ⟨rfl,hS2,hTo2⟩
          have HS2:=hide' hS2
          have HTo2:=hide' (HToW.out.trans hTo2)
          clear hS2 hTo2 cF HToW
          go_wp2_with fail
          go_ret2
          refine ⟨rfl,x,_,hx1,hx2,HTo2.out,HMN.out, ?_⟩
          unfold NoEnd
          rw [<- HG.out,if_pos ⟨fun e => HCR.out ⟨by omega,e.2.1⟩,hlt2⟩]
          exact ⟨HS2.out,by rw [HS1.out]⟩
        . rw [hbp] at cBg hgd'
          rw [if_pos rfl] at hgd'
          have HG:=hide' hgd'
          clear hgd hgd' hbp
          go_wp2_with fail
          refine cBg.mono ?_
          rintro e W ⟨rfl,hbW⟩
          have HBW:=hide' (HBR.out.trans (hbW.mono HBR.out.size))
          clear hbW cBg
          go_wp2_with fail
          go_roundw
          case rel => exact ⟨g + 1,by go_num,by omega,by rw [show n - S.k.ps - (g + 1)=k0 by omega]; exact HG.out,HBW.out⟩
          case measure => simp [RowKit.intOf]; omega
      . have i5 : ¬ (g:Int) < ((n - S.k.ps:Nat) : Int):=by omega
        have hgd':=hgd.out
        rw [show n - S.k.ps - g=0 by omega] at hgd'
        have HG:=hide' hgd'
        clear hgd hgd'
        go_wp2_with fail
        obtain ⟨hSW,hToW,hTW,hBW⟩:=CORE.out wr HBR.out
        refine bodyPost_ret (v := .tuple #[.int .i32 0, .bool false]) (by simp [results,Tryd.results46,go_sem]) rfl ⟨rfl, ?_⟩
        have e:gd f n S.k.ps c=g:=HG.out.symm
        have hN:NoEnd wr D B f n S R R1 x c sg:=by
         unfold NoEnd
         rw [if_neg (by rw [e]; exact fun k => hlt2 k.2)]
         exact ⟨hSW,HS1.out⟩
        first | exact ⟨x,R1,hx1,hx2,hToW,HMN.out,hN⟩ | exact ⟨x,hx1,hx2,R1,hToW,HMN.out,hN⟩
 . have hpe:S.k.ps=n:=by omega
   have hempty:(R1.rest = .slice none 0 0 /\ n=0) \/ ∃ q o cap,R1.rest = .slice (some ⟨q,o,none⟩) n cap /\ n <= cap /\ cap <= 9223372036854775807:=by
    rcases hl with e | ⟨q,o,cap,e,h1,h2,_⟩
    . exact .inl e
    . exact .inr ⟨q,o,cap,e,h1,by unfold maxLen at h2; omega⟩
   have fin : ∀ W,Below w1.heap.size w1 W -> To D R w R1 W /\ NoEnd W D B f n S R R1 x c sg:=by
    intro W hb
    obtain ⟨hSW,hToW,hTW,hBW⟩:=CORE.out W hb
    refine ⟨hToW, ?_⟩
    unfold NoEnd
    rw [if_neg (fun k => by have:=k.2; omega)]
    exact ⟨hSW,HS1.out⟩
   have FIN:=hide' fin
   clear fin hl
   rcases hempty with ⟨er,hn0⟩ | ⟨q,o,cap,er,hc,hm⟩
   . have hp0:S.k.ps=0:=by omega
     rw [er] at d0
     rw [hp0] at d16
     have hcv:=conv_nil (fun _ => 0)
     have hz : ¬ (Rn.arr (fun _ => 0) 0).toList = [13]:=fun e => by have:=((arr_cr (fun _ => 0) (fun _ => by omega) 0).1 e).1; omega
     clear er hp0 hpe hn0 hps hpn
     go_wp2_with fail
     go_quiet (fail)
     go_wp2_with fail
     go_loopw [11] (fun b wr => b = .int .i64 0 /\ Below w1.heap.size w1 wr) (fun _ _ => 0)
     case atStart => exact ⟨rfl,below_drewN HB2.out nq⟩
     case round =>
      obtain ⟨rfl,hbr⟩:=hrel
      have HBR:=hide' hbr
      clear hbr
      go_wp2_with fail
      obtain ⟨hToW,hN⟩:=FIN.out wr HBR.out
      refine bodyPost_ret (v := .tuple #[.int .i32 0, .bool false]) (by simp [results,Tryd.results46,go_sem]) rfl ⟨rfl, ?_⟩
      first | exact ⟨x,R1,hx1,hx2,hToW,HMN.out,hN⟩ | exact ⟨x,hx1,hx2,R1,hToW,HMN.out,hN⟩
   . rw [er] at d0
     have i2:(S.k.ps:Int) <= n:=by omega
     have i3:(0:Int) <= (S.k.ps:Int):=by omega
     have i5:n - S.k.ps=0:=by omega
     have hz : ∀ g, ¬ (Rn.arr g 0).toList = [13]:=fun g e => by
      have:=congrArg List.length e
      unfold Rn.arr at this
      rw [ByteArray.toList_mk] at this
      simp at this
     have hcv:=fun m => bytes_string ((w1.alloc (.cells #[.int .i32 (r:Nat), .int .i64 (y.1:Nat), .int .i64 (y.2.1:Nat), .int .i64 (y.2.2.1:Nat), .int .i64 (y.2.2.2:Nat), .int .i64 (wd:Nat)] 97)).drewN m) q o 0 0 (fun _ => 0) (fun _ => by omega) (fun j hj => by omega)
     have hcv2:=fun m => bytes_string ((w1.alloc (.cells #[.int .i32 (r:Nat), .int .i64 (y.1:Nat), .int .i64 (y.2.1:Nat), .int .i64 (y.2.2.1:Nat), .int .i64 (y.2.2.2:Nat), .int .i64 (wd:Nat)] 97)).drewN m) q (o + S.k.ps) 0 (cap - S.k.ps) (fun _ => 0) (fun _ => by omega) (fun j hj => by omega)
     by_cases hcp:cap=S.k.ps
     . have hcp':cap - S.k.ps=0:=by omega
       clear er hpe hps hpn
       go_wp2_with fail
       go_quiet (fail)
       go_wp2_with fail
       go_loopw [11] (fun b wr => b = .int .i64 0 /\ Below w1.heap.size w1 wr) (fun _ _ => 0)
       case atStart => exact ⟨rfl,below_drewN HB2.out nq⟩
       case round =>
        obtain ⟨rfl,hbr⟩:=hrel
        have HBR:=hide' hbr
        clear hbr
        go_wp2_with fail
        obtain ⟨hToW,hN⟩:=FIN.out wr HBR.out
        refine bodyPost_ret (v := .tuple #[.int .i32 0, .bool false]) (by simp [results,Tryd.results46,go_sem]) rfl ⟨rfl, ?_⟩
        first | exact ⟨x,R1,hx1,hx2,hToW,HMN.out,hN⟩ | exact ⟨x,hx1,hx2,R1,hToW,HMN.out,hN⟩
     . clear er hpe hps hpn
       go_wp2_with fail
       go_quiet (fail)
       go_wp2_with fail
       go_loopw [11] (fun b wr => b = .int .i64 0 /\ Below w1.heap.size w1 wr) (fun _ _ => 0)
       case atStart => exact ⟨rfl,below_drewN HB2.out nq⟩
       case round =>
        obtain ⟨rfl,hbr⟩:=hrel
        have HBR:=hide' hbr
        clear hbr
        go_wp2_with fail
        obtain ⟨hToW,hN⟩:=FIN.out wr HBR.out
        refine bodyPost_ret (v := .tuple #[.int .i32 0, .bool false]) (by simp [results,Tryd.results46,go_sem]) rfl ⟨rfl, ?_⟩
        first | exact ⟨x,R1,hx1,hx2,hToW,HMN.out,hN⟩ | exact ⟨x,hx1,hx2,R1,hToW,HMN.out,hN⟩
end
section
variable {w:World} {D B n:Nat} {f:Nat -> Nat} {S:St} {R:Raw}
theorem next_no0 (h:SC w D B f n S R) (d:Nat) (hy:Rdy w B n f S R d) (c:Nat) (sg:List UInt8) (hk:(Fd.pk f n S.k.ps false).2.2.2=0) (hi:Ch.isT Ch.tab c ((Fd.pk f n S.k.ps false).1:Nat)=false) (hno : ¬ (Fd.pk f n S.k.ps false).1 ∈ sgn sg) (hcr:CR sg (Fd.pk f n S.k.ps false).1) :
 Calls Tryd.prog 46 #[.pointer (some ⟨D,0,none⟩), .int .i64 (c:Nat), .string ⟨sg.toArray⟩] w fun e w' => e = .returned (.tuple #[.int .i32 0, .bool false]) /\ ∃ x R',S.fed <= x /\ x <= n /\ To D R w R' w' /\ Mn f S.k.ps x /\ NoEnd w' D B f n S R R' x c sg:=by
 have cL:=look_any h hy.tb hy.bw hy.lt (by have:=hy.big; omega) d hy.fp (by rw [hy.q]; exact hy.qe) hy.e hy.fn (by rw [hy.q]; exact hy.mn)
 rw [hy.q] at cL
 have hlt:=pk_lt hy.lt n S.k.ps
 obtain ⟨P,hP⟩ : ∃ P,Fd.pk f n S.k.ps false=P:=⟨_,rfl⟩
 rw [hP] at cL hk hi hno hcr hlt
 have HPk:=hide' hP
 clear hP
 obtain ⟨r,a0,wd,m⟩:=P
 simp only at cL hk hi hno hcr hlt
 subst hk
 have HH:=hide' h
 have HY:=hide' hy
 clear h hy
 go_enter Tryd.func46,Tryd.ntmps46
 go_wp2_with fail
 refine cL.mono ?_
 rintro e w1 ⟨⟨y,rfl⟩,x,R1,hx1,hx2,hR1,hS1,hpx,hTo1,hMn1⟩
 have hT1:=HY.out.tb.to (HH.out.to_below hTo1)
 have hB1:=Nat.le_trans HY.out.bw hTo1.mv.size
 have hps:S.k.ps <= n:=Nat.le_trans HY.out.qe (Nat.le_trans hx1 hx2)
 have hb2:Below w1.heap.size w1 (w1.alloc (.cells (chA (r,a0,wd,0) y) 97)):=(Below.refl _ _).alloc (Nat.le_refl _) _
 have core : ∀ W,Below w1.heap.size w1 W ->
  SC W D B f n { S with fed:=x,q:=S.k.ps,e:=x } R1 /\ To D R w R1 W /\ Tb B W /\ B <= W.heap.size:=by
  intro W hb
  exact ⟨hS1.below hb,hTo1.trans (.of_below hb),hT1.below hb hB1,Nat.le_trans hB1 hb.size⟩
 have CORE:=hide' core
 have HS1:=hide' hR1
 have HMN:=hide' hMn1
 have HPX:=hide' hpx
 have HB2:=hide' hb2
 clear cL hR1 hMn1 hpx hT1 core hS1 hTo1 hb2
 unfold chV
 have cI:=is_any c r (w1.alloc (.cells #[.int .i32 (r:Nat), .int .i64 (y.1:Nat), .int .i64 (y.2.1:Nat), .int .i64 (y.2.2.1:Nat), .int .i64 (y.2.2.2:Nat), .int .i64 (wd:Nat)] 97)) (CORE.out _ HB2.out).2.2.1.spans
 rw [hi] at cI
 go_wp2_with fail
 refine cI.mono ?_
 rintro e V0 ⟨rfl,hb0⟩
 have hV0:=HB2.out.trans (hb0.mono (by simp))
 have hk0:V0.heap[w1.heap.size]? = some (.cells (chA (r,a0,wd,0) y) 97 (0,0)):=(hb0.block w1.heap.size (by simp)).trans (heap_alloc_new w1 _)
 have v0:V0.cell? ⟨w1.heap.size,0,none⟩ = some (.int .i32 (r:Nat)):=by rw [Lib.cell_of_heap hk0]; rfl
 have cR:=hcr V0
 rw [show decide (r ∈ sgn sg)=false by simpa using hno] at cR
 have HV0:=hide' hV0
 clear cI hb0 hV0 hk0 HB2 hi hno hcr
 go_wp2_with fail
 refine cR.mono ?_
 rintro e V ⟨rfl,hb1⟩
 have HB2:=hide' (HV0.out.trans (hb1.mono HV0.out.size))
 clear cR hb1 HV0 v0
 obtain ⟨hSW,hToW,hTW,hBW⟩:=CORE.out _ HB2.out
 have d16:=hSW.c16
 have d0:=hSW.c0
 have hl:=hSW.rest.sl
 dsimp only at d16
 clear hSW hToW hTW hBW
 by_cases hpn:S.k.ps < n
 . obtain ⟨q, o, cap, er, hc, hm, hby⟩ : ∃ q o cap, R1.rest = .slice (some ⟨q, o, none⟩) n cap ∧ n ≤ cap ∧ cap ≤ maxLen ∧ Bytes _ q o n f := by
    rcases hl with ⟨_,e⟩ | e
    . omega
    . exact e
   rw [er] at d0
   have hm':cap <= 9223372036854775807:=by unfold maxLen at hm; omega
   have hby2:Bytes V q (o + S.k.ps) (n - S.k.ps) (Rn.off f S.k.ps):=fun j hj => by rw [Nat.add_assoc]; exact hby (S.k.ps + j) (by omega)
   have HBY:=hide' hby2
   have i2:(S.k.ps:Int) <= n:=by omega
   have i3:(0:Int) <= (S.k.ps:Int):=by omega
   have i4 : ¬ cap=S.k.ps:=by omega
   have HY':=HY.out.lt
   have hcv:=fun m => bytes_string (V.drewN m) q (o + S.k.ps) (n - S.k.ps) (cap - S.k.ps) (Rn.off f S.k.ps) (fun j => HY' _) HBY.out
   have cB : ∀ W,Below w1.heap.size w1 W -> ∀ g,g + 1 <= n - S.k.ps -> Calls Tryd.prog 66 #[.int .i64 (c:Nat), .slice (some ⟨q,o + S.k.ps,none⟩) (g + 1) (cap - S.k.ps)] W fun e w' => e = .returned (.bool (Ch.begP c (Rn.off f S.k.ps) (g + 1))) /\ Below W.heap.size W w':=by
    intro W hb g hg
    obtain ⟨-, -,hTW, -⟩:=CORE.out W hb
    refine begins_any c _ (Rn.off f S.k.ps) (g + 1) W (fun j => HY' _) hTW.spans hTW.tabs (.inr ⟨q,o + S.k.ps,cap - S.k.ps,rfl,by omega,by unfold maxLen at hm ⊢; omega,fun j hj => ?_⟩)
    have hS:=(CORE.out W hb).1.rest.sl
    rcases hS with ⟨e,_⟩ | ⟨q',o',cap',e,_,_,hb'⟩
    . rw [er] at e; cases e
    . rw [er] at e
      cases e
      rw [Nat.add_assoc]
      exact hb' (S.k.ps + j) (by omega)
   have CB:=hide' cB
   have harr:=arr_cr (Rn.off f S.k.ps) (fun j => HY' _) (n - S.k.ps)
   have cC:=fun m => con13 sg (V.drewN m)
   clear hby hl hby2 er hm HY' cB
   by_cases hcr:n - S.k.ps=1 /\ f S.k.ps=13
   . have hcr':=harr.2 hcr
     have HCR:=hide' hcr
     clear harr
     by_cases h13:13 ∈ sgn sg
     . rw [show decide (13 ∈ sgn sg)=true by simpa using h13] at cC
       clear hcr
       go_wp2_with fail
       go_quiet (fail)
       go_wp2_with fail
       refine (cC _).mono ?_
       rintro e W ⟨rfl,rfl⟩
       clear cC
       go_wp2_with fail
       obtain ⟨hSW,hToW,hTW,hBW⟩:=CORE.out _ (below_drewN HB2.out nq)
       refine bodyPost_ret (v := .tuple #[.int .i32 0, .bool false]) (by simp [results,Tryd.results46,go_sem]) rfl ⟨rfl, ?_⟩
       have hN:NoEnd (V.drewN nq) D B f n S R R1 x c sg:=by
        unfold NoEnd
        rw [if_neg (fun k => k.1 ⟨by have:=HCR.out.1; omega,HCR.out.2,h13⟩)]
        exact ⟨hSW,HS1.out⟩
       first | exact ⟨x,R1,hx1,hx2,hToW,HMN.out,hN⟩ | exact ⟨x,hx1,hx2,R1,hToW,HMN.out,hN⟩
     . rw [show decide (13 ∈ sgn sg) = false by simpa using h13] at cC
       clear hcr
       go_wp2_with fail
       go_quiet (fail)
       go_wp2_with fail
       refine (cC _).mono ?_
       rintro e W ⟨rfl,rfl⟩
       clear cC
       go_wp2_with fail
       go_loopw [11] (fun b wr => ∃ g:Nat,b = .int .i64 g /\ g <= n - S.k.ps /\ Hid (gdF f S.k.ps c (n - S.k.ps - g) g=gd f n S.k.ps c) /\ Below w1.heap.size w1 wr) (fun b _ => (n - S.k.ps) - (RowKit.intOf b).toNat)
       case atStart => exact ⟨0,rfl,Nat.zero_le _,(show _=_ from rfl),below_drewN HB2.out nq⟩
       case round =>
        obtain ⟨g,rfl,hg,hgd,hbr⟩:=hrel
        have HBR:=hide' hbr
        clear hbr
        by_cases hlt2:g < n - S.k.ps
        . have cBg:=CB.out wr HBR.out g (by omega)
          obtain ⟨k0,hk0⟩ : ∃ k0,n - S.k.ps - g=k0 + 1:=⟨n - S.k.ps - g - 1,by omega⟩
          have hgd':=hgd.out
          rw [hk0] at hgd'
          unfold gdF at hgd'
          have i5:(g:Int) < ((n - S.k.ps:Nat) : Int):=by omega
          have i6:(g:Int) + 1 <= ((cap - S.k.ps:Nat) : Int):=by omega
          have i7 : ¬ cap - S.k.ps=0:=by omega
          have i8:(g:Int) + 1 <= ((n - S.k.ps:Nat) : Int):=by omega
          cases hbp:Ch.begP c (Rn.off f S.k.ps) (g + 1)
          . rw [hbp] at cBg hgd'
            rw [if_neg (by simp)] at hgd'
            have HG:=hide' hgd'
            clear hgd hgd' hbp
            go_wp2_with fail
            refine cBg.mono ?_
            rintro e W ⟨rfl,hbW⟩
            have hbW1:=HBR.out.trans (hbW.mono HBR.out.size)
            obtain ⟨hSW,hToW,hTW,hBW⟩:=CORE.out W hbW1
            have e16:=hSW.c16
            have cF:=fail_any hSW (S.k.ps + g) HY.out.lt (by omega) (by have:=HY.out.big; omega) HY.out.pl60
            have HToW:=hide' hToW
            have i9:S.k.ps + g < 9223372036854775808:=by have:=HY.out.big; omega
            dsimp only at e16
            clear hSW hToW hTW hBW hbW hbW1 cBg
            go_wp2_with fail
            refine cF.mono ?_
            rintro e W2 ⟨rfl,hS2,hTo2⟩
            have HS2:=hide' hS2
            have HTo2:=hide' (HToW.out.trans hTo2)
            clear hS2 hTo2 cF HToW
            go_wp2_with fail
            go_ret2
            refine ⟨rfl,x,_,hx1,hx2,HTo2.out,HMN.out, ?_⟩
            unfold NoEnd
            rw [<- HG.out,if_pos ⟨fun e => h13 e.2.2,hlt2⟩]
            exact ⟨HS2.out,by rw [HS1.out]⟩
          . rw [hbp] at cBg hgd'
            rw [if_pos rfl] at hgd'
            have HG:=hide' hgd'
            clear hgd hgd' hbp
            go_wp2_with fail
            refine cBg.mono ?_
            rintro e W ⟨rfl,hbW⟩
            have HBW:=hide' (HBR.out.trans (hbW.mono HBR.out.size))
            clear hbW cBg
            go_wp2_with fail
            go_roundw
            case rel => exact ⟨g + 1,by go_num,by omega,by rw [show n - S.k.ps - (g + 1)=k0 by omega]; exact HG.out,HBW.out⟩
            case measure => simp [RowKit.intOf]; omega
        . have i5 : ¬ (g:Int) < ((n - S.k.ps:Nat) : Int):=by omega
          have hgd':=hgd.out
          rw [show n - S.k.ps - g=0 by omega] at hgd'
          have HG:=hide' hgd'
          clear hgd hgd'
          go_wp2_with fail
          obtain ⟨hSW,hToW,hTW,hBW⟩:=CORE.out wr HBR.out
          refine bodyPost_ret (v := .tuple #[.int .i32 0, .bool false]) (by simp [results,Tryd.results46,go_sem]) rfl ⟨rfl, ?_⟩
          have e:gd f n S.k.ps c=g:=HG.out.symm
          have hN:NoEnd wr D B f n S R R1 x c sg:=by
           unfold NoEnd
           rw [if_neg (by rw [e]; exact fun k => hlt2 k.2)]
           exact ⟨hSW,HS1.out⟩
          first | exact ⟨x,R1,hx1,hx2,hToW,HMN.out,hN⟩ | exact ⟨x,hx1,hx2,R1,hToW,HMN.out,hN⟩
   . have hcr' : ¬ (Rn.arr (Rn.off f S.k.ps) (n - S.k.ps)).toList = [13]:=fun e => hcr (harr.1 e)
     have HCR:=hide' hcr
     clear harr hcr cC
     go_wp2_with fail
     go_quiet (fail)
     go_wp2_with fail
     go_loopw [11] (fun b wr => ∃ g:Nat,b = .int .i64 g /\ g <= n - S.k.ps /\ Hid (gdF f S.k.ps c (n - S.k.ps - g) g=gd f n S.k.ps c) /\ Below w1.heap.size w1 wr) (fun b _ => (n - S.k.ps) - (RowKit.intOf b).toNat)
     case atStart => exact ⟨0,rfl,Nat.zero_le _,(show _=_ from rfl),below_drewN HB2.out nq⟩
     case round =>
      obtain ⟨g,rfl,hg,hgd,hbr⟩:=hrel
      have HBR:=hide' hbr
      clear hbr
      by_cases hlt2:g < n - S.k.ps
      . have cBg:=CB.out wr HBR.out g (by omega)
        obtain ⟨k0,hk0⟩ : ∃ k0,n - S.k.ps - g=k0 + 1:=⟨n - S.k.ps - g - 1,by omega⟩
        have hgd':=hgd.out
        rw [hk0] at hgd'
        unfold gdF at hgd'
        have i5:(g:Int) < ((n - S.k.ps:Nat) : Int):=by omega
        have i6:(g:Int) + 1 <= ((cap - S.k.ps:Nat) : Int):=by omega
        have i7 : ¬ cap - S.k.ps=0:=by omega
        have i8:(g:Int) + 1 <= ((n - S.k.ps:Nat) : Int):=by omega
        cases hbp:Ch.begP c (Rn.off f S.k.ps) (g + 1)
        . rw [hbp] at cBg hgd'
          rw [if_neg (by simp)] at hgd'
          have HG:=hide' hgd'
          clear hgd hgd' hbp
          go_wp2_with fail
          refine cBg.mono ?_
          rintro e W ⟨rfl,hbW⟩
          have hbW1:=HBR.out.trans (hbW.mono HBR.out.size)
          obtain ⟨hSW,hToW,hTW,hBW⟩:=CORE.out W hbW1
          have e16:=hSW.c16
          have cF:=fail_any hSW (S.k.ps + g) HY.out.lt (by omega) (by have:=HY.out.big; omega) HY.out.pl60
          have HToW:=hide' hToW
          have i9:S.k.ps + g < 9223372036854775808:=by have:=HY.out.big; omega
          dsimp only at e16
          clear hSW hToW hTW hBW hbW hbW1 cBg
          go_wp2_with fail
          refine cF.mono ?_
          rintro e W2 ⟨rfl,hS2,hTo2⟩
          have HS2:=hide' hS2
          have HTo2:=hide' (HToW.out.trans hTo2)
          clear hS2 hTo2 cF HToW
          go_wp2_with fail
          go_ret2
          refine ⟨rfl,x,_,hx1,hx2,HTo2.out,HMN.out, ?_⟩
          unfold NoEnd
          rw [<- HG.out,if_pos ⟨fun e => HCR.out ⟨by omega,e.2.1⟩,hlt2⟩]
          exact ⟨HS2.out,by rw [HS1.out]⟩
        . rw [hbp] at cBg hgd'
          rw [if_pos rfl] at hgd'
          have HG:=hide' hgd'
          clear hgd hgd' hbp
          go_wp2_with fail
          refine cBg.mono ?_
          rintro e W ⟨rfl,hbW⟩
          have HBW:=hide' (HBR.out.trans (hbW.mono HBR.out.size))
          clear hbW cBg
          go_wp2_with fail
          go_roundw
          case rel => exact ⟨g + 1,by go_num,by omega,by rw [show n - S.k.ps - (g + 1)=k0 by omega]; exact HG.out,HBW.out⟩
          case measure => simp [RowKit.intOf]; omega
      . have i5 : ¬ (g:Int) < ((n - S.k.ps:Nat) : Int):=by omega
        have hgd':=hgd.out
        rw [show n - S.k.ps - g=0 by omega] at hgd'
        have HG:=hide' hgd'
        clear hgd hgd'
        go_wp2_with fail
        obtain ⟨hSW,hToW,hTW,hBW⟩:=CORE.out wr HBR.out
        refine bodyPost_ret (v := .tuple #[.int .i32 0, .bool false]) (by simp [results,Tryd.results46,go_sem]) rfl ⟨rfl, ?_⟩
        have e:gd f n S.k.ps c=g:=HG.out.symm
        have hN:NoEnd wr D B f n S R R1 x c sg:=by
         unfold NoEnd
         rw [if_neg (by rw [e]; exact fun k => hlt2 k.2)]
         exact ⟨hSW,HS1.out⟩
        first | exact ⟨x,R1,hx1,hx2,hToW,HMN.out,hN⟩ | exact ⟨x,hx1,hx2,R1,hToW,HMN.out,hN⟩
 . have hpe:S.k.ps=n:=by omega
   have hempty:(R1.rest = .slice none 0 0 /\ n=0) \/ ∃ q o cap,R1.rest = .slice (some ⟨q,o,none⟩) n cap /\ n <= cap /\ cap <= 9223372036854775807:=by
    rcases hl with e | ⟨q,o,cap,e,h1,h2,_⟩
    . exact .inl e
    . exact .inr ⟨q,o,cap,e,h1,by unfold maxLen at h2; omega⟩
   have fin : ∀ W,Below w1.heap.size w1 W -> To D R w R1 W /\ NoEnd W D B f n S R R1 x c sg:=by
    intro W hb
    obtain ⟨hSW,hToW,hTW,hBW⟩:=CORE.out W hb
    refine ⟨hToW, ?_⟩
    unfold NoEnd
    rw [if_neg (fun k => by have:=k.2; omega)]
    exact ⟨hSW,HS1.out⟩
   have FIN:=hide' fin
   clear fin hl
   rcases hempty with ⟨er,hn0⟩ | ⟨q,o,cap,er,hc,hm⟩
   . have hp0:S.k.ps=0:=by omega
     rw [er] at d0
     rw [hp0] at d16
     have hcv:=conv_nil (fun _ => 0)
     have hz : ¬ (Rn.arr (fun _ => 0) 0).toList = [13]:=fun e => by have:=((arr_cr (fun _ => 0) (fun _ => by omega) 0).1 e).1; omega
     clear er hp0 hpe hn0 hps hpn
     go_wp2_with fail
     go_quiet (fail)
     go_wp2_with fail
     go_loopw [11] (fun b wr => b = .int .i64 0 /\ Below w1.heap.size w1 wr) (fun _ _ => 0)
     case atStart => exact ⟨rfl,below_drewN HB2.out nq⟩
     case round =>
      obtain ⟨rfl,hbr⟩:=hrel
      have HBR:=hide' hbr
      clear hbr
      go_wp2_with fail
      obtain ⟨hToW,hN⟩:=FIN.out wr HBR.out
      refine bodyPost_ret (v := .tuple #[.int .i32 0, .bool false]) (by simp [results,Tryd.results46,go_sem]) rfl ⟨rfl, ?_⟩
      first | exact ⟨x,R1,hx1,hx2,hToW,HMN.out,hN⟩ | exact ⟨x,hx1,hx2,R1,hToW,HMN.out,hN⟩
   . rw [er] at d0
     have i2:(S.k.ps:Int) <= n:=by omega
     have i3:(0:Int) <= (S.k.ps:Int):=by omega
     have i5:n - S.k.ps=0:=by omega
     have hz : ∀ g, ¬ (Rn.arr g 0).toList = [13]:=fun g e => by
      have:=congrArg List.length e
      unfold Rn.arr at this
      rw [ByteArray.toList_mk] at this
      simp at this
     have hcv:=fun m => bytes_string (V.drewN m) q o 0 0 (fun _ => 0) (fun _ => by omega) (fun j hj => by omega)
     have hcv2:=fun m => bytes_string (V.drewN m) q (o + S.k.ps) 0 (cap - S.k.ps) (fun _ => 0) (fun _ => by omega) (fun j hj => by omega)
     by_cases hcp:cap=S.k.ps
     . have hcp':cap - S.k.ps=0:=by omega
       clear er hpe hps hpn
       go_wp2_with fail
       go_quiet (fail)
       go_wp2_with fail
       go_loopw [11] (fun b wr => b = .int .i64 0 /\ Below w1.heap.size w1 wr) (fun _ _ => 0)
       case atStart => exact ⟨rfl,below_drewN HB2.out nq⟩
       case round =>
        obtain ⟨rfl,hbr⟩:=hrel
        have HBR:=hide' hbr
        clear hbr
        go_wp2_with fail
        obtain ⟨hToW,hN⟩:=FIN.out wr HBR.out
        refine bodyPost_ret (v := .tuple #[.int .i32 0, .bool false]) (by simp [results,Tryd.results46,go_sem]) rfl ⟨rfl, ?_⟩
        first | exact ⟨x,R1,hx1,hx2,hToW,HMN.out,hN⟩ | exact ⟨x,hx1,hx2,R1,hToW,HMN.out,hN⟩
     . clear er hpe hps hpn
       go_wp2_with fail
       go_quiet (fail)
       go_wp2_with fail
       go_loopw [11] (fun b wr => b = .int .i64 0 /\ Below w1.heap.size w1 wr) (fun _ _ => 0)
       case atStart => exact ⟨rfl,below_drewN HB2.out nq⟩
       case round =>
        obtain ⟨rfl,hbr⟩:=hrel
        have HBR:=hide' hbr
        clear hbr
        go_wp2_with fail
        obtain ⟨hToW,hN⟩:=FIN.out wr HBR.out
        refine bodyPost_ret (v := .tuple #[.int .i32 0, .bool false]) (by simp [results,Tryd.results46,go_sem]) rfl ⟨rfl, ?_⟩
        first | exact ⟨x,R1,hx1,hx2,hToW,HMN.out,hN⟩ | exact ⟨x,hx1,hx2,R1,hToW,HMN.out,hN⟩
end
theorem mn_took {f:Nat -> Nat} {x ps r a0 wd:Nat} (hp:Fd.pk f x ps false=(r,a0,wd,0)) (hm:Mn f ps x) (hx:ps <= x) : ps + wd <= x /\ (r ≠ 10 -> x=ps + wd) /\ Mn f (ps + wd) x:=by
 have hb:ps + wd <= x:=by have:=(Fd.pk_bound f x ps false).2 hx; rw [hp] at this; exact this
 obtain ⟨h1,h2,h3,h4,h5,h6⟩:=Fd.pk_have hp
 have hx0:=hp
 unfold Fd.pk at hx0
 rw [if_pos h6] at hx0
 by_cases c:Rn.fv (Rn.off f ps)=13
 . rw [if_pos c] at hx0
   have c2:ps + 1 < x:=by
    rcases Nat.lt_or_ge (ps + 1) x with k | k
    . exact k
    . rw [if_neg (by omega)] at hx0
      simp at hx0
   have hr:r=10:=by
    rw [if_pos c2] at hx0
    split at hx0 <;> (have:=congrArg Prod.fst hx0; simpa using this.symm)
   have c3:x=ps + 2:=by
    rcases Nat.lt_or_ge (ps + 2) x with k | k
    . have h7:=hm (ps + 2) (by omega) k
      have hw:=Fd.whole_cr h6
      have hw2:Rn.whole (Rn.off f ps) (ps + 2 - ps)=true:=Fd.whole_down h6 (by have:=(hw.1 c).1; omega) (by omega)
      unfold Fd.pk at h7
      rw [if_pos hw2,if_pos c,if_pos (by omega)] at h7
      split at h7 <;> simp at h7
    . omega
   refine ⟨hb,fun k => absurd hr k,fun m k1 k2 => ?_⟩
   omega
 . rw [if_neg c] at hx0
   have hwd:wd=Rn.fs (Rn.off f ps) (x - ps):=by
    have:=congrArg (fun z:Nat × Nat × Nat × Nat => z.2.2.1) hx0
    simpa using this.symm
   have c3:x=ps + wd:=by
    rcases Nat.lt_or_ge (ps + wd) x with k | k
    . have h7:=hm (ps + wd) (by omega) k
      have hw2:Rn.whole (Rn.off f ps) (ps + wd - ps)=true:=Fd.whole_down h6 (by omega) (by omega)
      unfold Fd.pk at h7
      rw [if_pos hw2,if_neg c] at h7
      simp at h7
    . omega
   exact ⟨hb,fun _ => c3,fun m k1 k2 => by omega⟩
def Stt (S:St) (x:Nat) (k:Wk) : St := { S with fed:=x,q:=k.ps,e:=x,k:=k }
structure Went (w:World) (D B:Nat) (f:Nat -> Nat) (n:Nat) (S:St) (R:Raw) (d:Nat) (w':World) (k:Wk) (x:Nat) (R':Raw) : Prop where
 sc:SC w' D B f n (Stt S x k) R'
 go:To D R w R' w'
 rdy:Rdy w' B n f (Stt S x k) R' d
 bad:k.how=2 -> R'.bp=pla S.pl f n k.bad
 rest:R'.rest=R.rest
section
variable {w:World} {D B n:Nat} {f:Nat -> Nat} {S:St} {R:Raw} {d:Nat}
theorem Rdy.stay (h:SC w D B f n S R) (hy:Rdy w B n f S R d) {w':World} {R':Raw} (ht:To D R w R' w') {x:Nat} {k:Wk} (hfp:R'.fp=R.fp) (hk:k.ps <= x) (hx:x <= n) (hm:Mn f k.ps x) : Rdy w' B n f (Stt S x k) R' d :=
 ⟨hy.tb.to (h.to_below ht),Nat.le_trans hy.bw ht.mv.size,hfp.trans hy.fp,rfl,rfl,hk,hx,hm,hy.lt,hy.big,hy.pl⟩
def NxE (e:Ending) (v:Nat × Nat × Nat) : Prop:=e=if v.1=0 then .returned (.tuple #[.int .i32 (v.2.1:Nat), .bool true]) else .returned (.tuple #[.int .i32 0, .bool false])
def nxK (v:Nat × Nat × Nat) (k:Wk) : Wk:=if v.1=0 then k.took v.2.2 else if v.1=2 then k.fails v.2.1 else k
theorem next_any (h:SC w D B f n S R) (hy:Rdy w B n f S R d) (h1:S.k.how=1) (c:Nat) (sg:List UInt8) (hcr:(Fd.pk f n S.k.ps false).2.2.2=0 -> CR sg (Fd.pk f n S.k.ps false).1) :
 Calls Tryd.prog 46 #[.pointer (some ⟨D,0,none⟩), .int .i64 (c:Nat), .string ⟨sg.toArray⟩] w fun e w' => NxE e (nx f n S.k.ps c (sgn sg)) /\ ∃ x R',Went w D B f n S R d w' (nxK (nx f n S.k.ps c (sgn sg)) S.k) x R' /\
  ((nx f n S.k.ps c (sgn sg)).1=0 -> (nx f n S.k.ps c (sgn sg)).2.1 ≠ 10 -> x=S.k.ps + (nx f n S.k.ps c (sgn sg)).2.2):=by
 by_cases hok:(Fd.pk f n S.k.ps false).2.2.2=0 /\ (Ch.isT Ch.tab c ((Fd.pk f n S.k.ps false).1:Nat)=true \/ (Fd.pk f n S.k.ps false).1 ∈ sgn sg)
 . have e:nx f n S.k.ps c (sgn sg)=(0,(Fd.pk f n S.k.ps false).1,(Fd.pk f n S.k.ps false).2.2.1):=by unfold nx; rw [if_pos hok]
   rw [e]
   refine (next_ok h d hy c sg hok.1 hok.2 (hcr hok.1)).mono ?_
   rintro e w' ⟨rfl,x,R',hx1,hx2,hR,hS,hT,hM,hp⟩
   obtain ⟨m1,m2,m3⟩:=mn_took (r:=(Fd.pk f n S.k.ps false).1) (a0:=(Fd.pk f n S.k.ps false).2.1) (wd:=(Fd.pk f n S.k.ps false).2.2.1) (by rw [hp, <- hok.1]) hM (Nat.le_trans hy.qe hx1)
   refine ⟨by simp [NxE],x,R',⟨?_,hT, ?_, ?_,by rw [hR]⟩,fun _ k => m2 k⟩
   . simp only [nxK,if_true]
     exact hS
   . simp only [nxK,if_true]
     exact hy.stay h hT (by rw [hR]) m1 hx2 m3
   . simp only [nxK,if_true,Wk.took,h1]
     intro k
     cases k
 . have e:nx f n S.k.ps c (sgn sg)=if ¬ (n=S.k.ps + 1 /\ f S.k.ps=13 /\ 13 ∈ sgn sg) /\ gd f n S.k.ps c < n - S.k.ps then (2,S.k.ps + gd f n S.k.ps c,0) else (1,0,0):=by
    unfold nx
    rw [if_neg hok]
    by_cases c1:n=S.k.ps + 1 /\ f S.k.ps=13 /\ 13 ∈ sgn sg
    . rw [if_pos c1,if_neg (fun k => k.1 c1)]
    . rw [if_neg c1]
      by_cases c2:gd f n S.k.ps c < n - S.k.ps
      . rw [if_pos c2,if_pos ⟨c1,c2⟩]
      . rw [if_neg c2,if_neg (fun k => c2 k.2)]
   have key:Calls Tryd.prog 46 #[.pointer (some ⟨D,0,none⟩), .int .i64 (c:Nat), .string ⟨sg.toArray⟩] w fun e w' => e = .returned (.tuple #[.int .i32 0, .bool false]) /\ ∃ x R',S.fed <= x /\ x <= n /\ To D R w R' w' /\ Mn f S.k.ps x /\ NoEnd w' D B f n S R R' x c sg:=by
    rcases pk_cases f n S.k.ps with k | k | k
    . refine next_no0 h d hy c sg k ?_ ?_ (hcr k)
      . cases hi:Ch.isT Ch.tab c ((Fd.pk f n S.k.ps false).1:Nat)
        . rfl
        . exact absurd ⟨k, .inl hi⟩ hok
      . exact fun hi => hok ⟨k, .inr hi⟩
    . exact next_no1 h d hy c sg (by rw [k])
    . exact next_no2 h d hy c sg k.1
   rw [e]
   refine key.mono ?_
   rintro e w' ⟨rfl,x,R',hx1,hx2,hT,hM,hN⟩
   unfold NoEnd at hN
   have hq:({ S with fed:=x,q:=S.k.ps,e:=x } : St)=Stt S x S.k:=rfl
   split at hN
   . next hc =>
     rw [if_pos hc]
     obtain ⟨hS,hR⟩:=hN
     refine ⟨by simp [NxE],x,R',⟨hS,hT, ?_,fun _ => by rw [hR]; rfl,by rw [hR]⟩,fun k => by cases k⟩
     exact hy.stay h hT (by rw [hR]) (Nat.le_trans hy.qe hx1) hx2 hM
   . next hc =>
     rw [if_neg hc]
     obtain ⟨hS,hR⟩:=hN
     refine ⟨by simp [NxE],x,R',⟨hS,hT, ?_,fun k => ?_,by rw [hR]⟩,fun k => by cases k⟩
     . exact hy.stay h hT (by rw [hR]) (Nat.le_trans hy.qe hx1) hx2 hM
     . have:S.k.how=2:=k
       omega
end
end Sc
end Go.Proofs.YteiiepjegdlbeaaDoor
