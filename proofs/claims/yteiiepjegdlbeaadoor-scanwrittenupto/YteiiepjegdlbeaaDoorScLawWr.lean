import Derived.Test.YteiiepjegdlbeaaDoorScLawPl
import Derived.Test.YteiiepjegdlbeaaDoorScLawPl
import Derived.Deep.RegionHeld
set_option maxHeartbeats 8000000
set_option maxRecDepth 10000
namespace Go.Proofs.YteiiepjegdlbeaaDoor
open Go.RowKit Go.Lib
namespace Sc
theorem own_mono0 {w:World} {base:Nat} {e:TypeId} {size:Nat} {v:Value} {n:Nat} {xs:List Value} (h:w.ownsRow base e size v n xs) : w.ownsRow 0 e size v n xs :=
 ⟨h.1,h.2.imp id fun ⟨g,cap,cur,h1,_,h3⟩ => ⟨g,cap,cur,h1,Nat.zero_le _,h3⟩⟩
theorem wrConv (l:List UInt8) (w:World) (hbig:l.length <= 70368744177664) :
 ∃ cap W,(convert 9 22 (.string ⟨l.toArray⟩)).run Tryd.prog w = .ok (.slice (some ⟨w.heap.size,0,none⟩) l.length cap) W /\ ArgS W (Rn.lf l) l.length (.slice (some ⟨w.heap.size,0,none⟩) l.length cap) /\ Below w.heap.size w W:=by
 have h:=Lib.run_convert_string_bytes (P:=Tryd.prog) w 9 22 5 (Rn.arr (Rn.lf l) l.length) Tryd.underlying9 Tryd.underlying22 Tryd.underlying5
 rw [Rn.arr_size,Rn.arr_lf] at h
 have hb:=bytes_bytesWorld w 5 (Rn.lf l) l.length (Rn.lf_lt l)
 rw [Rn.arr_lf] at hb
 refine ⟨_,_,h, .some _ _ (grownCap_ge _ _ _ _) (grownCap_le_maxLen _ _ _ _ (by unfold maxLen; omega)) (fun j hj => ?_) (fun _ => ⟨_,_,rfl⟩),below_bytesWorld w 5 _⟩
 rw [Addr.add_lit]
 exact hb j hj
theorem wrT_take {T:List Tk} {j:Nat} (h:j < T.length) : wrT (T.take (j + 1))=wrT (T.take j) ++ wrT1 T[j]:=by
 unfold wrT
 rw [List.take_succ_eq_append_getElem h,List.flatMap_append,List.flatMap_cons,List.flatMap_nil,List.append_nil]
theorem wrT_le (T:List Tk) (j:Nat) : (wrT (T.take j)).length <= (wrT T).length:=by
 have:wrT T=wrT (T.take j) ++ wrT (T.drop j):=by
  unfold wrT
  rw [<- List.flatMap_append,List.take_append_drop]
 rw [this,List.length_append]
 omega
theorem lay_self (l:List UInt8) : Lay (Rn.lf l) l.length 0 l:=⟨by omega,fun i _ => by rw [Nat.zero_add]⟩
theorem lawWritten_any (v:Value) (f:Nat -> Nat) (n:Nat) (w:World) (hS:Spans w) (hU:Lib.Utf8Tabs 2 3 w) (hf : ∀ j,f j < 256) (hA:ArgS w f n v) (hn:n <= 16777216) :
 Calls Tryd.prog 6 #[v] w fun e w' => e = .returned (.bool true) /\ Below w.heap.size w w':=by
 have cA:=awake_any w hS hU
 have cW : ∀ (W:World),Below w.heap.size w W -> Calls Tryd.prog 9 #[v, .bool true] W (WholeE W f n true):=fun W hb => wholeRun_any W v f n true (hS.below hb (Nat.le_refl _)) (tabs_below hU hb (Nat.le_refl _)) hf (hA.below hb (Nat.le_refl _)) (by omega)
 have cL : ∀ (W:World),Below w.heap.size w W -> ∀ (l:List UInt8) (x:Value),ArgS W (Rn.lf l) l.length x -> l.length <= 1073741824 -> Calls Tryd.prog 9 #[x, .bool true] W (WholeE W (Rn.lf l) l.length true):=fun W hb l x hx hl => wholeRun_any W x (Rn.lf l) l.length true (hS.below hb (Nat.le_refl _)) (tabs_below hU hb (Nat.le_refl _)) (Rn.lf_lt l) hx hl
 obtain ⟨pa,cap,ev,hsp⟩:=hA.span
 subst ev
 have CA:=hide' cA
 have CW:=hide' cW
 have CL:=hide' cL
 have HN:=hide' hn
 clear cA cW cL hS hU hA hf hsp hn
 go_enter Tryd.func6,Tryd.ntmps6
 go_wp2_with fail
 refine CA.out.mono ?_
 rintro e w1 ⟨rfl,hb1⟩
 have CW1:=hide' (CW.out w1 hb1)
 have HB1:=hide' hb1
 clear hb1 CA CW
 go_wp2_with fail
 refine CW1.out.mono ?_
 rintro e w2 ⟨Qr,Dr0,Rr,tkr,opr,V,ur,howr,pr,rfl,hDr,hStr,hb2⟩
 have hB2:Below w.heap.size w w2:=HB1.out.trans (hb2.mono HB1.out.size)
 obtain ⟨br,kr,hTd,x1,x2,x3,x4,x5,hbn,x6⟩:=hStr
 clear x1 x2 x3 x4 x5 x6
 obtain ⟨hz1,hz2⟩:=told_sz hTd (Nat.zero_le _)
 have hVl:V.length <= n:=by
  have:=hTd.len
  rw [List.length_map] at this
  omega
 have HDR:=hide' hDr
 have HTD:=hide' hTd
 have HZ1:=hide' hz1
 have HZ2:Hid ((wrT (V.map (·.tk))).length <= 37 * n):=by show _ <= _; omega
 have HVL:=hide' hVl
 have HB2:=hide' hB2
 clear hDr hTd hz1 hz2 hVl hb2 hB2 CW1 HB1 hbn
 obtain ⟨N,hN⟩ : ∃ N,V.length=N:=⟨_,rfl⟩
 have HNN:=hide' hN
 clear hN
 go_wp2_with fail
 go_loopw [5,6] (fun s i wr => ∃ j:Nat,i = .int .i64 j /\ s = .string ⟨(wrT ((V.map (·.tk)).take j)).toArray⟩ /\ j <= N /\ Hid (Below w2.heap.size w2 wr)) (fun _ i _ => N - (RowKit.intOf i).toNat)
 case atStart => exact ⟨0,rfl,by simp [wrT],Nat.zero_le _,Below.refl _ _⟩
 case round =>
  obtain ⟨j,rfl,rfl,hj,hb⟩:=hrel
  have hd:=HDR.out.below hb.out
  have c0:=hd.c 0 tkr rfl
  obtain ⟨po,co,etk⟩:=own_shape hd.toks
  rw [etk,HNN.out] at c0
  obtain ⟨Sj,hSj⟩ : ∃ Sj,Sj=wrT ((V.map (·.tk)).take j):=⟨_,rfl⟩
  rw [<- hSj]
  have HSJ:=hide' hSj
  have hNn:N <= 16777216:=by have:=HVL.out; have:=HNN.out; have:=HN.out; omega
  have hslen:Sj.length <= 37 * n:=by rw [hSj]; exact Nat.le_trans (wrT_le _ _) HZ2.out
  clear hSj
  by_cases hlt:j < N
  . have i1:(j:Int) < N:=by omega
    have hjl:j < V.length:=by have:=HNN.out; omega
    obtain ⟨g,cp,e1,_,_,_,k4⟩:=tok_cells hd.toks hjl
    rw [etk] at e1
    cases e1
    have q0:=k4 j hjl
    obtain ⟨t,ht⟩ : ∃ t,V[j]=t:=⟨_,rfl⟩
    rw [ht] at q0
    have t0:=q0 0 (.int .i64 (t.tk.kind:Nat)) rfl
    rw [Nat.add_zero] at t0
    have t1:=q0 1 (.string ⟨t.tk.name.toArray⟩) rfl
    have t2:=q0 2 t.av rfl
    have ho:=(hd.attrs t (ht ▸ List.getElem_mem hjl)).1
    obtain ⟨pv,cv,eav⟩:=own_shape ho
    rw [eav] at t2
    have t3:=q0 3 (.string ⟨t.tk.text.toArray⟩) rfl
    have t4:=q0 4 (.int .i64 (t.tk.fm.1:Nat)) rfl
    have t5:=q0 5 (.int .i64 (t.tk.fm.2.1:Nat)) rfl
    have t6:=q0 6 (.int .i64 (t.tk.fm.2.2.1:Nat)) rfl
    have t7:=q0 7 (.int .i64 (t.tk.fm.2.2.2:Nat)) rfl
    have t8:=q0 8 (.int .i64 (t.tk.til.1:Nat)) rfl
    have t9:=q0 9 (.int .i64 (t.tk.til.2.1:Nat)) rfl
    have t10:=q0 10 (.int .i64 (t.tk.til.2.2.1:Nat)) rfl
    have t11:=q0 11 (.int .i64 (t.tk.til.2.2.2:Nat)) rfl
    have hmem:t.tk ∈ V.map (·.tk):=List.mem_map.2 ⟨t,ht ▸ List.getElem_mem hjl,rfl⟩
    obtain ⟨z1,z2⟩:=HZ1.out _ hmem
    have ztz:t.tk.text.length + t.tk.name.length + az t.tk.attrs <= 5 * n:=z1
    obtain ⟨W1,hW1⟩ : ∃ W1,W1=wrT1 t.tk:=⟨_,rfl⟩
    have CWR:Hid (Calls Tryd.prog 16 #[.agg #[.int .i64 (t.tk.kind:Nat), .string ⟨t.tk.name.toArray⟩, .slice pv t.tk.attrs.length cv, .string ⟨t.tk.text.toArray⟩, .int .i64 (t.tk.fm.1:Nat), .int .i64 (t.tk.fm.2.1:Nat), .int .i64 (t.tk.fm.2.2.1:Nat), .int .i64 (t.tk.fm.2.2.2:Nat), .int .i64 (t.tk.til.1:Nat), .int .i64 (t.tk.til.2.1:Nat), .int .i64 (t.tk.til.2.2.1:Nat), .int .i64 (t.tk.til.2.2.2:Nat)]] wr fun e w' => e = .returned (.string ⟨W1.toArray⟩) /\ Below wr.heap.size wr w'):=by
     show Calls _ _ _ _ _
     rw [eav] at ho
     rw [hW1]
     exact written_any wr t.tk.kind t.tk.name t.tk.text t.tk.fm t.tk.til t.tk.attrs _ ho (by have:=HN.out; omega) (by have:=HN.out; omega) t.tk rfl
    obtain ⟨S2,hS2⟩ : ∃ S2:List UInt8,S2=Sj ++ W1:=⟨_,rfl⟩
    have a2:(ByteArray.mk Sj.toArray) ++ ⟨W1.toArray⟩ = ⟨S2.toArray⟩:=by rw [hS2]; exact strAppend Sj W1
    have hjm:j < (V.map (·.tk)).length:=by rw [List.length_map]; exact hjl
    have hnx:S2=wrT ((V.map (·.tk)).take (j + 1)):=by
     rw [wrT_take hjm, <- HSJ.out,hS2,hW1, <- ht,List.getElem_map]
    have hl2:S2.length <= 37 * n:=by rw [hnx]; exact Nat.le_trans (wrT_le _ _) HZ2.out
    have l2:S2.length=Sj.length + W1.length:=by rw [hS2,List.length_append]
    have g2:Sj.length + W1.length <= 9223372036854775807:=by have:=HN.out; omega
    have iwj:IntKind.i64.wrap ((j:Int) + 1)=j + 1:=by rw [IntKind.wrap_i64]; omega
    have HNX:=hide' hnx
    clear hd etk k4 q0 ht ho eav hmem z1 z2 ztz hW1 hS2 hjm hnx hl2 l2 hslen hjl
    go_wp2_with fail
    refine CWR.out.mono ?_
    rintro e w3 ⟨rfl,hb3⟩
    have HB3:=hide' hb3
    clear hb3 CWR c0 t0 t1 t2 t3 t4 t5 t6 t7 t8 t9 t10 t11
    go_wp2_with fail
    refine ⟨⟨j + 1,by simp,by rw [HNX.out],hlt,hb.out.trans (HB3.out.mono hb.out.size)⟩, ?_⟩
    show N - ((j:Int) + 1).toNat < N - (j:Int).toNat
    omega
  . have i1 : ¬ (j:Int) < N:=by omega
    have hSw:Sj=wrT (V.map (·.tk)):=by
     rw [HSJ.out,List.take_of_length_le (by rw [List.length_map]; have:=HNN.out; omega)]
    obtain ⟨cq,w3,hcv,hAr,hb3⟩:=wrConv Sj wr (by have:=HN.out; omega)
    have hBw:Below w.heap.size w wr:=HB2.out.trans (hb.out.mono HB2.out.size)
    have hB3:Below w.heap.size w w3:=hBw.trans (hb3.mono hBw.size)
    have CQ:=hide' (CL.out w3 hB3 Sj _ hAr (by have:=HN.out; omega))
    have HR3:=hide' (hd.below hb3)
    have HB3:=hide' hB3
    have HSW:=hide' hSw
    clear hd etk hSw hAr hb3 hBw hB3 hslen
    generalize hM:Sj.length=M at hcv CQ
    have HM:=hide' hM
    clear hM
    go_wp2_with fail
    refine CQ.out.mono ?_
    rintro e w4 ⟨Q2,D2,R2,tk2,op2,V2,uq,how2,p2,rfl,hD2,hSt2,hb4⟩
    rw [<- HM.out,HSW.out] at hSt2
    obtain ⟨hsm,hu,hhow⟩:=written_back HTD.out (Rn.lf _) (Rn.lf_lt _) (lay_self _) hSt2
    rw [hu] at hD2
    have hlen2:V2.length=N:=by
     have:=hsm.len
     rw [List.length_map,List.length_map] at this
     rw [this]
     exact HNN.out
    have hr4:=HR3.out.below hb4
    have hQr:Qr < w4.heap.size:=hr4.lt
    have hQ2:Q2 < w4.heap.size:=hD2.lt
    have c0':=hr4.c 0 tkr rfl
    obtain ⟨po,co,etk⟩:=own_shape hr4.toks
    have d0:=hD2.c 0 tk2 rfl
    obtain ⟨p9,c9,etk2⟩:=own_shape hD2.toks
    rw [etk,HNN.out] at c0'
    rw [etk2,hlen2] at d0
    have hB4:Below w.heap.size w w4:=HB3.out.trans (hb4.mono HB3.out.size)
    have HR4:=hide' hr4
    have HD2:=hide' hD2
    have HSM:=hide' hsm
    have HHOW:=hide' hhow
    have HLEN2:=hide' hlen2
    have HTK:=hide' etk
    have HTK2:=hide' etk2
    have HB4:=hide' hB4
    clear hu hD2 hSt2 hb4 hsm hhow hlen2 hr4 etk etk2 hB4 CQ hcv c0 HR3 HB3 HM HSW HSJ
    go_wp2_with fail
    go_quiet (fail)
    clear c0' d0
    go_wp2_with fail
    obtain ⟨w9,hw9⟩ : ∃ w9,w9=wr:=⟨_,rfl⟩
    rw [<- hw9]
    clear hw9
    go_loopw [8] (fun i wr => ∃ k:Nat,i = .int .i64 k /\ k <= N /\ Hid (Below w4.heap.size w4 wr)) (fun i _ => N - (RowKit.intOf i).toNat)
    case atStart => exact ⟨0,rfl,Nat.zero_le _,below_drewN (Below.refl _ _) _⟩
    case round =>
     obtain ⟨k,rfl,hk,hb9⟩:=hrel
     have hd:=HR4.out.below hb9.out
     have hd2:=HD2.out.below hb9.out
     have c0:=hd.c 0 tkr rfl
     rw [HTK.out,HNN.out] at c0
     have d0:=hd2.c 0 tk2 rfl
     rw [HTK2.out,HLEN2.out] at d0
     have hBw:Below w.heap.size w wr:=HB4.out.trans (hb9.out.mono HB4.out.size)
     have HBW:=hide' hBw
     by_cases hlt2:k < N
     . have i2:(k:Int) < N:=by omega
       have iwk:IntKind.i64.wrap ((k:Int) + 1)=k + 1:=by rw [IntKind.wrap_i64]; omega
       have hkr:k < V.length:=by have:=HNN.out; omega
       have hk9:k < V2.length:=by have:=HLEN2.out; omega
       obtain ⟨g,cp,e1,_,_,v1,k4⟩:=tok_cells hd.toks hkr
       rw [HTK.out] at e1
       cases e1
       obtain ⟨g9,cp9,e1,_,_,v2,k9⟩:=tok_cells hd2.toks hk9
       rw [HTK2.out] at e1
       cases e1
       have q0:=k4 k hkr
       have q9:=k9 k hk9
       obtain ⟨t,ht⟩ : ∃ t,V[k]=t:=⟨_,rfl⟩
       obtain ⟨t9,ht9⟩ : ∃ t9,V2[k]=t9:=⟨_,rfl⟩
       have sm:Sm t.tk t9.tk:=by
        have:=HSM.out.at k (by rw [List.length_map]; exact hkr) (by rw [List.length_map]; exact hk9)
        rw [List.getElem_map,List.getElem_map,ht,ht9] at this
        exact this
       rw [ht] at q0
       rw [ht9] at q9
       have ho:=(hd.attrs t (ht ▸ List.getElem_mem hkr)).1
       have ho9:=(hd2.attrs t9 (ht9 ▸ List.getElem_mem hk9)).1
       rw [sm.attrs] at ho9
       obtain ⟨pv,cv,eav⟩:=own_shape ho
       obtain ⟨pv9,cv9,eav9⟩:=own_shape ho9
       have hal:t.tk.attrs.length <= 9223372036854775807:=by
        rcases ho.2 with ⟨_,e⟩ | ⟨g,cap,cur,e,_,_,h1,h2,_⟩
        . omega
        . unfold maxLen at h2; omega
       have t0:=q0 0 (.int .i64 (t.tk.kind:Nat)) rfl
       rw [Nat.add_zero] at t0
       have t1:=q0 1 (.string ⟨t.tk.name.toArray⟩) rfl
       have t2:=q0 2 t.av rfl
       rw [eav] at t2
       have t3:=q0 3 (.string ⟨t.tk.text.toArray⟩) rfl
       have t4:=q0 4 (.int .i64 (t.tk.fm.1:Nat)) rfl
       have t5:=q0 5 (.int .i64 (t.tk.fm.2.1:Nat)) rfl
       have t6:=q0 6 (.int .i64 (t.tk.fm.2.2.1:Nat)) rfl
       have t7:=q0 7 (.int .i64 (t.tk.fm.2.2.2:Nat)) rfl
       have t8:=q0 8 (.int .i64 (t.tk.til.1:Nat)) rfl
       have t9':=q0 9 (.int .i64 (t.tk.til.2.1:Nat)) rfl
       have t10:=q0 10 (.int .i64 (t.tk.til.2.2.1:Nat)) rfl
       have t11:=q0 11 (.int .i64 (t.tk.til.2.2.2:Nat)) rfl
       have s0:=q9 0 (.int .i64 (t9.tk.kind:Nat)) rfl
       rw [Nat.add_zero,sm.kind] at s0
       have s1:=q9 1 (.string ⟨t9.tk.name.toArray⟩) rfl
       rw [sm.name] at s1
       have s2:=q9 2 t9.av rfl
       rw [eav9] at s2
       have s3:=q9 3 (.string ⟨t9.tk.text.toArray⟩) rfl
       rw [sm.text] at s3
       have s4:=q9 4 (.int .i64 (t9.tk.fm.1:Nat)) rfl
       have s5:=q9 5 (.int .i64 (t9.tk.fm.2.1:Nat)) rfl
       have s6:=q9 6 (.int .i64 (t9.tk.fm.2.2.1:Nat)) rfl
       have s7:=q9 7 (.int .i64 (t9.tk.fm.2.2.2:Nat)) rfl
       have s8:=q9 8 (.int .i64 (t9.tk.til.1:Nat)) rfl
       have s9:=q9 9 (.int .i64 (t9.tk.til.2.1:Nat)) rfl
       have s10:=q9 10 (.int .i64 (t9.tk.til.2.2.1:Nat)) rfl
       have s11:=q9 11 (.int .i64 (t9.tk.til.2.2.2:Nat)) rfl
       have CAL:Hid (∀ W,Below wr.heap.size wr W -> Calls Tryd.prog 14 #[.agg #[.int .i64 (t.tk.kind:Nat), .string ⟨t.tk.name.toArray⟩, .slice pv t.tk.attrs.length cv, .string ⟨t.tk.text.toArray⟩, .int .i64 (t.tk.fm.1:Nat), .int .i64 (t.tk.fm.2.1:Nat), .int .i64 (t.tk.fm.2.2.1:Nat), .int .i64 (t.tk.fm.2.2.2:Nat), .int .i64 (t.tk.til.1:Nat), .int .i64 (t.tk.til.2.1:Nat), .int .i64 (t.tk.til.2.2.1:Nat), .int .i64 (t.tk.til.2.2.2:Nat)], .agg #[.int .i64 (t.tk.kind:Nat), .string ⟨t.tk.name.toArray⟩, .slice pv9 t.tk.attrs.length cv9, .string ⟨t.tk.text.toArray⟩, .int .i64 (t.tk.fm.1:Nat), .int .i64 (t.tk.fm.2.1:Nat), .int .i64 (t.tk.fm.2.2.1:Nat), .int .i64 (t.tk.fm.2.2.2:Nat), .int .i64 (t.tk.til.1:Nat), .int .i64 (t.tk.til.2.1:Nat), .int .i64 (t.tk.til.2.2.1:Nat), .int .i64 (t.tk.til.2.2.2:Nat)]] W fun e w' => e = .returned (.bool true) /\ Below W.heap.size W w'):=fun W hW => by
        have h1:=own_keep ho (w':=W) fun q e => hW.block q (World.ownsRow.lt ho q e).2
        have h2:=own_keep ho9 (w':=W) fun q e => hW.block q (World.ownsRow.lt ho9 q e).2
        rw [eav] at h1
        rw [eav9] at h2
        exact alike_same (B:=0) W t.tk.kind t.tk.name t.tk.text t.tk.fm t.tk.til t.tk.attrs _ _ (own_mono0 h1) (own_mono0 h2) hal
       have y1:Qr < wr.heap.size:=hd.lt
       have y2:Q2 < wr.heap.size:=hd2.lt
       have y3:Qr ≠ wr.heap.size:=by omega
       have y4:Q2 ≠ wr.heap.size:=by omega
       have y5:g ≠ wr.heap.size:=by omega
       have y6:g9 ≠ wr.heap.size:=by omega
       have HEN:Hid (∀ W,Below wr.heap.size wr W -> (∃ i:Nat,Value.int .i64 ((k:Int) + 1) = .int .i64 i /\ i <= N /\ Hid (Below w4.heap.size w4 W)) /\ N - (RowKit.intOf (.int .i64 ((k:Int) + 1))).toNat < N - (RowKit.intOf (.int .i64 (k:Int))).toNat):=fun W hW => ⟨⟨k + 1,by simp,hlt2,hb9.out.trans (hW.mono hb9.out.size)⟩,by show N - ((k:Int) + 1).toNat < N - (k:Int).toNat; omega⟩
       clear hd hd2 k4 k9 q0 q9 ho ho9 ht ht9 sm eav eav9 hal hkr hk9 hBw
       go_wp2_with fail
       refine (CAL.out _ (((Below.refl _ _).alloc (Nat.le_refl _) _).alloc (by simp) _)).mono ?_
       rintro e w5 ⟨rfl,hb5⟩
       have HB5:Hid (Below wr.heap.size wr w5):=(((Below.refl _ _).alloc (Nat.le_refl _) _).alloc (by simp) _).trans (hb5.mono (by simp; omega))
       clear hb5 CAL t0 t1 t2 t3 t4 t5 t6 t7 t8 t9' t10 t11 s0 s1 s2 s3 s4 s5 s6 s7 s8 s9 s10 s11 c0 d0
       go_wp2_with fail
       exact HEN.out _ HB5.out
     . have i2 : ¬ (k:Int) < N:=by omega
       have d1:=hd2.c 1 (.int .i64 (how2:Nat)) rfl
       have d7:=hd2.c 7 (.int .i64 (ur.inn:Nat)) rfl
       have HH:=HHOW.out
       clear hd hd2 hBw HHOW
       by_cases hi:ur.inn=2
       . have hh:=HH.2 hi
         rw [hi] at d7
         rw [hh] at d1
         clear HH hi hh
         go_wp2_with fail
         go_quiet (fail)
         go_wp2_with fail
         go_ret
         exact ⟨rfl,below_drewN HBW.out _⟩
       . have hh : ¬ how2=3:=fun e => hi (HH.1 e)
         have i3 : ¬ (how2:Int)=3:=by omega
         have i4 : ¬ (ur.inn:Int)=2:=by omega
         have b3:((how2:Int) == 3)=false:=by rw [beq_eq_false_iff_ne]; exact i3
         have b4:((ur.inn:Int) == 2)=false:=by rw [beq_eq_false_iff_ne]; exact i4
         clear HH hi hh
         go_wp2_with fail
         go_quiet (fail)
         go_wp2_with fail
         go_ret
         exact ⟨rfl,below_drewN HBW.out _⟩
end Sc
end Go.Proofs.YteiiepjegdlbeaaDoor
