/-
 PROVED: 'gimletlaw06.ScanCuts' returns true at all bytes, and they stay (the card ScanCutsCardSaid). The conditions: utf8's two tables and the program's table of ranges start as the program's text lays them (the card ties them).
-/
import Derived.Test.YteiiepjegdlbeaaDoorScLawCuts
import Derived.Test.YteiiepjegdlbeaaDoorScOpen
import Derived.Test.YteiiepjegdlbeaaDoorScOpen
import Derived.Test.YteiiepjegdlbeaaDoorCards
import Derived.Test.YteiiepjegdlbeaaDoorTie
import Derived.SevenTiedAt
import Derived.ChangeMaps5
import Derived.OpenShut
set_option maxRecDepth 100000
namespace Go.Proofs.YteiiepjegdlbeaaDoor
open Go.RowKit Go.Shelf Go.Lib
open Go.ChangeShapes Go.WideShapes Go.ChangeAt
theorem sccut_lifted (os:Os) (started:os.Started) (H:Type) (enc:TypeId × Value -> H) :
 ReturnsInHanded {} Tryd.checked os 3 .any (fun w args => (Rows.scanCutsSpec.pre enc Tryd.prog Tryd.f3 [] false w args /\ laidMetH Tryd.prog Rows.scanCutsRow.laid w) /\ sizedMet enc Tryd.prog Tryd.f3 (OpenSpec.ofChange Rows.scanCutsSpec) false w args)
  (Rows.scanCutsSpec.post enc Tryd.prog Tryd.f3 false true false false):=by
 refine returnsInHanded_of_change_and (C:=Tryd.checked) (X:=fun w _ => laidMetH Tryd.prog Rows.scanCutsRow.laid w) (fun _ _ _ hh h => h.of_heap hh) own started (by kernel_rfl) Tryd.func3
  (ChangeSpec.witness_shaped (enc:=enc) (C:=Tryd.checked) (os:=os) (X:=fun w _ => laidMetH Tryd.prog Rows.scanCutsRow.laid w) false (World.laidAll Tryd.prog os theLaid) #[.slice none 0 0] 8 (World.laidAll_os _ _ _)
   (laid_shaped os _) (by kernel_rfl) (by kernel_rfl) (by kernel_rfl) (laid_holds os _)) ?_
 intro W base args ds gs before hval0 hW _ _ hL _
 have hval : ∀ (j:Nat) t v,Tryd.f3.params[j]? = some t -> args[j]? = some v -> Value.okWide Tryd.prog W .any base t v:=hval0
 have hW':=hW
 obtain ⟨p,q,hA0,hV,rfl,_,_⟩:=hW
 have hA:DataW.TrodAll enc Tryd.prog W 0 (fun _ => true) true Tryd.f3.params.toList args.toList ds p:=hA0
 rw [Tryd.params3] at hA hval
 obtain ⟨v1,vs1,d1,ds1,p1,q1,hargs,rfl,rfl,h1,r1⟩:=trodAll_cons hA
 obtain ⟨rfl,rfl,rfl⟩:=trodAll_nil r1
 obtain rfl:args = #[v1]:=by cases args; simp_all
 obtain ⟨rfl,rfl⟩:=trodVars_none hV
 obtain ⟨a1,len1,cap1,rfl⟩:=okWide_slice Tryd.underlying22 (hval 0 22 v1 rfl rfl)
 have k1:=h1
 have lt1 : ∀ x ∈ p1,x.block < W.heap.size:=by obtain ⟨m,hm⟩:=k1; exact DataW.trod_lt m _ _ _ hm
 obtain ⟨f,hA1,hf,hd⟩:=argS_of h1
 clear hA0 hval0
 obtain ⟨hT,hS⟩:=tabs_of_laid hL
 refine (Sc.lawCuts_any _ f len1 W hS hT hf hA1).mono fun e W' ⟨he,hb⟩ => ?_
 subst he
 exact ⟨_,rfl,_,_,_, [],_, [],hW',trodAll_mk1 (shut_bool Tryd.underlying4 _),(trodAll_cons_mk (Below.trod laidOut (by kernel_rfl) (of_decide_eq_true (by kernel_rfl)) k1 hb lt1) trodAll_mk0),rfl,hb.frame _,fun h => by cases h⟩
theorem sccut_said:Rows.ScanCutsSaid :=
 OpenClaim.holds_of_wide 3 Tryd.f3 rfl rfl rfl rfl rfl rfl rfl ⟨rfl,rfl,rfl,rfl,rfl⟩ rfl rfl rfl rfl rfl (by kernel_rfl) Tryd.func3 (by kernel_rfl)
  (of_decide_eq_true (by kernel_rfl)) (by unfold Func.isWrapper; rw [if_neg (by decide +kernel)]; exact ⟨rfl,rfl⟩)
  (fun os started H enc _ => sccut_lifted os started H enc)
theorem sccut_plain (f:FuncId) (fn:Func) (hf:Tryd.pinned.checked.prog.funcNamed "gimlet/gimletlaw06.ScanCuts" = some f) (hfn:Tryd.pinned.checked.prog.funcs[f]? = some fn) :
 false=Tryd.pinned.checked.prog.looks [] /\ ∀ (j:Nat) t,fn.params[j]? = some t -> Tryd.pinned.checked.prog.wantsStandIn t=false:=by
 obtain rfl:f=3:=Option.some.inj ((show Tryd.prog.funcNamed "gimlet/gimletlaw06.ScanCuts" = some 3 by kernel_rfl).symm.trans hf) |>.symm
 obtain rfl:fn=Tryd.f3:=(Option.some.inj (Tryd.func3.symm.trans hfn)).symm
 refine ⟨by kernel_rfl,fun j t ht => ?_⟩
 rw [Tryd.params3] at ht
 have hm:t ∈ [22]:=by simpa using Array.mem_of_getElem? ht
 have hall:([22].all fun u => !Tryd.prog.wantsStandIn u)=true:=by kernel_rfl
 exact (show Tryd.prog.wantsStandIn t=false by simpa using List.all_eq_true.1 hall t hm)
theorem scanCuts_card:Rows.ScanCutsCardSaid :=
 Claim7.holds_tied_plain_at .later [] _ _ _ _ sccut_said (fun _ h => by cases h) (by kernel_rfl) (fun _ h => by cases h) scanCuts_row_tie rfl ⟨rfl,rfl⟩ (by kernel_rfl) rfl sccut_plain (by kernel_rfl)
#print axioms scanCuts_card
end Go.Proofs.YteiiepjegdlbeaaDoor
