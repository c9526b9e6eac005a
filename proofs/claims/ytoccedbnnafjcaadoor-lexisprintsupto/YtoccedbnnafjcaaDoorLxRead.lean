/-
  WALKS over lexis.readNumber, readText, readSign, readWord: the word with which a text begins.
-/
import Derived.Test.YtoccedbnnafjcaaDoorLxBase
namespace Go.Proofs.YtoccedbnnafjcaaDoor
open Go.RowKit Go.Lib

theorem arr_one (f : Nat → Nat) : Rn.arr f 1 = ⟨#[(f 0).toUInt8]⟩ := rfl

/-- what the library's Cut answers at one byte -/
def Lx.cutV (g : Nat → Nat) (m c : Nat) : Value :=
  if Lx.idx g m c < m then .tuple #[.string (Rn.arr g (Lx.idx g m c)), .string (Rn.arr (Rn.off g (Lx.idx g m c + 1)) (m - (Lx.idx g m c + 1))), .bool true] else .tuple #[.string (Rn.arr g m), .string ⟨#[]⟩, .bool false]
set_option maxHeartbeats 1000000 in
theorem cutlite_one (g : Nat → Nat) (m c : Nat) (hg : ∀ j, g j < 256) (hc : c < 256) (hm : m ≤ 4611686018427387904) (w : World) :
    Calls Tryd.prog 73 #[.string (Rn.arr g m), .string ⟨#[c.toUInt8]⟩] w fun e w' => e = .returned (Lx.cutV g m c) ∧ ∃ k, w' = w.drewN k := by
  have cI := fun w1 => Tryd.stringslite_Index_one (Rn.arr g m) c.toUInt8 w1
  rw [Lx.index_eq g m hg c hc] at cI
  have hsz := Rn.arr_size g m
  unfold Lx.cutV
  have hle := (Lx.idx_spec g m c).1
  by_cases h : Lx.idx g m c < m
  · rw [if_pos h] at cI ⊢
    have e1 := arr_front g m (Lx.idx g m c) (by omega)
    have e2 := arr_rest g m (Lx.idx g m c + 1)
    generalize Lx.idx g m c = i at *
    have c0 : (0 : Int) ≤ (i : Int) := by omega
    have c1 : (i : Int) ≤ m := by omega
    have c2 : (i : Int) + 1 ≤ m := by omega
    have c3 : (0 : Int) ≤ (i : Int) + 1 := by omega
    have c4 : IntKind.i64.wrap ((i : Int) + 1) = (i : Int) + 1 := by rw [IntKind.wrap_i64]; omega
    clear hm
    go_enter Tryd.func73, Tryd.ntmps73
    go_wp2_with fail
    refine (cI _).mono ?_
    rintro e w1 ⟨rfl, rfl⟩
    go_wp2
    go_quiet (fail)
    go_wp2
    go_ret3
    exact ⟨rfl, nq, rfl⟩
  · rw [if_neg h] at cI ⊢
    go_enter Tryd.func73, Tryd.ntmps73
    go_wp2_with fail
    refine (cI _).mono ?_
    rintro e w1 ⟨rfl, rfl⟩
    go_wp2
    go_ret3
    exact ⟨rfl, 0, rfl⟩

theorem cut_one (g : Nat → Nat) (m c : Nat) (hg : ∀ j, g j < 256) (hc : c < 256) (hm : m ≤ 4611686018427387904) (w : World) :
    Calls Tryd.prog 63 #[.string (Rn.arr g m), .string ⟨#[c.toUInt8]⟩] w fun e w' => e = .returned (Lx.cutV g m c) ∧ Below w.heap.size w w' := by
  have cI := fun w1 => cutlite_one g m c hg hc hm w1
  unfold Lx.cutV at cI ⊢
  by_cases h : Lx.idx g m c < m
  · rw [if_pos h] at cI ⊢
    go_enter Tryd.func63, Tryd.ntmps63
    go_wp2_with fail
    refine (cI _).mono ?_
    rintro e w1 ⟨rfl, k, rfl⟩
    go_wp2
    go_ret3
    exact ⟨rfl, below_drewN (Below.refl _ _) k⟩
  · rw [if_neg h] at cI ⊢
    go_enter Tryd.func63, Tryd.ntmps63
    go_wp2_with fail
    refine (cI _).mono ?_
    rintro e w1 ⟨rfl, k, rfl⟩
    go_wp2
    go_ret3
    exact ⟨rfl, below_drewN (Below.refl _ _) k⟩

set_option maxHeartbeats 1000000 in
theorem readText_any (f : Nat → Nat) (n : Nat) (w : World) (hf : ∀ j, f j < 256) (h0 : 0 < n) (hn : n ≤ 4611686018427387904) :
    Calls Tryd.prog 46 #[.string (Rn.arr f n)] w fun e w' => e = .returned (Lx.rdTxt f n).ans ∧ Below w.heap.size w w' := by
  have hsz := Rn.arr_size f n
  have e1 := arr_front f n 1 (by omega)
  have e2 := arr_rest f n 1
  have cC := cut_one (Rn.off f 1) (n - 1) (f 0) (fun _ => hf _) (hf 0) (by omega) (w.alloc (.cells Lx.wd0 43))
  rw [arr_one] at e1
  have i1 : (1 : Int) ≤ n := by omega
  unfold Lx.rdTxt
  unfold Lx.cutV at cC
  have hle := (Lx.idx_spec (Rn.off f 1) (n - 1) (f 0)).1
  by_cases h : Lx.idx (Rn.off f 1) (n - 1) (f 0) < n - 1
  · rw [if_pos h] at cC ⊢
    have hsz2 := Rn.arr_size (Rn.off f 1) (Lx.idx (Rn.off f 1) (n - 1) (f 0))
    generalize Lx.idx (Rn.off f 1) (n - 1) (f 0) = i at *
    have cC' := hide' cC
    clear cC
    go_enter Tryd.func46, Tryd.ntmps46
    go_wp2_with fail
    refine cC'.out.mono ?_
    rintro e w1 ⟨rfl, hb⟩
    have HE := hide' ((Lx.Emp.new w).below hb)
    clear hb cC'
    go_wp2_with (refine wpList_store_mid rfl 43 (.tmp 2) (.tmp 23) rfl w.heap.size 0 (Lx.wdC 1 (Rn.arr (Rn.off f 1) i) 0 (0, 0, 0, 0)) rfl rfl HE.out.there Lx.wdInfo (Lx.wdOne _ _ _ _) ?_)
    exact bodyPost_ret (v := (Lx.Wd.mk 1 (Rn.arr (Rn.off f 1) i) 0 (i + 2) true).ans) (Lx.results_word Tryd.results46 _ ⟨w.heap.size, 0, none⟩ rfl _ _ _ _ (HE.out.load _ _ _ _) (by simp) rfl) rfl ⟨rfl, HE.out.fin _⟩
  · rw [if_neg h] at cC ⊢
    have cC' := hide' cC
    clear cC
    go_enter Tryd.func46, Tryd.ntmps46
    go_wp2_with fail
    refine cC'.out.mono ?_
    rintro e w1 ⟨rfl, hb⟩
    have HE := hide' ((Lx.Emp.new w).below hb)
    clear hb cC'
    go_wp2_with (refine wpList_store_mid rfl 43 (.tmp 2) (.tmp 21) rfl w.heap.size 0 (Lx.wdC 0 ⟨#[]⟩ 0 (0, 0, 0, 0)) rfl rfl HE.out.there Lx.wdInfo (Lx.wdOne _ _ _ _) ?_)
    exact bodyPost_ret (v := (Lx.Wd.mk 0 ⟨#[]⟩ 0 0 false).ans) (Lx.results_word Tryd.results46 _ ⟨w.heap.size, 0, none⟩ rfl _ _ _ _ (HE.out.load _ _ _ _) rfl rfl) rfl ⟨rfl, HE.out.fin _⟩
end Go.Proofs.YtoccedbnnafjcaaDoor
