/-
  THE WALK over the document's hunt: Truth.
-/
import Derived.Test.YtgbldbohadacmaaHtRefF
import Derived.Test.YtgbldbohadacmaaHtRefC
import Derived.Test.YtgbldbohadacmaaHtRefD
import Derived.Deep.QuietTactic
namespace Go.Proofs.Ytgbldbohadacmaa
open Go.RowKit Go.Lib
set_option maxRecDepth 100000 in
set_option maxHeartbeats 4000000 in
theorem htRefTr {w : World} {b : Nat} {c : Nat} {N : Int} {va vc : Value} {wh : Bool} {T L : List Nat} (h : Ht.RC w b c N va vc wh) (hc : c < 9) (ha : Ht.Ni w va T) (hv : Ht.Ni w vc L) (hL : L.length ≤ 1099511627776) (hT : T.length ≤ 1099511627776) :
    Calls Try.prog 9 #[.pointer (some ⟨b, 0, none⟩)] w fun e w' => e = .returned (.int .i64 (Ht.tru (Ht.cc c) (Ht.tdc c) (Ht.cn c N) T L wh)) ∧ ∃ k, w' = w.drewN k := by
  obtain ⟨c0, c1, c2, c3, c4, -⟩ := h.cells
  cases wh
  · obtain ⟨v, hV⟩ : ∃ v : Int, Ht.tru (Ht.cc c) (Ht.tdc c) (Ht.cn c N) T L false = v := ⟨_, rfl⟩
    have CO := hide' (fun n => htRefOpen c hc L T vc va N (w.drewN n) (hv.drewN n) (ha.drewN n) hL hT)
    rw [hV] at CO ⊢
    clear hV
    obtain ⟨pa, ca, rfl, -⟩ := ha
    obtain ⟨pc, cc, rfl, -⟩ := hv
    clear hL hT hc h
    go_enter Try.func9, Try.ntmps9
    go_wp2_with fail
    go_quiet (first | (go_at_call 21; refine Calls.quiet_of (CO.out _)))
    go_wp2_with fail
    go_ret
    exact ⟨rfl, _, rfl⟩
  · obtain ⟨P, hP⟩ : ∃ P : Bool, P = true ↔ Ht.wantP c T L N := by
      classical
      exact ⟨decide (Ht.wantP c T L N), decide_eq_true_iff⟩
    have hW := Ht.tru_want hc T L N P hP
    obtain ⟨v, hV⟩ : ∃ v : Int, (if P then 2 else 0) = v := ⟨_, rfl⟩
    rw [hV] at hW
    rw [hW]
    have CT := hide' (fun n => htRefTruth P (w.drewN n))
    rw [hV] at CT
    clear hV hW
    have CO := hide' (fun n => (htRefWhole c hc L T vc va N (w.drewN n) (hv.drewN n) (ha.drewN n) hL hT).mono (R' := fun e w' => e = .returned (.bool P) ∧ ∃ m, w' = (w.drewN n).drewN m) (by
      rintro e w' ⟨⟨P2, rfl, h2⟩, m, hm⟩
      obtain rfl : P2 = P := Bool.eq_iff_iff.2 (h2.trans hP.symm)
      exact ⟨rfl, m, hm⟩))
    obtain ⟨pa, ca, rfl, -⟩ := ha
    obtain ⟨pc, cc, rfl, -⟩ := hv
    clear hL hT hc h hP
    go_enter Try.func9, Try.ntmps9
    go_wp2_with fail
    go_quiet (first | (go_at_call 20; refine Calls.quiet_of (CO.out _)) | (go_at_call 19; refine Calls.quiet_of_same (CT.out _)))
    go_wp2_with fail
    go_ret
    exact ⟨rfl, _, rfl⟩
end Go.Proofs.Ytgbldbohadacmaa
