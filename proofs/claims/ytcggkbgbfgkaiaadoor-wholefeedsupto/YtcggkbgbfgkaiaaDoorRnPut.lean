/-
  WALKS over runes.Put of no bytes.
-/
import Derived.Test.YtcggkbgbfgkaiaaDoorRnEnc
import Derived.Test.YtcggkbgbfgkaiaaDoorRnDec
import Derived.Test.YtcggkbgbfgkaiaaDoorRnAt
import Derived.Laws.CopyRow
namespace Go.Proofs.YtcggkbgbfgkaiaaDoor
open Go.RowKit Go.Lib

theorem infoByte : (Tryd.prog.info? 5).map (fun i => (i.zero, i.size, i.bytes)) = some (some (.int .u8 0), 1, 1) := by kernel_rfl
set_option maxRecDepth 100000 in
set_option maxHeartbeats 1000000 in
theorem put_nil (r : Int) (w : World) (hr0 : -2147483648 ≤ r) (hr1 : r ≤ 2147483647) :
    Calls Tryd.prog 5 #[.slice none 0 0, .int .i32 r] w fun e w' =>
      ∃ g cap, e = .returned (.slice (some ⟨g, 0, none⟩) (Rn.el r) cap) ∧ Rn.el r ≤ cap ∧ cap ≤ maxLen ∧ Bytes w' g 0 (Rn.el r) (Rn.eb r) ∧ Below w.heap.size w w' := by
  have hcp := fun W => run_copy_nil (P := Tryd.prog) W 22 22 3 5 ⟨w.heap.size, 0, none⟩ 0 4 Tryd.underlying22 (by kernel_rfl)
  have hmk : ∀ w, (Instr.makeSlice 22 (.int .i64 0) (.int .i64 4)).run Tryd.prog w = .ok (.slice (some ⟨w.heap.size, 0, none⟩) 0 4) (w.alloc (.cells #[.int .u8 0, .int .u8 0, .int .u8 0, .int .u8 0] 5)) := fun _ => by kernel_rfl
  go_enter Tryd.func5, Tryd.ntmps5
  go_wp2_with fail
  have hown : (w.alloc (.cells #[.int .u8 0, .int .u8 0, .int .u8 0, .int .u8 0] 5)).ownsRow w.heap.size 5 1 (.slice (some ⟨w.heap.size, 0, none⟩) 0 4) 0 [] :=
    ⟨rfl, .inr ⟨w.heap.size, 4, #[.int .u8 0, .int .u8 0, .int .u8 0, .int .u8 0], rfl, Nat.le_refl _, (by show (w.heap.push _)[w.heap.size]? = _; simp), by omega, by decide, rfl, rfl⟩⟩
  refine (Tryd.utf8_AppendRune_plain w.heap.size _ 0 [] r hr0 hr1 _ hown (by omega) (by simp)).mono ?_
  rintro e w1 ⟨v, rfl, hown1, o, hgrow⟩
  have hlen : 0 + (Lib.runeCells r).length = Rn.el r := by simp [Lib.runeCells, Rn.el]
  rw [hlen, List.nil_append] at hown1
  have hp := Rn.el_pos r
  obtain ⟨g, cap, cur, rfl, hg, hgg, hc1, hc2, _, _⟩ : ∃ g cap cur, v = .slice (some ⟨g, 0, none⟩) (Rn.el r) cap ∧ w.heap.size ≤ g ∧ w1.heap[g]? = some (.cells cur 5 (0, 0)) ∧ Rn.el r ≤ cap ∧ cap ≤ maxLen ∧ cur.size = cap * 1 ∧ cur.toList.take (Rn.el r * 1) = Lib.runeCells r := by
    rcases hown1.2 with ⟨_, h⟩ | h
    · omega
    · exact h
  have hby : Bytes w1 g 0 (Rn.el r) (Rn.eb r) := by
    intro j hj
    have hj' : j < (Lib.encodeRuneZ r).length := hj
    have h := hown1.cells (g := g) rfl j (.int .u8 (Lib.encodeRuneZ r)[j]) (by simp [Lib.runeCells, hj'])
    rw [show (Addr.add ⟨g, 0, none⟩ j) = ⟨g, 0 + j, none⟩ by simp [Addr.add]; omega] at h
    rw [h]
    have hb := Lib.encodeRuneZ_byte r (Lib.encodeRuneZ r)[j] (List.getElem_mem hj')
    have e : ((Rn.eb r j : Nat) : Int) = (Lib.encodeRuneZ r)[j] := by
      unfold Rn.eb
      rw [List.getElem?_eq_getElem hj', Option.getD_some]
      omega
    rw [e]
  have hb1 : Below w.heap.size w w1 :=
    ((((Below.refl w.heap.size w).alloc (Nat.le_refl _) _).alloc (by simp) o)).grown hgrow (by simp; omega) (fun k hk => by simp [Value.ownBlock] at hk; omega)
  clear hown hown1 hgrow
  go_wp2_with fail
  go_ret
  exact ⟨g, cap, rfl, hc1, hc2, hby, hb1⟩
end Go.Proofs.YtcggkbgbfgkaiaaDoor
