/-
  gimletlaw14.spoil, all the way down.
-/
import Derived.Test.YtmpmlccomgepjaaKlSpo
namespace Go.Proofs.Ytmpmlccomgepjaa
open Go.RowKit Go.Lib Go.Sort
/-- spoil, all the way down -/
theorem klSpoil : ∀ (x : Kl.Fv) (mark : Int) (w : World) (B O : Nat), 0 ≤ mark → mark + Kl.sz (Kl.ct x) ≤ 2000000 → (∃ cur t, w.heap[B]? = some (.cells cur t (0, 0)) ∧ O + 4 ≤ cur.size) → w.rangeAt B O x.enc → Kl.Dp w x → B ∉ Kl.fp x →
    Calls Try.prog 10 #[.pointer (some ⟨B, O, none⟩), .int .i64 mark] w fun r w' => (∃ u, r = .returned u) ∧ Kl.SpE w B O (Kl.fp x) w' := by
  refine Kl.Fv.ind (P := fun x => ∀ (mark : Int) (w : World) (B O : Nat), 0 ≤ mark → mark + Kl.sz (Kl.ct x) ≤ 2000000 → (∃ cur t, w.heap[B]? = some (.cells cur t (0, 0)) ∧ O + 4 ≤ cur.size) → w.rangeAt B O x.enc → Kl.Dp w x → B ∉ Kl.fp x →
    Calls Try.prog 10 #[.pointer (some ⟨B, O, none⟩), .int .i64 mark] w fun r w' => (∃ u, r = .returned u) ∧ Kl.SpE w B O (Kl.fp x) w') fun o v m p c l ih mark w B O h0 h1 hb hr hd hB => ?_
  rw [Kl.ct_mk, Kl.sz] at h1
  have hl := Kl.szs_len (l.map Kl.ct)
  rw [List.length_map] at hl
  refine klSpoil1 o v m mark p c l w B O hb hr hd hB h0 (by omega) fun y hy w B O hb hr hd hB => ?_
  have hs := Kl.szs_mem (List.mem_map.2 ⟨y, hy, rfl⟩ : Kl.ct y ∈ l.map Kl.ct)
  exact ih y hy (mark + 1) w B O (by omega) (by omega) hb hr hd hB
end Go.Proofs.Ytmpmlccomgepjaa
