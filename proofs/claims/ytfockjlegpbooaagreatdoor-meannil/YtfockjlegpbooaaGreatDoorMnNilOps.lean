/-
  What a row tells of the path and of the expression that came in, as structs.
-/
import Derived.Test.YtfockjlegpbooaaGreatDoorMnOps
import Derived.Test.YtfockjlegpbooaaGreatDoorMnPair
namespace Go.Proofs.YtfockjlegpbooaaGreatDoor
open Go.RowKit Go.Shelf Go.Lib
open Go.ChangeShapes Go.WideShapes Go.ChangeAt Go.Joins
namespace Mn
theorem StL.slice {d : Nat} {W : World} {v : Value} (h : StL d W v) : ∃ p n c, v = .slice p n c := by
  cases d with
  | zero => unfold StL at h; exact h.elim
  | succ d => unfold StL at h; obtain ⟨p, n, c, h, _⟩ := h; exact ⟨p, n, c, h⟩
theorem ExL.slice {d : Nat} {W : World} {v : Value} (h : ExL d W v) : ∃ p n c, v = .slice p n c := by
  cases d with
  | zero => unfold ExL at h; exact h.elim
  | succ d => unfold ExL at h; obtain ⟨p, n, c, h, _⟩ := h; exact ⟨p, n, c, h⟩
end Mn
set_option maxRecDepth 100000 in
theorem path_of {H : Type} {enc : TypeId × Value → H} {W : World} {cs : Array Value} {d : DataW H} {p : List MemPlace} (hcs : cs.size = Tryz.prog.cellsOf 25) (h : DataW.Trod enc Tryz.prog W 0 (fun _ => true) true 25 (Value.agg cs) d p) :
    ∃ (m : Nat) (a : Option Addr) (n c : Nat), cs = #[.slice a n c] ∧ Mn.StL m W (.slice a n c) := by
  rw [show Tryz.prog.cellsOf 25 = 1 from by kernel_rfl] at hcs
  obtain ⟨l⟩ := cs
  match l, hcs with
  | [v], _ =>
    obtain ⟨fuel, hf⟩ := h
    obtain ⟨zs, k2, hk2, _, _, hzl, hzf⟩ := DataW.trod_struct Tryz.underlying25 hf
    match zs, hzl with
    | [z0], _ =>
      have q0 := hzf 0 _ rfl
      have c4 : Tryz.prog.cellsOf 23 = 1 := by kernel_rfl
      change DataW.trod _ _ _ _ _ _ _ 23 (([v].drop 0).take (Tryz.prog.cellsOf 23)) = some z0 at q0
      rw [c4] at q0
      have hs := (paths_of k2).1 v z0 q0
      obtain ⟨a, n, c, rfl⟩ := hs.slice
      exact ⟨k2, a, n, c, rfl, hs⟩
set_option maxRecDepth 100000 in
theorem expr_of {H : Type} {enc : TypeId × Value → H} {W : World} {cs : Array Value} {d : DataW H} {p : List MemPlace} (hcs : cs.size = Tryz.prog.cellsOf 48) (h : DataW.Trod enc Tryz.prog W 0 (fun _ => true) true 48 (Value.agg cs) d p) :
    ∃ (m : Nat) (op : Int) (pa : Option Addr) (na ca : Nat) (ps : Option Addr) (ns cs' : Nat) (at_ : ByteArray) (cmp : Int) (tx : ByteArray) (num : Int), cs = #[.int .i64 op, .slice pa na ca, .slice ps ns cs', .string at_, .int .i64 cmp, .string tx, .int .i64 num] ∧ Mn.ExL m W (.slice pa na ca) ∧ Mn.StL m W (.slice ps ns cs') := by
  rw [show Tryz.prog.cellsOf 48 = 7 from by kernel_rfl] at hcs
  obtain ⟨l⟩ := cs
  match l, hcs with
  | [v0, v1, v2, v3, v4, v5, v6], _ =>
    obtain ⟨fuel, hf⟩ := h
    change DataW.trod enc Tryz.prog W 0 (fun _ => true) true fuel 48 [v0, v1, v2, v3, v4, v5, v6] = some (d, p) at hf
    obtain ⟨ys, k, hk, _, _, hxl, hfl⟩ := DataW.trod_struct Tryz.underlying48 hf
    match ys, hxl with
    | [y0, y1, y2, y3, y4, y5, y6], _ =>
      have g0 := hfl 0 _ rfl
      have g1 := hfl 1 _ rfl
      have g2 := hfl 2 _ rfl
      have g3 := hfl 3 _ rfl
      have g4 := hfl 4 _ rfl
      have g5 := hfl 5 _ rfl
      have g6 := hfl 6 _ rfl
      have c0 : Tryz.prog.cellsOf 3 = 1 := by kernel_rfl
      have c1 : Tryz.prog.cellsOf 9 = 1 := by kernel_rfl
      have c2 : Tryz.prog.cellsOf 45 = 1 := by kernel_rfl
      have c3 : Tryz.prog.cellsOf 25 = 1 := by kernel_rfl
      have c4 : Tryz.prog.cellsOf 23 = 1 := by kernel_rfl
      have c5 : Tryz.prog.cellsOf 44 = 1 := by kernel_rfl
      have c6 : Tryz.prog.cellsOf 46 = 1 := by kernel_rfl
      have cE : ∀ t, (Tryz.prog.underlying t = some (.int .i64)) → Tryz.prog.cellsOf t = 1 → ∀ v y, DataW.trod enc Tryz.prog W 0 (fun _ => true) true k t [v] = some y → ∃ x, v = .int .i64 x := fun t ht _ v y hy => by
        obtain ⟨x, hx, _, _⟩ := DataW.trod_int ht hy
        exact ⟨x, by simpa using hx⟩
      simp [c0, c1, c2, c3, c5, c6] at g0 g1 g2 g3 g4 g5 g6
      obtain ⟨s3, hs3, _⟩ := DataW.trod_string Tryz.underlying9 g3
      obtain ⟨s5, hs5, _⟩ := DataW.trod_string Tryz.underlying9 g5
      obtain rfl : v3 = .string s3 := by simpa using hs3
      obtain rfl : v5 = .string s5 := by simpa using hs5
      obtain ⟨zs, k2, hk2, _, _, hzl, hzf⟩ := DataW.trod_struct Tryz.underlying25 g2
      match zs, hzl with
      | [z0], _ =>
        have q0 := hzf 0 _ rfl
        simp [c4] at q0
        have h1 := (paths_of k).2 _ _ g1
        have h2 := ((paths_of k2).1 _ _ q0).le (d' := k) (by omega)
        obtain ⟨pa, na, ca, rfl⟩ := h1.slice
        obtain ⟨ps, ns, cs', rfl⟩ := h2.slice
        obtain ⟨op, rfl⟩ : ∃ x, v0 = .int .i64 x := cE 44 Tryz.underlying44 c5 _ y0 g0
        obtain ⟨cmp, rfl⟩ : ∃ x, v4 = .int .i64 x := cE 46 Tryz.underlying46 c6 _ y4 g4
        obtain ⟨num, rfl⟩ : ∃ x, v6 = .int .i64 x := cE 3 Tryz.underlying3 c0 _ y6 g6
        exact ⟨k, op, pa, na, ca, ps, ns, cs', s3, cmp, s5, num, rfl, h1, h2⟩
end Go.Proofs.YtfockjlegpbooaaGreatDoor
