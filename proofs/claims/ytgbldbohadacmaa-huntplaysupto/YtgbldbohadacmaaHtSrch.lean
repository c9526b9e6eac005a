/-
  THE WALK over (*Hunt).search.
-/
import Derived.Test.YtgbldbohadacmaaHtWalk
import Derived.BigQuiet
import Derived.BigGuard
namespace Go.Proofs.Ytgbldbohadacmaa
open Go.RowKit Go.Lib
namespace Ht
/-- the number that is kept -/
def qOf (w : World) (b : Nat) : Nat := match w.cell? ⟨b, 6, none⟩ with | some (.int _ x) => x.toNat | _ => 0
theorem qOf_eq {w : World} {b q : Nat} (h : w.cell? ⟨b, 6, none⟩ = some (.int .i64 (q : Int))) : qOf w b = q := by simp [qOf, h]
theorem Row.hb {k : IntKind} {w w' : World} {g o n : Nat} {p : Nat → Nat} (h : Row k w g o n p) {b : Nat} (e : Hb b w w') (hg : g < w.heap.size) (hn : g ≠ b) : Row k w' g o n p := fun j hj =>
  (World.cell?_of_block (a := ⟨g, o + j, none⟩) (e.block g hg hn)).trans (h j hj)
end Ht
set_option maxRecDepth 100000 in
set_option maxHeartbeats 4000000 in
theorem htSearch {w : World} {b : Nat} {c : Int} {td : Bool} {N : Int} {xt xb : Value} {wh : Bool} {q : Nat} {t : Int} {T L : List Nat} {r : Nat} (h : Ht.HC w b c td N xt xb wh q t) (hT : Ht.TR w T xt) (hB : Ht.BR w T xb)
    (hq : Wd.Lps (Ht.lg T) T.length (Ht.lg L) L.length q) :
    Calls Try.prog 31 #[.pointer (some ⟨b, 0, none⟩), .int .i32 (r : Int)] w fun e w' => (∃ u, e = .returned u) ∧ ∃ q' : Nat, Ht.HC w' b c td N xt xb wh q' t ∧ Wd.Lps (Ht.lg T) T.length (Ht.lg (L ++ [r])) (L.length + 1) q' ∧ Ht.Hb b w w' := by
  obtain ⟨g, cap, cur, rfl, hc1, hc2, hlie, htb⟩ := hT
  obtain ⟨gb, bf, bcur, rfl, hib, hbd⟩ := hB
  have hEx : Ht.Ex (Ht.lg T) T.length (Ht.lg (L ++ [r])) L.length r q := Ht.Ex.of (Ht.lps_more hq)
  have hend := Ht.lg_end L r
  have hgb : g ≠ b := fun e => by subst e; rw [h] at htb; simp at htb
  have hgbb : gb ≠ b := fun e => by have h5 := hib.blk; subst e; rw [h] at h5; simp at h5
  have KT := hide' (fun wr (e : Ht.Hb b w wr) => Ht.Row.hb hlie.row e (Array.getElem?_eq_some_iff.1 htb).1 hgb)
  have KB := hide' (fun wr (e : Ht.Hb b w wr) => Ht.Row.hb hib.row e (Array.getElem?_eq_some_iff.1 hib.blk).1 hgbb)
  simp only [Ht.lg_eq] at KT
  obtain ⟨m, hm⟩ : ∃ m, T.length = m := ⟨_, rfl⟩
  obtain ⟨p, hp⟩ : ∃ p, Ht.lg T = p := ⟨_, rfl⟩
  obtain ⟨tt, htt⟩ : ∃ tt, Ht.lg (L ++ [r]) = tt := ⟨_, rfl⟩
  obtain ⟨l, hl⟩ : ∃ l, L.length = l := ⟨_, rfl⟩
  simp only [hm, hp, htt, hl] at *
  clear hm hp htt hl hlie htb hib hgb hgbb hq
  have hm2 : m ≤ 9223372036854775807 := by unfold maxLen at hc2; omega
  have hc3 : cap ≤ 9223372036854775807 := by unfold maxLen at hc2; omega
  clear hc2
  have HEX := hide' hEx
  have HEND := hide' hend
  have HBD := hide' hbd
  have H0 := hide' h
  clear hEx hend hbd h
  go_enter Try.func31, Try.ntmps31
  go_wp2
  go_loopw [] (fun wr => ∃ k : Nat, Hid (Ht.HC wr b c td N (.slice (some ⟨g, 0, none⟩) m cap) (.slice (some ⟨gb, 0, none⟩) m m) wh k t) ∧ Hid (Ht.Ex p m tt l r k) ∧ Hid (Ht.Hb b w wr)) (fun wr => Ht.qOf wr b)
  case atStart => exact ⟨q, H0, HEX, Ht.Hb.refl _ _⟩
  case round =>
    obtain ⟨k, HC, HE, HB⟩ := hrel
    obtain ⟨_, _, _, c3, c4, _, c6, _, fz⟩ := HC.out.cells
    have hle := HE.out.le
    have HM : Hid (Ht.qOf wr b = k) := Ht.qOf_eq c6
    by_cases e : k = m
    · have e1 : ((k : Int) == (m : Int)) = true := by simp [e]
      have e2 := hide' e
      clear e
      by_cases z : k = 0
      · have z1 : ((k : Int) == 0) = true := by simp [z]
        have z2 := hide' z
        clear z
        go_wp2
        go_quiet (fail)
        go_wp2
        refine bodyPost_ret (v := .tuple #[]) (by simp [results, Try.results31, go_sem]) rfl ?_
        refine ⟨⟨_, rfl⟩, k, HC.out.drewN _, ?_, HB.out.drewN _⟩
        have := HE.out
        rw [z2.out] at this ⊢
        exact this.miss (.inl (by have := e2.out; have := z2.out; omega)) HEND.out
      · have z1 : ((k : Int) == 0) = false := by simp; omega
        obtain ⟨hx, hlt⟩ := HE.out.back (by omega) (.inl e2.out) (HBD.out (k - 1) (by omega))
        have cb := KB.out wr HB.out (k - 1) (by omega)
        rw [Nat.zero_add] at cb
        have k1 : ((k : Int) - 1) = ((k - 1 : Nat) : Int) := by omega
        have HX := hide' hx
        clear hx
        go_wp2
        go_quiet (fail)
        go_wp2
        go_region
        go_wp2
        go_roundw
        case rel => exact ⟨bf (k - 1), (HC.out.drewN _).set6 _, HX, (HB.out.drewN _).setCell _ _⟩
        case measure => rw [HM.out, Ht.qOf_eq ((HC.out.drewN _).set6 (bf (k - 1))).cells.2.2.2.2.2.2.1]; exact hlt
    · have e1 : ((k : Int) == (m : Int)) = false := by simp; omega
      have hkm : k < m := by omega
      have ck := KT.out wr HB.out k hkm
      rw [Nat.zero_add] at ck
      clear e
      by_cases hr : p k = r
      · have hx := HE.out.hit hkm hr HEND.out
        have r1 : (((p k : Nat) : Int) != (r : Int)) = false := by simp [hr]
        have HX := hide' hx
        clear hx hr
        go_wp2
        go_quiet (fail)
        go_wp2
        go_end0
        exact ⟨⟨_, rfl⟩, k + 1, (HC.out.drewN _).set6 _, HX, (HB.out.drewN _).setCell _ _⟩
      · have r1 : (((p k : Nat) : Int) != (r : Int)) = true := by simp; omega
        have HR := hide' hr
        clear hr
        by_cases z : k = 0
        · have z1 : ((k : Int) == 0) = true := by simp [z]
          have z2 := hide' z
          clear z
          go_wp2
          go_quiet (fail)
          go_wp2
          refine bodyPost_ret (v := .tuple #[]) (by simp [results, Try.results31, go_sem]) rfl ?_
          refine ⟨⟨_, rfl⟩, k, HC.out.drewN _, ?_, HB.out.drewN _⟩
          have h1 := HE.out
          have h2 := HR.out
          rw [z2.out] at h1 h2 ⊢
          exact h1.miss (.inr h2) HEND.out
        · have z1 : ((k : Int) == 0) = false := by simp; omega
          obtain ⟨hx, hlt⟩ := HE.out.back (by omega) (.inr HR.out) (HBD.out (k - 1) (by omega))
          have cb := KB.out wr HB.out (k - 1) (by omega)
          rw [Nat.zero_add] at cb
          have k1 : ((k : Int) - 1) = ((k - 1 : Nat) : Int) := by omega
          have HX := hide' hx
          clear hx
          go_wp2
          go_quiet (fail)
          go_wp2
          go_region
          go_wp2
          go_roundw
          case rel => exact ⟨bf (k - 1), (HC.out.drewN _).set6 _, HX, (HB.out.drewN _).setCell _ _⟩
          case measure => rw [HM.out, Ht.qOf_eq ((HC.out.drewN _).set6 (bf (k - 1))).cells.2.2.2.2.2.2.1]; exact hlt
end Go.Proofs.Ytgbldbohadacmaa
