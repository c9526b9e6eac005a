/-
  THE WALK over gimletlaw01.RunesBytes: at every bytes and every place.
-/
import Derived.Test.YtacmenmneilamaaDoorRnRefAt
import Derived.Test.YtacmenmneilamaaDoorRnSame
import Derived.Test.YtacmenmneilamaaDoorRnAwake
namespace Go.Proofs.YtacmenmneilamaaDoor
open Go.RowKit Go.Lib

theorem argB_slb {w : World} {f : Nat → Nat} {n : Nat} {pa : Option Addr} {cap : Nat} (h : ArgB w f n (.slice pa n cap)) : SlB w pa n f := by
  by_cases h0 : n = 0
  · exact .inl h0
  · cases h with
    | nil hn => exact absurd hn h0
    | some ad cap h1 h2 hc hp =>
      obtain ⟨b, o, rfl, hby⟩ := hp (by omega)
      exact slb_bytes hby
theorem slb_or {w : World} {f : Nat → Nat} {n : Nat} {pa : Option Addr} (h : SlB w pa n f) : n = 0 ∨ ∃ b o, pa = some ⟨b, o, none⟩ ∧ Bytes w b o n f := by
  rcases h with h | ⟨b, o, e, _, hby⟩
  · exact .inl h
  · exact .inr ⟨b, o, e, hby⟩
theorem mk_bytes {w : World} {g n : Nat} {f : Nat → Nat} (h : Bytes w g 0 (n + 3) (mk f n)) : Bytes w g 0 n f := fun j hj => by
  have := h j (by omega)
  simpa [mk, hj] using this

set_option maxRecDepth 100000 in
set_option maxHeartbeats 4000000 in
theorem lawBytes_of (f : Nat → Nat) (pa : Option Addr) (n capb : Nat) (k : Int) (w : World) (hT : Lib.Utf8Tabs 0 1 w) (hf : ∀ j, f j < 256) (hn : n ≤ 1099511627776) (hA : ArgB w f n (.slice pa n capb))
    (r m how er ab ar al ac ea : Int) (hr0 : 0 ≤ r) (hr1 : r ≤ 2147483647)
    (c1 : ∀ g cap W, n + 3 ≤ cap → cap ≤ maxLen → Lib.Utf8Tabs 0 1 W → Bytes W g 0 n f → Calls Tryd.prog 11 #[.slice (some ⟨g, 0, none⟩) n cap, .int .i64 k] W fun e w' => e = .returned (.tuple #[.int .i32 r, .int .i64 m, .int .i64 how, .int .i64 er]) ∧ Below W.heap.size W w')
    (c2 : ∀ W, Below w.heap.size w W → Calls Tryd.prog 12 #[.slice pa n capb, .int .i64 k] W fun e w' => e = .returned (.tuple #[.int .i64 r, .int .i64 m, .int .i64 how, .int .i64 er]) ∧ w' = W)
    (c3 : ∀ g cap W, n + 3 ≤ cap → cap ≤ maxLen → Bytes W g 0 n f → Calls Tryd.prog 13 #[.slice (some ⟨g, 0, none⟩) n cap, .int .i64 k] W fun e w' => e = .returned (.tuple #[.agg #[.int .i64 ab, .int .i64 ar, .int .i64 al, .int .i64 ac], .int .i64 ea]) ∧ Below W.heap.size W w')
    (c4 : ∀ W, Below w.heap.size w W → Calls Tryd.prog 14 #[.slice pa n capb, .int .i64 k] W fun e w' => e = .returned (.tuple #[.agg #[.int .i64 ab, .int .i64 ar, .int .i64 al, .int .i64 ac], .int .i64 ea]) ∧ Below W.heap.size W w') :
    Calls Tryd.prog 3 #[.slice pa n capb, .int .i64 k] w fun e w' => e = .returned (.bool true) ∧ Below w.heap.size w w' := by
  have cA := awake_any w hT
  go_enter Tryd.func3, Tryd.ntmps3
  go_wp2_with fail
  refine cA.mono ?_
  rintro e w1 ⟨rfl, hb1⟩
  clear cA
  go_wp2_with fail
  refine (laid_any f n _ w1 (by omega) (hA.below hb1 (Nat.le_refl _))).mono ?_
  rintro e w2 ⟨g, cap, rfl, hc1, hc2, hby, hg, hb2⟩
  have hB2 := hb1.trans (hb2.mono hb1.size)
  have hgl : g < w2.heap.size := by have := block_lt_of_cell (hby 0 (by omega)); exact this
  go_wp2_with fail
  refine (c1 g cap w2 hc1 hc2 (tabs_below hT hB2 (Nat.le_refl _)) (mk_bytes hby)).mono ?_
  rintro e w3 ⟨rfl, hb3⟩
  have hB3 := hB2.trans (hb3.mono hB2.size)
  have hby3 := hby.below hb3 (Nat.le_refl _)
  clear c1
  go_wp2_with fail
  refine (c2 w3 hB3).mono ?_
  rintro e w4 ⟨rfl, rfl⟩
  clear c2
  have n1 : (r != r) = false := by simp
  have n2 : (m != m) = false := by simp
  have n3 : (how != how) = false := by simp
  have n4 : (er != er) = false := by simp
  go_wp2_with fail
  refine (c3 g cap _ hc1 hc2 (mk_bytes hby3)).mono ?_
  rintro e w5 ⟨rfl, hb5⟩
  clear c3
  have hB5 := hB3.trans (hb5.mono hB3.size)
  have hby5 := hby3.below hb5 (Nat.le_refl _)
  go_wp2_with fail
  have hB5a : Below w.heap.size w (w5.alloc (.cells #[.int .i64 ab, .int .i64 ar, .int .i64 al, .int .i64 ac] 32)) := hB5.alloc hB5.size _
  refine (c4 _ hB5a).mono ?_
  rintro e w6 ⟨rfl, hb6⟩
  clear c4
  have hB6 := hB5a.trans (hb6.mono hB5a.size)
  have hby6 := (hby5.below ((Below.refl w5.heap.size w5).alloc (Nat.le_refl _) _) (Nat.le_refl _)).below hb6 (Nat.le_refl _)
  have hz6 : w5.heap.size < w6.heap.size := by have := hb6.size; simp at this; omega
  have q0 : w6.cell? ⟨w5.heap.size, 0, none⟩ = some (.int .i64 ab) := (hb6.cell (p := ⟨w5.heap.size, 0, none⟩) (by simp)).trans (by simp)
  have q1 : w6.cell? ⟨w5.heap.size, 1, none⟩ = some (.int .i64 ar) := (hb6.cell (p := ⟨w5.heap.size, 1, none⟩) (by simp)).trans (by simp)
  have q2 : w6.cell? ⟨w5.heap.size, 2, none⟩ = some (.int .i64 al) := (hb6.cell (p := ⟨w5.heap.size, 2, none⟩) (by simp)).trans (by simp)
  have q3 : w6.cell? ⟨w5.heap.size, 3, none⟩ = some (.int .i64 ac) := (hb6.cell (p := ⟨w5.heap.size, 3, none⟩) (by simp)).trans (by simp)
  have n5 : (ea == ea) = true := by simp
  clear hb2 hb3 hb5 hb6 hby hby3 hby5
  go_wp2_with fail
  refine (place_true ab ar al ac _).mono ?_
  rintro e w7 ⟨rfl, hb7⟩
  have hB6a : Below w.heap.size w (w6.alloc (.cells #[.int .i64 ab, .int .i64 ar, .int .i64 al, .int .i64 ac] 35)) := hB6.alloc hB6.size _
  have hB7 := hB6a.trans (hb7.mono hB6a.size)
  have hby7 := (hby6.below ((Below.refl w6.heap.size w6).alloc (Nat.le_refl _) _) (Nat.le_refl _)).below hb7 (Nat.le_refl _)
  clear hb7 q0 q1 q2 q3 hby6
  go_wp2_with fail
  refine (good_any f n g 0 cap w7 (tabs_below hT hB7 (Nat.le_refl _)) hf (by omega) hc2 (mk_bytes hby7)).mono ?_
  rintro e w8 ⟨rfl, hb8⟩
  have hB8 := hB7.trans (hb8.mono hB7.size)
  have hby8 := hby7.below hb8 (Nat.le_refl _)
  clear hb8 hby7
  have hsl8 := (argB_slb hA).below hB8 (Nat.le_refl _)
  go_wp2_with fail
  refine (refGood_any f pa n capb w8 (by omega) (slb_or hsl8)).mono ?_
  rintro e w9 ⟨rfl, rfl⟩
  have n6 : ((Rn.good f n : Int) == Rn.good f n) = true := by simp
  go_wp2_with fail
  refine (kept_true g cap pa n capb f _ hc1 hc2 hby8 hsl8).mono ?_
  rintro e w10 ⟨rfl, hb10⟩
  go_wp2_with fail
  go_ret
  exact ⟨rfl, hB8.trans (hb10.mono hB8.size)⟩

/-- what is known of the value of a slice that came in -/
theorem argB_cap {w : World} {f : Nat → Nat} {n : Nat} {pa : Option Addr} {cap : Nat} (h : ArgB w f n (.slice pa n cap)) : n ≤ cap ∧ cap ≤ maxLen ∧ (pa = none → cap = 0) := by
  cases h with
  | nil hn => exact ⟨Nat.le_refl _, by decide, fun _ => rfl⟩
  | some ad cap h1 h2 hc hp => exact ⟨h1, h2, fun h => by cases h⟩

theorem lawBytes_any (f : Nat → Nat) (pa : Option Addr) (n capb : Nat) (k : Int) (w : World) (hT : Lib.Utf8Tabs 0 1 w) (hf : ∀ j, f j < 256) (hn : n ≤ 1099511627776) (hA : ArgB w f n (.slice pa n capb)) :
    Calls Tryd.prog 3 #[.slice pa n capb, .int .i64 k] w fun e w' => e = .returned (.bool true) ∧ Below w.heap.size w w' := by
  obtain ⟨h1, h2, h3⟩ := argB_cap hA
  have hsl := argB_slb hA
  by_cases ho : k < 0 ∨ (n : Int) < k
  · refine lawBytes_of f pa n capb k w hT hf hn hA 0 0 0 2 0 0 0 0 2 (by omega) (by omega) (fun g cap W _ _ _ _ => ?_) (fun W _ => refNext_out pa n capb k W ho) (fun g cap W _ _ _ => at_out _ n cap k W ho) (fun W _ => refAt_out pa n capb k W ho)
    refine (next_out (some ⟨g, 0, none⟩) n cap k W ho).mono ?_
    rintro e w' ⟨rfl, rfl⟩
    exact ⟨rfl, Below.refl _ _⟩
  · obtain ⟨a, rfl⟩ : ∃ a : Nat, k = a := ⟨k.toNat, by omega⟩
    have ha : a ≤ n := by omega
    have cAt : ∀ g cap W, n + 3 ≤ cap → cap ≤ maxLen → Bytes W g 0 n f → _ := fun g cap W hc hm hby => at_in f n g 0 cap a W hf ha (by omega) hm (by omega) hby
    have cRAt : ∀ W, Below w.heap.size w W → _ := fun W hb => refAt_in f pa n capb a W hf ha h1 h2 hn h3 (slb_or (hsl.below hb (Nat.le_refl _)))
    by_cases hz : a = n
    · subst hz
      refine lawBytes_of f pa a capb a w hT hf hn hA 0 0 3 0 _ _ _ _ 0 (by omega) (by omega) (fun g cap W hc hm _ _ => ?_) (fun W _ => refNext_done pa a capb W) cAt cRAt
      refine (next_done g 0 a cap W (by omega) hm).mono ?_
      rintro e w' ⟨rfl, rfl⟩
      exact ⟨rfl, Below.refl _ _⟩
    · have hlt : a < n := by omega
      have hb : 0 ≤ ((Rn.nx (Rn.off f a) (n - a)).1 : Int) ∧ ((Rn.nx (Rn.off f a) (n - a)).1 : Int) ≤ 2147483647 := by
        have := Rn.fv_le (Rn.off f a) (fun _ => hf _)
        unfold Rn.nx
        repeat' split
        all_goals simp only []
        all_goals omega
      exact lawBytes_of f pa n capb a w hT hf hn hA _ _ _ 0 _ _ _ _ 0 hb.1 hb.2 (fun g cap W hc hm hTW hby => next_in f n g 0 cap a W hTW hf hlt (by omega) hm hby)
        (fun W hbW => by
          rcases hsl.below hbW (Nat.le_refl _) with h0 | ⟨b, o, rfl, _, hby⟩
          · omega
          · exact refNext_in f n b o capb a W hf hlt h1 h2 (by omega) hby) cAt cRAt
end Go.Proofs.YtacmenmneilamaaDoor
