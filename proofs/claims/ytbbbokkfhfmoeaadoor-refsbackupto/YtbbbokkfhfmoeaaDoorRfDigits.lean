/-
  THE WALK over gimletlaw05.digits.
-/
import Derived.Test.YtbbbokkfhfmoeaaDoorRfDig
import Derived.Test.YtbbbokkfhfmoeaaDoorRfRefW
import Derived.BigQuiet
namespace Go.Proofs.YtbbbokkfhfmoeaaDoor
open Go.RowKit Go.Lib

/-- is the text empty? -/
def sz0 : Value → Nat
  | .string b => if b.size = 0 then 1 else 0
  | _ => 0
theorem chCut0 : ∀ k : Fin 16, (ByteArray.mk #[48, 49, 50, 51, 52, 53, 54, 55, 56, 57, 97, 98, 99, 100, 101, 102, 65, 66, 67, 68, 69, 70]).extract k.val (k.val + 1) = ⟨[Rf.ch k.val].toArray⟩ := by decide +kernel

set_option maxHeartbeats 1000000 in
theorem digits_any (N base k : Nat) (w : World) (hN : N < 4194304) (hb : base = 10 ∨ base = 16) (hk : k ≤ 31) :
    Calls Tryd.prog 19 #[.int .i64 N, .int .i64 base, .int .i64 k] w fun e w' => e = .returned (.string ⟨(Rf.nums base k N).toArray⟩) ∧ Below w.heap.size w w' := by
  have hb2 : 2 ≤ base ∧ base ≤ 16 := by omega
  have hb0 : ((base : Int) == 0) = false := by simp; omega
  have hb0' : ¬ (base : Int) = 0 := by omega
  go_enter Tryd.func19, Tryd.ntmps19
  go_wp2
  go_loopw [0, 7] (fun n s wr => ∃ (n' : Nat) (s' : List UInt8), n = .int .i64 n' ∧ s = .string ⟨s'.toArray⟩ ∧ n' ≤ N ∧ ((s' = [] ∧ n' = N) ∨ (s' ≠ [] ∧ Rf.dd base n' ++ s' = Rf.dg base N)) ∧ Below w.heap.size w wr) (fun n s _ => (RowKit.intOf n).toNat + sz0 s)
  case atStart => exact ⟨N, [], rfl, rfl, Nat.le_refl _, .inl ⟨rfl, rfl⟩, Below.refl _ _⟩
  case round =>
    obtain ⟨n, s, rfl, rfl, hn, hs, hB⟩ := hrel
    have hlen : s.length ≤ N + 1 := by
      rcases hs with ⟨rfl, _⟩ | ⟨_, h⟩
      · simp
      · have h1 := congrArg List.length h
        have h2 := Rf.dd_length hb2.1 N
        unfold Rf.dg at h1
        rw [List.length_append] at h1
        split at h1
        · simp at h1; omega
        · omega
    by_cases hgo : 0 < n ∨ s = []
    · obtain ⟨r, hr⟩ : ∃ r, n % base = r := ⟨_, rfl⟩
      have hr16 : r < 16 := by have := Nat.mod_lt n (show base > 0 by omega); omega
      have hm : Int.tmod (n : Int) (base : Int) = (r : Int) := by rw [← hr]; rfl
      have hcut := chCut0 ⟨r, hr16⟩
      dsimp only at hcut
      obtain ⟨q, hq⟩ : ∃ q, n / base = q := ⟨_, rfl⟩
      have hdv : Int.tdiv (n : Int) (base : Int) = (q : Int) := by rw [← hq]; rfl
      have hnew : Rf.ch r :: s ≠ [] ∧ Rf.dd base q ++ (Rf.ch r :: s) = Rf.dg base N := by
        refine ⟨by simp, ?_⟩
        by_cases h0 : n = 0
        · subst h0
          have hs0 : s = [] := by rcases hgo with h | h; omega; exact h
          subst hs0
          have hN0 : N = 0 := by rcases hs with ⟨_, h⟩ | ⟨h, _⟩; omega; exact absurd rfl h
          subst hN0
          rw [← hq, ← hr, Nat.zero_div, Nat.zero_mod, Rf.dd_zero]
          rfl
        · have e : Rf.dd base n ++ s = Rf.dd base q ++ (Rf.ch r :: s) := by
            rw [Rf.dd_pos hb2.1 (by omega), hq, hr, List.append_assoc]
            rfl
          rw [← e]
          rcases hs with ⟨rfl, rfl⟩ | ⟨_, h⟩
          · rw [List.append_nil]; unfold Rf.dg; rw [if_neg h0]
          · exact h
      have hqn : q ≤ n := by rw [← hq]; exact Nat.div_le_self _ _
      have hqlt : 0 < n → q < n := fun h => by rw [← hq]; exact Nat.div_lt_self h (by omega)
      have HNEW := hide' hnew
      have g4 : 1 + s.length ≤ 9223372036854775807 := by omega
      have happ := strAppend [Rf.ch r] s
      have hsz : sz0 (.string ⟨(Rf.ch r :: s).toArray⟩) = 0 := by simp [sz0, ByteArray.size]
      have hN0 : n = 0 → s = [] → N = 0 := fun h1 h2 => by rcases hs with ⟨_, h⟩ | ⟨h, _⟩; omega; exact absurd h2 h
      clear hs hr hq hnew
      by_cases h0 : 0 < n
      · have g1 : (0 : Int) < n := by omega
        clear hgo
        go_wp2
        go_quiet (fail)
        go_wp2
        exact ⟨⟨q, Rf.ch r :: s, rfl, rfl, by omega, .inr HNEW.out, below_drewN hB nq⟩, by rw [hsz]; simp [RowKit.intOf]; omega⟩
      · have hs0 : s = [] := by rcases hgo with h | h; omega; exact h
        subst hs0
        have hn0 : n = 0 := by omega
        subst hn0
        have hq0 : q = 0 := by omega
        have g1 : ¬ (0 : Int) < ((0 : Nat) : Int) := by omega
        have hsz2 : sz0 (.string ⟨([] : List UInt8).toArray⟩) = 1 := by simp [sz0, ByteArray.size]
        have hN00 := hN0 rfl rfl
        have z1 : (ByteArray.mk #[48, 49, 50, 51, 52, 53, 54, 55, 56, 57, 97, 98, 99, 100, 101, 102, 65, 66, 67, 68, 69, 70]).extract 0 1 ++ ⟨#[]⟩ = ⟨[48].toArray⟩ := by decide +kernel
        have HZ := hide' z1
        clear hgo z1
        go_wp2
        go_quiet (fail)
        go_wp2
        rw [HZ.out]
        refine ⟨⟨0, [48], rfl, rfl, by omega, .inr ⟨by simp, ?_⟩, below_drewN hB nq⟩, ?_⟩
        · rw [hN00, Rf.dd_zero]; rfl
        · have e : sz0 (.string ⟨([48] : List UInt8).toArray⟩) = 0 := by simp [sz0, ByteArray.size]
          rw [e, hsz2]
          simp [RowKit.intOf]
    · have hn0 : n = 0 := by omega
      have hs0 : s ≠ [] := fun e => hgo (.inr e)
      subst hn0
      have hsd : s = Rf.dg base N := by
        rcases hs with ⟨h, _⟩ | ⟨_, h⟩
        · exact absurd h hs0
        · rw [Rf.dd_zero] at h; exact h
      have g1 : ¬ (0 : Int) < ((0 : Nat) : Int) := by omega
      have g2 : s.isEmpty = false := by simpa using hs0
      have HSD := hide' hsd
      clear hs hgo hsd hs0
      go_wp2
      obtain ⟨w0, hw0⟩ : ∃ w0, wr = w0 := ⟨_, rfl⟩
      rw [hw0] at hB
      go_loopw [7, 28] (fun t i w1 => ∃ i' : Nat, i = .int .i64 i' ∧ i' ≤ k ∧ t = .string ⟨(List.replicate i' 48 ++ s).toArray⟩ ∧ w1 = w0) (fun _ i _ => k - (RowKit.intOf i).toNat)
      case atStart => exact ⟨0, rfl, Nat.zero_le _, rfl, hw0⟩
      case round =>
        obtain ⟨i, rfl, hik, rfl, rfl⟩ := hrel
        by_cases hlt : i < k
        · have g3 : (i : Int) < k := by omega
          have happ := strAppend [48] (List.replicate i 48 ++ s)
          have g4 : 1 + (i + s.length) ≤ 9223372036854775807 := by omega
          go_wp2
          go_roundw
          case rel => exact ⟨i + 1, by go_num, by omega, by rw [List.replicate_succ]; rfl, trivial⟩
          case measure => simp [RowKit.intOf]; omega
        · obtain rfl : i = k := by omega
          have g3 : ¬ (i : Int) < i := by omega
          go_wp2
          go_ret
          exact ⟨by rw [HSD.out]; rfl, hB⟩
end Go.Proofs.YtbbbokkfhfmoeaaDoor
