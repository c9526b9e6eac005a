/-
  refs.Read: what it answers, and that this hangs on no byte behind its answer.
-/
import Derived.Test.YtbbbokkfhfmoeabDoorRfNames
import Derived.Test.YtbbbokkfhfmoeabDoorRfFix
namespace Go.Proofs.YtbbbokkfhfmoeabDoor
open Go.RowKit Go.Lib

namespace Rf
def rd (f : Nat → Nat) (n : Nat) : Nat × Nat × Nat :=
  if 0 < n ∧ f 0 ≠ 38 then (0, 0, 2) else if n < 2 then (0, 0, 1) else if f 1 ≠ 35 then nm f n else rdN f n

theorem cp_bound (f : Nat → Nat) (n : Nat) : ∀ (l : List UInt8) (a : Nat), a ≤ n → cp f n l a ≤ n
  | [], a, h => h
  | x :: r, a, h => by
    unfold cp
    split
    · next q => exact cp_bound f n r (a + 1) (by omega)
    · exact h
theorem cp_stay {f g : Nat → Nat} {n n' : Nat} (hg : ∀ j, j < n → f j = g j) (hn : n ≤ n') : ∀ (l : List UInt8) (a : Nat), cp f n l a < n → cp g n' l a = cp f n l a
  | [], a, _ => rfl
  | x :: r, a, h => by
    unfold cp at h ⊢
    by_cases q : a < n ∧ f a = x.toNat
    · rw [if_pos q] at h ⊢
      rw [if_pos ⟨by omega, by rw [← hg a q.1]; exact q.2⟩]
      exact cp_stay hg hn r (a + 1) h
    · rw [if_neg q] at h ⊢
      rw [if_neg (fun p => q ⟨h, by rw [hg a h]; exact p.2⟩)]
theorem cp_mk {f : Nat → Nat} {n : Nat} : ∀ (l : List UInt8) (a : Nat), (∀ j (h : j < l.length), a + j < n ∧ f (a + j) = (l[j]'h).toNat) → cp f n l a = a + l.length
  | [], a, _ => rfl
  | x :: r, a, h => by
    unfold cp
    have h0 := h 0 (by simp)
    rw [if_pos ⟨by omega, h0.2⟩, cp_mk r (a + 1) (fun j hj => by
      have := h (j + 1) (by simpa using hj)
      rw [show a + 1 + j = a + (j + 1) by omega]
      exact this)]
    simp only [List.length_cons]
    omega
theorem whl_len (s : List UInt8) : (whl s).length = s.length + 2 := by simp [whl]
theorem cmn_full_stay {f g : Nat → Nat} {n n' : Nat} (hg : ∀ j, j < n → f j = g j) (hn : n ≤ n') {s : List UInt8} (h : cmn f n s = s.length + 2) : cmn g n' s = s.length + 2 := by
  have k := cp_full f n (whl s) 0 (by rw [whl_len]; unfold cmn at h; omega)
  have := cp_mk (f := g) (n := n') (whl s) 0 (fun j hj => by
    have h9 := k j hj
    exact ⟨by omega, by rw [← hg _ h9.1]; exact h9.2⟩)
  unfold cmn
  rw [this, whl_len]
  omega
theorem cmn_bound (f : Nat → Nat) (n : Nat) (s : List UInt8) : cmn f n s ≤ n := cp_bound f n _ 0 (Nat.zero_le _)
theorem mxN_bound (f : Nat → Nat) (n : Nat) (left : Lit → Bool) : ∀ t : List (List UInt8 × Nat), mxN f n left t ≤ n
  | [] => Nat.zero_le _
  | e :: t => by
    have h1 := cmn_bound f n e.1
    have h3 := mxN_bound f n left t
    show max _ _ ≤ n
    split <;> omega
theorem mxN_ge (f : Nat → Nat) (n : Nat) : ∀ t : List (List UInt8 × Nat), ∀ e ∈ t, cmn f n e.1 ≤ mxN f n (fun _ => false) t
  | [], _, h => by cases h
  | x :: t, e, h => by
    show _ ≤ max (if false = true then 0 else cmn f n x.1) (mxN f n _ t)
    rw [if_neg (by decide)]
    rcases List.mem_cons.1 h with rfl | h
    · omega
    · have := mxN_ge f n t e h
      omega
theorem mxN_stay {f g : Nat → Nat} {n n' : Nat} : ∀ t : List (List UInt8 × Nat), (∀ e ∈ t, cmn g n' e.1 = cmn f n e.1) → mxN g n' (fun _ => false) t = mxN f n (fun _ => false) t
  | [], _ => rfl
  | x :: t, h => by
    show max (if false = true then 0 else cmn g n' x.1) (mxN g n' _ t) = max (if false = true then 0 else cmn f n x.1) (mxN f n _ t)
    rw [h x (List.mem_cons_self ..), mxN_stay t (fun e he => h e (List.mem_cons_of_mem _ he))]
/-- the three ways of a name -/
theorem nm_ways (f : Nat → Nat) (n : Nat) : (∃ e ∈ nmT, cmn f n e.1 = e.1.length + 2 ∧ nm f n = (e.2, e.1.length + 2, 0) ∧ e.1.length + 2 ≤ n) ∨ ((∀ e ∈ nmT, ¬ cmn f n e.1 = e.1.length + 2) ∧ mxN f n (fun _ => false) nmT = n ∧ nm f n = (0, 0, 1)) ∨ ((∀ e ∈ nmT, ¬ cmn f n e.1 = e.1.length + 2) ∧ mxN f n (fun _ => false) nmT < n ∧ nm f n = (0, mxN f n (fun _ => false) nmT, 2)) := by
  by_cases h : ∃ e ∈ nmT, cmn f n e.1 = e.1.length + 2
  · obtain ⟨e, he, hf⟩ := h
    have := cmn_bound f n e.1
    exact .inl ⟨e, he, hf, nm_full he hf, by omega⟩
  · have hno : ∀ e ∈ nmT, ¬ cmn f n e.1 = e.1.length + 2 := fun e he hf => h ⟨e, he, hf⟩
    have hn := nm_none hno
    have hb := mxN_bound f n (fun _ => false) nmT
    by_cases q : mxN f n (fun _ => false) nmT = n
    · rw [if_pos q] at hn
      exact .inr (.inl ⟨hno, q, hn⟩)
    · rw [if_neg q] at hn
      exact .inr (.inr ⟨hno, by omega, hn⟩)
/-- what is told of an answer: wait: nothing; bad: no character, ahead of the end; have: not beyond the end -/
def Fine (n : Nat) (x : Nat × Nat × Nat) : Prop := (x = (0, 0, 1)) ∨ (x.2.2 = 2 ∧ x.1 = 0 ∧ x.2.1 < n) ∨ (x.2.2 = 0 ∧ x.2.1 ≤ n ∧ x.1 ≤ 1114111)
theorem nm_fine (f : Nat → Nat) (n : Nat) : Fine n (nm f n) := by
  rcases nm_ways f n with ⟨e, he, _, h, hl⟩ | ⟨_, _, h⟩ | ⟨_, hl, h⟩
  · have := (nm_len he).2
    rw [h]; exact .inr (.inr ⟨rfl, hl, by simp only; omega⟩)
  · rw [h]; exact .inl rfl
  · rw [h]; exact .inr (.inl ⟨rfl, rfl, hl⟩)
theorem nm_stay {f g : Nat → Nat} {n n' : Nat} (hg : ∀ j, j < n → f j = g j) (hn : n ≤ n') (h : (nm f n).2.2 ≠ 1) : nm g n' = nm f n := by
  rcases nm_ways f n with ⟨e, he, hf, h1, hl⟩ | ⟨_, _, h1⟩ | ⟨hno, hl, h1⟩
  · rw [h1, nm_full he (cmn_full_stay hg hn hf)]
  · rw [h1] at h; exact absurd rfl h
  · have hc : ∀ e ∈ nmT, cmn g n' e.1 = cmn f n e.1 := fun e he => by
      have := mxN_ge f n nmT e he
      exact cp_stay hg hn _ 0 (show cmn f n e.1 < n by omega)
    rw [h1, nm_none (fun e he => by rw [hc e he]; exact hno e he), mxN_stay nmT hc, if_neg (by omega)]
theorem rn_fine (f : Nat → Nat) (base c : Nat) : ∀ (k a v : Nat), v ≤ 1114111 → Fine (a + k) (rn f base c k a v)
  | 0, a, v, _ => .inl rfl
  | k + 1, a, v, hv => by
    rw [rn_succ]
    by_cases h1 : isD c (f a) = true
    · rw [if_pos h1]
      by_cases h2 : 1114111 < v * base + dv (f a)
      · rw [if_pos h2]; exact .inr (.inl ⟨rfl, rfl, by simp only; omega⟩)
      · rw [if_neg h2]
        have := rn_fine f base c k (a + 1) (v * base + dv (f a)) (by omega)
        rw [show a + 1 + k = a + (k + 1) by omega] at this
        exact this
    · rw [if_neg h1]
      by_cases h2 : f a = 59 ∧ Ch.isT Ch.tab 0 (v : Int) = true
      · rw [if_pos h2]; exact .inr (.inr ⟨rfl, by simp only; omega, hv⟩)
      · rw [if_neg h2]; exact .inr (.inl ⟨rfl, rfl, by simp only; omega⟩)
theorem rn_stay {f g : Nat → Nat} (base c : Nat) {n : Nat} (hg : ∀ j, j < n → f j = g j) : ∀ (k k' a v : Nat), a + k = n → k ≤ k' → (rn f base c k a v).2.2 ≠ 1 → rn g base c k' a v = rn f base c k a v
  | 0, _, a, v, _, _, h => absurd rfl h
  | k + 1, k', a, v, ha, hk, h => by
    obtain ⟨k2, rfl⟩ : ∃ k2, k' = k2 + 1 := ⟨k' - 1, by omega⟩
    rw [rn_succ] at h ⊢
    rw [rn_succ, ← hg a (by omega)]
    by_cases h1 : isD c (f a) = true
    · rw [if_pos h1] at h ⊢
      rw [if_pos h1]
      by_cases h2 : 1114111 < v * base + dv (f a)
      · rw [if_pos h2, if_pos h2]
      · rw [if_neg h2] at h ⊢
        rw [if_neg h2]
        exact rn_stay base c hg k k2 (a + 1) _ (by omega) (by omega) h
    · rw [if_neg h1, if_neg h1]
theorem rdN_fine (f : Nat → Nat) (n : Nat) (h : 2 ≤ n) : Fine n (rdN f n) := by
  unfold rdN
  split
  · next q =>
    have := rn_fine f 16 5 (n - 3) 3 0 (by omega)
    rw [show 3 + (n - 3) = n by omega] at this
    exact this
  · have := rn_fine f 10 4 (n - 2) 2 0 (by omega)
    rw [show 2 + (n - 2) = n by omega] at this
    exact this
theorem rdN_stay {f g : Nat → Nat} {n n' : Nat} (h2 : 2 ≤ n) (hg : ∀ j, j < n → f j = g j) (hn : n ≤ n') (h : (rdN f n).2.2 ≠ 1) : rdN g n' = rdN f n := by
  by_cases h3 : 2 < n
  · unfold rdN at h ⊢
    rw [← hg 2 h3]
    by_cases q : f 2 = 120
    · rw [if_pos ⟨h3, q⟩] at h
      rw [if_pos ⟨by omega, q⟩, if_pos ⟨h3, q⟩]
      exact rn_stay 16 5 hg (n - 3) (n' - 3) 3 0 (by omega) (by omega) h
    · rw [if_neg (fun p => q p.2)] at h ⊢
      rw [if_neg (fun p => q p.2)]
      exact rn_stay 10 4 hg (n - 2) (n' - 2) 2 0 (by omega) (by omega) h
  · obtain rfl : n = 2 := by omega
    unfold rdN at h
    rw [if_neg (by omega)] at h
    exact absurd rfl h
theorem rd_fine (f : Nat → Nat) (n : Nat) : Fine n (rd f n) := by
  unfold rd
  split
  · next q => exact .inr (.inl ⟨rfl, rfl, q.1⟩)
  · split
    · exact .inl rfl
    · next q =>
      split
      · exact nm_fine f n
      · exact rdN_fine f n (by omega)
theorem rd_stay {f g : Nat → Nat} {n n' : Nat} (hg : ∀ j, j < n → f j = g j) (hn : n ≤ n') (h : (rd f n).2.2 ≠ 1) : rd g n' = rd f n := by
  unfold rd at h ⊢
  by_cases h0 : 0 < n ∧ f 0 ≠ 38
  · rw [if_pos h0, if_pos ⟨by omega, by rw [← hg 0 h0.1]; exact h0.2⟩]
  · rw [if_neg h0] at h ⊢
    by_cases h1 : n < 2
    · rw [if_pos h1] at h; exact absurd rfl h
    · rw [if_neg h1] at h ⊢
      have e0 : f 0 = 38 := by
        by_cases q : f 0 = 38
        · exact q
        · exact absurd ⟨by omega, q⟩ h0
      rw [if_neg (fun q => q.2 (by rw [← hg 0 (by omega)]; exact e0)), if_neg (by omega), ← hg 1 (by omega)]
      by_cases h2 : f 1 ≠ 35
      · rw [if_pos h2] at h ⊢
        rw [if_pos h2]
        exact nm_stay hg hn h
      · rw [if_neg h2] at h ⊢
        rw [if_neg h2]
        exact rdN_stay (by omega) hg hn h
theorem rd_ahead {f : Nat → Nat} {n i : Nat} (hi : i < (rd f n).2.1) : (rd f i).2.2 = 1 := by
  have hf := rd_fine f n
  have hle : (rd f n).2.1 ≤ n := by
    rcases hf with q | q | q
    · rw [q]; exact Nat.zero_le _
    · omega
    · exact q.2.1
  by_cases q : (rd f i).2.2 = 1
  · exact q
  · have e := rd_stay (f := f) (g := f) (n := i) (n' := n) (fun _ _ => rfl) (by omega) q
    have hfi := rd_fine f i
    rw [← e] at hfi
    rcases hfi with r | r | r
    · rw [r] at hi; exact absurd hi (Nat.not_lt_zero _)
    · omega
    · omega
theorem rd_waits {f : Nat → Nat} {n i : Nat} (h : (rd f n).2.2 = 1) (hi : i ≤ n) : (rd f i).2.2 = 1 := by
  by_cases q : (rd f i).2.2 = 1
  · exact q
  · rw [rd_stay (f := f) (g := f) (n := i) (n' := n) (fun _ _ => rfl) hi q] at h
    exact absurd h q
theorem rd_badat {f : Nat → Nat} {n : Nat} (h : (rd f n).2.2 = 2) : (rd f (rd f n).2.1).2.2 = 1 := by
  have hf := rd_fine f n
  have hle : (rd f n).2.1 < n := by
    rcases hf with q | q | q
    · rw [q] at h; cases h
    · exact q.2.2
    · omega
  by_cases q : (rd f (rd f n).2.1).2.2 = 1
  · exact q
  · have e := rd_stay (f := f) (g := f) (n := (rd f n).2.1) (n' := n) (fun _ _ => rfl) (by omega) q
    have hfi := rd_fine f (rd f n).2.1
    rw [← e] at hfi
    rcases hfi with r | r | r
    · rw [r] at h; cases h
    · omega
    · omega
theorem rd_congr {f g : Nat → Nat} {n : Nat} (hg : ∀ j, j < n → f j = g j) : rd f n = rd g n := by
  by_cases q : (rd f n).2.2 = 1
  · by_cases p : (rd g n).2.2 = 1
    · have k : ∀ x, Fine n x → x.2.2 = 1 → x = (0, 0, 1) := by
        intro x hx h1
        rcases hx with r | r | r
        · exact r
        · omega
        · omega
      rw [k _ (rd_fine f n) q, k _ (rd_fine g n) p]
    · exact rd_stay (fun j hj => (hg j hj).symm) (Nat.le_refl _) p
  · exact (rd_stay hg (Nat.le_refl _) q).symm
end Rf

set_option maxHeartbeats 1000000 in
theorem rfRead_any (f : Nat → Nat) (pa : Option Addr) (n cap : Nat) (w : World) (hS : Spans w) (hf : ∀ j, f j < 256) (hn : n ≤ 9223372036854775806)
    (hpa : 0 < n → ∃ b o, pa = some ⟨b, o, none⟩ ∧ Bytes w b o n f ∧ b < w.heap.size) :
    Calls Tryd.prog 6 #[.slice pa n cap] w fun e w' => e = .returned (Rf.rdV (Rf.rd f n)) ∧ Below w.heap.size w w' := by
  by_cases h0 : n = 0
  · subst h0
    have e : Rf.rd f 0 = (0, 0, 1) := by unfold Rf.rd; rw [if_neg (by omega), if_pos (by omega)]
    rw [e]
    go_enter Tryd.func6, Tryd.ntmps6
    go_wp2
    refine bodyPost_ret (v := Rf.rdV (0, 0, 1)) (by simp [Rf.rdV, results, Tryd.results6, go_sem]) rfl ⟨rfl, Below.refl _ _⟩
  · obtain ⟨b, o, rfl, hby, hbl⟩ := hpa (by omega)
    have b0 := hby 0 (by omega)
    rw [Nat.add_zero] at b0
    have g1 : (0 : Int) < (n : Int) := by omega
    by_cases h1 : f 0 = 38
    · by_cases h2 : n < 2
      · have e : Rf.rd f n = (0, 0, 1) := by unfold Rf.rd; rw [if_neg (fun q => q.2 h1), if_pos h2]
        rw [e]
        rw [h1] at b0
        have g2 : (n : Int) < 2 := by omega
        clear hby hpa hS
        go_enter Tryd.func6, Tryd.ntmps6
        go_wp2
        refine bodyPost_ret (v := Rf.rdV (0, 0, 1)) (by simp [Rf.rdV, results, Tryd.results6, go_sem]) rfl ⟨rfl, Below.refl _ _⟩
      · by_cases h3 : f 1 = 35
        · have e : Rf.rd f n = Rf.rdN f n := by unfold Rf.rd; rw [if_neg (fun q => q.2 h1), if_neg h2, if_neg (fun q => q h3)]
          rw [e]
          exact rfRead_num f _ n cap w hS hf hn (by omega) h1 h3 hpa
        · have e : Rf.rd f n = Rf.nm f n := by unfold Rf.rd; rw [if_neg (fun q => q.2 h1), if_neg h2, if_pos h3]
          have c := readName_any f _ n cap w hn hpa
          have b1 := hby 1 (by omega)
          rw [e]
          rw [h1] at b0
          obtain ⟨V, hV⟩ : ∃ V, Rf.nm f n = V := ⟨_, rfl⟩
          rw [hV] at c ⊢
          generalize f 1 = x at *
          have g2 : ¬ (n : Int) < 2 := by omega
          have g3 : ((x : Int) == 35) = false := by simp; omega
          clear hV hby hpa hS h3 e
          unfold Rf.rdV at c
          go_enter Tryd.func6, Tryd.ntmps6
          go_wp2_with fail
          refine c.mono ?_
          rintro e w1 ⟨rfl, hb1⟩
          go_wp2
          refine bodyPost_ret (v := Rf.rdV V) (by simp [Rf.rdV, results, Tryd.results6, go_sem]) rfl ⟨rfl, hb1⟩
    · have e : Rf.rd f n = (0, 0, 2) := by unfold Rf.rd; rw [if_pos ⟨by omega, h1⟩]
      rw [e]
      generalize f 0 = x at *
      have g3 : ((x : Int) == 38) = false := by simp; omega
      clear hby hpa hS h1 e
      go_enter Tryd.func6, Tryd.ntmps6
      go_wp2
      refine bodyPost_ret (v := Rf.rdV (0, 0, 2)) (by simp [Rf.rdV, results, Tryd.results6, go_sem]) rfl ⟨rfl, Below.refl _ _⟩
end Go.Proofs.YtbbbokkfhfmoeabDoor
