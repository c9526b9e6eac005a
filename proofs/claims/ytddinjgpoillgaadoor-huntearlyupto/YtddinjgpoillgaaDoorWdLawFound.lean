/-
  WALKS over words.Ends, the document's Begins and Ends, and gimletlaw03.WordsFound.
-/
import Derived.Test.YtddinjgpoillgaaDoorWdStands
import Derived.Test.YtddinjgpoillgaaDoorWdCmp
import Derived.Test.YtddinjgpoillgaaDoorWdAwake
namespace Go.Proofs.YtddinjgpoillgaaDoor
open Go.RowKit

namespace Wd
theorem lg_zero (a : Nat) (L : List Nat) : lg (a :: L) 0 = a := rfl
theorem lg_succ (a : Nat) (L : List Nat) (i : Nat) : lg (a :: L) (i + 1) = lg L i := rfl
theorem lg_drop (L : List Nat) (k i : Nat) : lg (L.drop k) i = lg L (k + i) := by simp [lg, List.getElem?_drop]
/-- one text begins with the other -/
theorem fu_begins : ∀ L P : List Nat, (fu L P).2 = -1 ↔ 0 + P.length ≤ L.length ∧ St (lg L) (lg P) P.length 0
  | [], [] => by simp [fu, St]
  | [], b :: P => by
    simp only [fu, List.length_cons, List.length_nil]
    omega
  | a :: L, [] => by simp [fu, St]
  | a :: L, b :: P => by
    simp only [fu]
    by_cases h : a = b
    · subst h
      rw [if_pos rfl, fu_begins L P]
      simp only [List.length_cons]
      constructor
      · rintro ⟨h1, h2⟩
        refine ⟨by omega, fun i hi => ?_⟩
        cases i with
        | zero => rfl
        | succ i =>
          have := h2 i (by omega)
          rw [Nat.zero_add] at this ⊢
          rw [lg_succ, lg_succ]
          exact this
      · rintro ⟨h1, h2⟩
        refine ⟨by omega, fun i hi => ?_⟩
        have := h2 (i + 1) (by omega)
        rw [Nat.zero_add] at this ⊢
        rwa [lg_succ, lg_succ] at this
    · rw [if_neg h]
      simp only [List.length_cons]
      constructor
      · intro h1
        omega
      · rintro ⟨_, h2⟩
        exact absurd (h2 0 (by omega)) h
/-- where the character of that number begins, the rest is the characters from there on -/
theorem byt_from (f : Nat → Nat) (n : Nat) (hf : ∀ j, f j < 256) : ∀ fuel p k x, n ≤ p + fuel → (Rn.chFrom f n hf fuel p)[k]? = some x → R f n x.1.1 = (R f n p).drop k
  | 0, p, k, x, _, h => by simp [Rn.chFrom] at h
  | fuel + 1, p, k, x, hfu, h => by
    unfold Rn.chFrom at h
    by_cases hp : p < n
    · rw [dif_pos hp] at h
      have hd := Rn.dec_pos (Rn.off f p) (n - p) (fun _ => hf _) (by omega)
      cases k with
      | zero =>
        simp at h
        subst h
        rfl
      | succ k =>
        rw [List.getElem?_cons_succ] at h
        rw [byt_from f n hf fuel _ k x (by omega) h, R_step f n p hf hp, List.drop_succ_cons]
    · rw [dif_neg hp] at h
      simp at h
theorem byt_R (f : Nat → Nat) (n : Nat) (hf : ∀ j, f j < 256) (k : Nat) (hk : k ≤ (R f n 0).length) : ∃ at', Rn.byt (Rn.chs f n hf) k = (at', 0) ∧ at' ≤ n ∧ R f n at' = (R f n 0).drop k := by
  have hl : (Rn.chs f n hf).length = (R f n 0).length := by
    rw [← R_rl f n hf]
    simp [Rn.rl]
  unfold Rn.byt
  rcases h : (Rn.chs f n hf)[k]? with _ | x
  · have h1 := List.getElem?_eq_none_iff.1 h
    have e : k = (Rn.chs f n hf).length := by omega
    refine ⟨n, ?_, Nat.le_refl _, ?_⟩
    · simp only [if_pos e]
    · rw [R_end f n n (Nat.lt_irrefl _), List.drop_eq_nil_of_le (by omega)]
  · exact ⟨x.1.1, rfl, Nat.le_of_lt x.2.1, byt_from f n hf n 0 k x (by omega) h⟩
end Wd

theorem saysB_eq {a b : Bool} {P : Prop} (ha : a = true ↔ P) (hb : b = true ↔ P) : a = b := by
  rw [Bool.eq_iff_iff, ha, hb]

set_option maxRecDepth 100000 in
set_option maxHeartbeats 2000000 in
theorem ends_any (f : Nat → Nat) (n : Nat) (g : Nat → Nat) (m : Nat) (w : World) (hf : ∀ j, f j < 256) (hg : ∀ j, g j < 256) (hn : n ≤ 1099511627776) (hm : m ≤ 1099511627776)
    (hT : Lib.Utf8Tabs 0 1 w) :
    Calls Tryd.prog 13 #[.string (Rn.arr f n), .string (Rn.arr g m)] w fun e w' =>
      SaysB e ((Wd.R g m 0).length ≤ (Wd.R f n 0).length ∧ Wd.St (Wd.lg (Wd.R f n 0)) (Wd.lg (Wd.R g m 0)) (Wd.R g m 0).length ((Wd.R f n 0).length - (Wd.R g m 0).length)) ∧ Below w.heap.size w w' := by
  have c1 := length_any f n w hf (by omega)
  have c2 := fun w1 => length_any g m w1 hg (by omega)
  have hl1 := Wd.R_length f n 0 hf
  have hl2 := Wd.R_length g m 0 hg
  have hsz := Rn.arr_size f n
  by_cases hle : (Wd.R g m 0).length ≤ (Wd.R f n 0).length
  · obtain ⟨k, hk⟩ : ∃ k, k = (Wd.R f n 0).length - (Wd.R g m 0).length := ⟨_, rfl⟩
    obtain ⟨p, e1, e2, e3⟩ := Wd.byt_R f n hf k (by omega)
    have c3 := fun w1 => byte_pos f n k w1 hf (by omega)
    rw [e1] at c3
    have c4 : ∀ w1, Below w.heap.size w w1 → _ := fun w1 hb => wBegins_any (Rn.off f p) (n - p) g m w1 (fun _ => hf _) hg (tabs_below hT hb (Nat.le_refl _))
    rw [Wd.R_shift f n p 0 hf e2, Nat.add_zero, e3] at c4
    have hx : (Rn.arr f n).extract p n = Rn.arr (Rn.off f p) (n - p) := Rn.arr_extract f n p n e2 (Nat.le_refl _)
    have hfin := Wd.fu_begins ((Wd.R f n 0).drop k) (Wd.R g m 0)
    have hdl : ((Wd.R f n 0).drop k).length = (Wd.R g m 0).length := by rw [List.length_drop]; omega
    have hsub : ((Wd.R f n 0).length : Int) - ((Wd.R g m 0).length : Int) = (k : Int) := by omega
    have HF : Hid (∀ b : Bool, b = decide ((Wd.fu ((Wd.R f n 0).drop k) (Wd.R g m 0)).2 = -1) → (b = true ↔ (Wd.R g m 0).length ≤ (Wd.R f n 0).length ∧ Wd.St (Wd.lg (Wd.R f n 0)) (Wd.lg (Wd.R g m 0)) (Wd.R g m 0).length ((Wd.R f n 0).length - (Wd.R g m 0).length))) := by
      intro b hb
      rw [hb, decide_eq_true_eq, hfin, hdl, ← hk]
      constructor
      · rintro ⟨_, h⟩
        exact ⟨hle, fun i hi => by have := h i hi; rwa [Nat.zero_add, Wd.lg_drop] at this⟩
      · rintro ⟨_, h⟩
        exact ⟨by omega, fun i hi => by have := h i hi; rwa [Nat.zero_add, Wd.lg_drop]⟩
    clear hfin hdl e1 e3 hT hk hle
    generalize decide ((Wd.fu ((Wd.R f n 0).drop k) (Wd.R g m 0)).2 = -1) = bb at *
    generalize (Wd.R f n 0).length = L1 at *
    generalize (Wd.R g m 0).length = L2 at *
    go_enter Tryd.func13, Tryd.ntmps13
    go_wp2_with fail
    refine c1.mono ?_
    rintro e w1 ⟨rfl, hb1⟩
    go_wp2_with fail
    refine (c2 w1).mono ?_
    rintro e w2 ⟨rfl, hb2⟩
    have hB2 := hb1.trans (hb2.mono hb1.size)
    go_wp2_with fail
    refine (c3 w2).mono ?_
    rintro e w3 ⟨rfl, hb3⟩
    have hB3 := hB2.trans (hb3.mono hB2.size)
    go_wp2_with fail
    refine (c4 w3 hB3).mono ?_
    rintro e w4 ⟨rfl, hb4⟩
    have hB4 := hB3.trans (hb4.mono hB3.size)
    go_wp2_with fail
    go_ret
    exact ⟨⟨bb, rfl, HF.out bb rfl⟩, hB4⟩
  · have c3 := fun w1 => byte_neg f n (((Wd.R f n 0).length : Int) - ((Wd.R g m 0).length : Int)) w1 (by omega)
    have HF : Hid (¬ ((Wd.R g m 0).length ≤ (Wd.R f n 0).length ∧ Wd.St (Wd.lg (Wd.R f n 0)) (Wd.lg (Wd.R g m 0)) (Wd.R g m 0).length ((Wd.R f n 0).length - (Wd.R g m 0).length))) := fun h => hle h.1
    clear hle hT
    generalize (Wd.R f n 0).length = L1 at *
    generalize (Wd.R g m 0).length = L2 at *
    go_enter Tryd.func13, Tryd.ntmps13
    go_wp2_with fail
    refine c1.mono ?_
    rintro e w1 ⟨rfl, hb1⟩
    go_wp2_with fail
    refine (c2 w1).mono ?_
    rintro e w2 ⟨rfl, hb2⟩
    have hB2 := hb1.trans (hb2.mono hb1.size)
    go_wp2_with fail
    refine (c3 w2).mono ?_
    rintro e w3 ⟨rfl, hb3⟩
    have hB3 := hB2.trans (hb3.mono hB2.size)
    go_wp2_with fail
    go_ret
    exact ⟨⟨false, rfl, by simpa using HF.out⟩, hB3⟩

end Go.Proofs.YtddinjgpoillgaaDoor
