import Derived.Test.YtcmjipgigkalcaaDoorChSpan
import Derived.Test.YtcmjipgigkalcaaDoorChValid
import Derived.Test.YtcmjipgigkalcaaDoorRnMm
import Derived.Deep.RegionHeld
import Derived.Deep.QuietTactic
import Derived.BigQuiet
/-
  WALKS over the document's Bytes, Read and All; the mathematics of reading a character.
-/
namespace Go.Proofs.YtcmjipgigkalcaaDoor
open Go.RowKit Go.Lib

namespace Ch
/-- the document's bytes of a number -/
def rl (v : Nat) : Nat := if v < 128 then 1 else if v < 2048 then 2 else if v < 65536 then 3 else 4
def rb (v : Nat) : Nat → Nat := fun j =>
  if v < 128 then v
  else if v < 2048 then (if j = 0 then 192 + v / 64 else 128 + v % 64)
  else if v < 65536 then (if j = 0 then 224 + v / 4096 else if j = 1 then 128 + v / 64 % 64 else 128 + v % 64)
  else (if j = 0 then 240 + v / 262144 else if j = 1 then 128 + v / 4096 % 64 else if j = 2 then 128 + v / 64 % 64 else 128 + v % 64)
theorem rb_lt (v : Nat) (hv : v ≤ 1114111) : ∀ j, rb v j < 256 := by
  intro j
  unfold rb
  repeat' split
  all_goals omega
/-- bytes that are the document's of a number are its encoding, but for the gap -/
theorem enc_of_rb (g : Nat → Nat) (n v : Nat) (hv : v ≤ 1114111) (hn : rl v = n) (h : ∀ j, j < n → rb v j = g j) (hs : ¬ (55296 ≤ v ∧ v ≤ 57343)) : Rn.Enc g n v := by
  have a0 := h 0
  have a1 := h 1
  have a2 := h 2
  have a3 := h 3
  unfold rl at hn
  unfold rb at a0 a1 a2 a3
  by_cases c1 : v < 128
  · simp only [c1, if_true] at hn a0
    exact .one (by omega) (by rw [← a0 (by omega)]) c1
  · by_cases c2 : v < 2048
    · simp only [c1, c2, if_false, if_true] at hn a0 a1
      exact .two (by omega) (by rw [← a0 (by omega)]) (by rw [← a1 (by omega)]; rfl) (by omega) c2
    · by_cases c3 : v < 65536
      · simp only [c1, c2, c3, if_false, if_true] at hn a0 a1 a2
        exact .three (by omega) (by rw [← a0 (by omega)]) (by rw [← a1 (by omega)]; rfl) (by rw [← a2 (by omega)]; rfl) (by omega) c3 (by omega)
      · simp only [c1, c2, c3, if_false, if_true] at hn a0 a1 a2 a3
        exact .four (by omega) (by rw [← a0 (by omega)]) (by rw [← a1 (by omega)]; rfl) (by rw [← a2 (by omega)]; rfl) (by rw [← a3 (by omega)]; rfl) (by omega) (by omega)
theorem rb_of_enc {g : Nat → Nat} {n v : Nat} (h : Rn.Enc g n v) : rl v = n ∧ ∀ j, j < n → rb v j = g j := by
  have four : ∀ {n j : Nat}, j < n → n ≤ 4 → j = 0 ∨ j = 1 ∨ j = 2 ∨ j = 3 := by omega
  cases h with
  | one hn h0 hv =>
    subst hn
    refine ⟨by unfold rl; rw [if_pos hv], fun j hj => ?_⟩
    obtain rfl : j = 0 := by omega
    unfold rb; rw [if_pos hv, h0]
  | two hn h0 h1 hv hv2 =>
    subst hn
    refine ⟨by unfold rl; rw [if_neg (by omega), if_pos hv2], fun j hj => ?_⟩
    have hj2 : j = 0 ∨ j = 1 := by omega
    unfold rb; rw [if_neg (by omega), if_pos hv2]
    rcases hj2 with rfl | rfl
    · rw [h0]; rfl
    · rw [h1]; rfl
  | three hn h0 h1 h2 hv hv2 hv3 =>
    subst hn
    refine ⟨by unfold rl; rw [if_neg (by omega), if_neg (by omega), if_pos hv2], fun j hj => ?_⟩
    have hj2 : j = 0 ∨ j = 1 ∨ j = 2 := by omega
    unfold rb; rw [if_neg (by omega), if_neg (by omega), if_pos hv2]
    rcases hj2 with rfl | rfl | rfl
    · rw [h0]; rfl
    · rw [h1]; rfl
    · rw [h2]; rfl
  | four hn h0 h1 h2 h3 hv hv2 =>
    subst hn
    refine ⟨by unfold rl; rw [if_neg (by omega), if_neg (by omega), if_neg (by omega)], fun j hj => ?_⟩
    have hj2 := four hj (Nat.le_refl _)
    unfold rb; rw [if_neg (by omega), if_neg (by omega), if_neg (by omega)]
    rcases hj2 with rfl | rfl | rfl | rfl
    · rw [h0]; rfl
    · rw [h1]; rfl
    · rw [h2]; rfl
    · rw [h3]; rfl
theorem enc_congr {f g : Nat → Nat} {n v : Nat} (h : Rn.Enc f n v) (e : ∀ j, j < n → f j = g j) : Rn.Enc g n v := by
  cases h with
  | one hn h0 hv => exact .one hn (by rw [← e 0 (by omega)]; exact h0) hv
  | two hn h0 h1 hv hv2 => exact .two hn (by rw [← e 0 (by omega)]; exact h0) (by rw [← e 1 (by omega)]; exact h1) hv hv2
  | three hn h0 h1 h2 hv hv2 hv3 => exact .three hn (by rw [← e 0 (by omega)]; exact h0) (by rw [← e 1 (by omega)]; exact h1) (by rw [← e 2 (by omega)]; exact h2) hv hv2 hv3
  | four hn h0 h1 h2 h3 hv hv2 => exact .four hn (by rw [← e 0 (by omega)]; exact h0) (by rw [← e 1 (by omega)]; exact h1) (by rw [← e 2 (by omega)]; exact h2) (by rw [← e 3 (by omega)]; exact h3) hv hv2
/-- an encoding at the front -/
theorem whole_more {g : Nat → Nat} {n v L : Nat} (h : Rn.Enc g n v) (hL : n ≤ L) : Rn.whole g L = true ∧ Rn.fs g L = n ∧ Rn.fv g = v := by
  have hp := h.pos
  have hs := h.fs
  have hk := h.fk
  have e := Rn.fk_min g hL (by omega)
  have e2 := Rn.fk_le_fs g L
  have e3 : Rn.fs g L = n := by unfold Rn.fs; rw [if_neg (by omega)]; exact hs
  exact ⟨by simp only [Rn.whole, decide_eq_true_eq]; omega, e3, h.fv⟩
theorem enc_whole {g : Nat → Nat} {L : Nat} (h : Rn.whole g L = true) : Rn.Enc g (Rn.fs g L) (Rn.fv g) := by
  obtain ⟨h1, h2⟩ := Rn.enc_fv g L h
  have hsc := Rn.fv_scal g L h
  have hw : (Rn.want (Rn.fv g : Nat)).toNat = Rn.fv g := by
    unfold Rn.want
    unfold Rn.scal at hsc
    rw [if_neg (by omega)]
    omega
  have E := Rn.eb_enc (Rn.fv g : Nat)
  rw [hw, h1] at E
  exact enc_congr E h2
/-- of an encoding the document's two numbers are one -/
theorem span_enc {g : Nat → Nat} {n v : Nat} (h : Rn.Enc g n v) : span g n = ((v : Int), (v : Int)) := by
  have key : ∀ K, kdK (g 0) = K → n = K → tails g (n - 1) = true → fst g (n - 1) = v → kdL (g 0) ≤ v → v ≤ 1114111 → 0 < n → n ≤ 4 → span g n = ((v : Int), (v : Int)) := by
    intro K h1 h2 h3 h4 h5 h6 h7 h8
    have hh := span_in g n (by omega) h3
    rw [h4, h1, ← h2, Nat.sub_self, up0, dn0] at hh
    exact Prod.ext (by rw [hh.1]; simp only; omega) (by rw [hh.2]; simp only; omega)
  cases h with
  | one hn h0 hv =>
    subst hn
    rcases kd_cases (g 0) with ⟨g1, hK, hF, hL⟩ | ⟨g1, g2, hK, hF, hL⟩ | ⟨g1, g2, hK, hF, hL⟩ | ⟨g1, g2, hK, hF, hL⟩ | ⟨g1, g2, hK, hF, hL⟩ | ⟨g1, hK, hF, hL⟩
    · exact key 1 hK rfl rfl (by rw [show (1 - 1) = 0 from rfl, fst0]; omega) (by omega) (by omega) (by omega) (by omega)
    all_goals omega
  | two hn h0 h1 hv hv2 =>
    subst hn
    rcases kd_cases (g 0) with ⟨g1, hK, hF, hL⟩ | ⟨g1, g2, hK, hF, hL⟩ | ⟨g1, g2, hK, hF, hL⟩ | ⟨g1, g2, hK, hF, hL⟩ | ⟨g1, g2, hK, hF, hL⟩ | ⟨g1, hK, hF, hL⟩
    · omega
    · exact key 2 hK rfl (by rw [show (2 - 1) = 1 from rfl, tails1, decide_eq_true (by omega)]) (by rw [show (2 - 1) = 1 from rfl, fst1]; omega) (by omega) (by omega) (by omega) (by omega)
    all_goals omega
  | three hn h0 h1 h2 hv hv2 hv3 =>
    subst hn
    rcases kd_cases (g 0) with ⟨g1, hK, hF, hL⟩ | ⟨g1, g2, hK, hF, hL⟩ | ⟨g1, g2, hK, hF, hL⟩ | ⟨g1, g2, hK, hF, hL⟩ | ⟨g1, g2, hK, hF, hL⟩ | ⟨g1, hK, hF, hL⟩
    · omega
    · omega
    · exact key 3 hK rfl (by rw [show (3 - 1) = 2 from rfl, tails2, decide_eq_true (by omega), decide_eq_true (by omega)]; rfl) (by rw [show (3 - 1) = 2 from rfl, fst2]; omega) (by omega) (by omega) (by omega) (by omega)
    all_goals omega
  | four hn h0 h1 h2 h3 hv hv2 =>
    subst hn
    rcases kd_cases (g 0) with ⟨g1, hK, hF, hL⟩ | ⟨g1, g2, hK, hF, hL⟩ | ⟨g1, g2, hK, hF, hL⟩ | ⟨g1, g2, hK, hF, hL⟩ | ⟨g1, g2, hK, hF, hL⟩ | ⟨g1, hK, hF, hL⟩
    · omega
    · omega
    · omega
    · exact key 4 hK rfl (by rw [show (4 - 1) = 3 from rfl, tails3, decide_eq_true (by omega), decide_eq_true (by omega), decide_eq_true (by omega)]; rfl) (by rw [show (4 - 1) = 3 from rfl, fst3]; omega) (by omega) (by omega) (by omega) (by omega)
    all_goals omega
/-- the document's two numbers lie where numbers lie -/
theorem span_range (g : Nat → Nat) (n : Nat) (h : (span g n).1 = (span g n).2) : 0 ≤ (span g n).1 ∧ (span g n).1 ≤ 1114111 := by
  unfold span at h ⊢
  split
  · next c => rw [if_pos c] at h; simp at h
  · next c =>
    rw [if_neg c] at h
    split
    · next t => rw [t] at h; simp only [if_true] at h ⊢; omega
    · next t => simp only [Bool.not_eq_true] at t; rw [t] at h; simp at h
/-- what stands in the gap is no character -/
theorem gap_bad {g : Nat → Nat} {n v L : Nat} (hn : rl v = n) (h : ∀ j, j < n → rb v j = g j) (hs : 55296 ≤ v ∧ v ≤ 57343) : Rn.whole g L = false := by
  have e3 : rl v = 3 := by unfold rl; rw [if_neg (by omega), if_neg (by omega), if_pos (by omega)]
  have a0 := h 0 (by omega)
  have a1 := h 1 (by omega)
  unfold rb at a0 a1
  rw [if_neg (by omega), if_neg (by omega), if_pos (by omega)] at a0 a1
  simp at a0 a1
  cases hw : Rn.whole g L
  · rfl
  · have E := enc_whole hw
    have h0 : g 0 = 237 := by omega
    exfalso
    cases E with
    | one hn h0 hv => omega
    | two hn h0 h1 hv hv2 => omega
    | three hn h0 h1 h2 hv hv2 hv3 => omega
    | four hn h0 h1 h2 h3 hv hv2 => omega
end Ch
end Go.Proofs.YtcmjipgigkalcaaDoor
/-
  WALKS over the document's Bytes, Read and All.
-/
namespace Go.Proofs.YtcmjipgigkalcaaDoor
open Go.RowKit Go.Lib

theorem bytes_alloc (w : World) (xs : Array Value) (t : TypeId) (n : Nat) (g : Nat → Nat) (h : ∀ j, j < n → xs[j]? = some (.int .u8 (g j : Nat))) : Bytes (w.alloc (.cells xs t)) w.heap.size 0 n g := by
  intro j hj
  rw [Nat.zero_add]
  have e : (w.alloc (.cells xs t)).cell? ⟨w.heap.size, j, none⟩ = xs[j]? := by simp
  rw [e, h j hj]
set_option maxRecDepth 100000 in
set_option maxHeartbeats 1000000 in
theorem refBytes_any (v : Nat) (w : World) (hv : v ≤ 1114111) :
    Calls Tryd.prog 65 #[.int .i64 v] w fun e w' => e = .returned (.slice (some ⟨w.heap.size, 0, none⟩) (Ch.rl v) (Ch.rl v)) ∧ Bytes w' w.heap.size 0 (Ch.rl v) (Ch.rb v) ∧ Below w.heap.size w w' := by
  have hc : v < 128 ∨ (¬ v < 128 ∧ v < 2048) ∨ (¬ v < 128 ∧ ¬ v < 2048 ∧ v < 65536) ∨ (¬ v < 128 ∧ ¬ v < 2048 ∧ ¬ v < 65536) := by omega
  rcases hc with c1 | ⟨c1, c2⟩ | ⟨c1, c2, c3⟩ | ⟨c1, c2, c3⟩
  · have d1 : (v : Int) < 128 := by omega
    have el : Ch.rl v = 1 := by unfold Ch.rl; rw [if_pos c1]
    have HB : Hid (∀ j, j < 1 → ∀ z : Int, z = ((Ch.rb v j : Nat) : Int) → Value.int .u8 z = .int .u8 (Ch.rb v j : Nat)) := fun j _ z hz => by rw [hz]
    have HR : Hid (Ch.rb v = fun j => v) := by
      show Ch.rb v = _
      funext j
      unfold Ch.rb
      rw [if_pos c1]
    rw [el]
    clear el
    go_enter Tryd.func65, Tryd.ntmps65
    go_wp2
    go_ret
    refine ⟨rfl, bytes_alloc w _ _ 1 _ (fun j hj => ?_), (Below.refl _ _).alloc (Nat.le_refl _) _⟩
    have hj4 : j = 0 := by omega
    subst hj4
    exact congrArg some (HB.out 0 (by omega) _ (by rw [HR.out]))
  · have d1 : ¬ (v : Int) < 128 := by omega
    have d2 : (v : Int) < 2048 := by omega
    have el : Ch.rl v = 2 := by unfold Ch.rl; rw [if_neg c1, if_pos c2]
    have HB : Hid (∀ j, j < 2 → ∀ z : Int, z = ((Ch.rb v j : Nat) : Int) → Value.int .u8 z = .int .u8 (Ch.rb v j : Nat)) := fun j _ z hz => by rw [hz]
    have HR : Hid (Ch.rb v = fun j => if j = 0 then 192 + v / 64 else 128 + v % 64) := by
      show Ch.rb v = _
      funext j
      unfold Ch.rb
      rw [if_neg c1, if_pos c2]
    rw [el]
    clear el
    go_enter Tryd.func65, Tryd.ntmps65
    go_wp2
    go_ret
    refine ⟨rfl, bytes_alloc w _ _ 2 _ (fun j hj => ?_), (Below.refl _ _).alloc (Nat.le_refl _) _⟩
    have hj4 : j = 0 ∨ j = 1 := by omega
    rcases hj4 with rfl | rfl
    · exact congrArg some (HB.out 0 (by omega) _ (by rw [HR.out]; simp))
    · exact congrArg some (HB.out 1 (by omega) _ (by rw [HR.out]; simp))
  · have d1 : ¬ (v : Int) < 128 := by omega
    have d2 : ¬ (v : Int) < 2048 := by omega
    have d3 : (v : Int) < 65536 := by omega
    have el : Ch.rl v = 3 := by unfold Ch.rl; rw [if_neg c1, if_neg c2, if_pos c3]
    have HB : Hid (∀ j, j < 3 → ∀ z : Int, z = ((Ch.rb v j : Nat) : Int) → Value.int .u8 z = .int .u8 (Ch.rb v j : Nat)) := fun j _ z hz => by rw [hz]
    have HR : Hid (Ch.rb v = fun j => if j = 0 then 224 + v / 4096 else if j = 1 then 128 + v / 64 % 64 else 128 + v % 64) := by
      show Ch.rb v = _
      funext j
      unfold Ch.rb
      rw [if_neg c1, if_neg c2, if_pos c3]
    rw [el]
    clear el
    go_enter Tryd.func65, Tryd.ntmps65
    go_wp2
    go_ret
    refine ⟨rfl, bytes_alloc w _ _ 3 _ (fun j hj => ?_), (Below.refl _ _).alloc (Nat.le_refl _) _⟩
    have hj4 : j = 0 ∨ j = 1 ∨ j = 2 := by omega
    rcases hj4 with rfl | rfl | rfl
    · exact congrArg some (HB.out 0 (by omega) _ (by rw [HR.out]; simp))
    · exact congrArg some (HB.out 1 (by omega) _ (by rw [HR.out]; simp))
    · exact congrArg some (HB.out 2 (by omega) _ (by rw [HR.out]; simp))
  · have d1 : ¬ (v : Int) < 128 := by omega
    have d2 : ¬ (v : Int) < 2048 := by omega
    have d3 : ¬ (v : Int) < 65536 := by omega
    have el : Ch.rl v = 4 := by unfold Ch.rl; rw [if_neg c1, if_neg c2, if_neg c3]
    have HB : Hid (∀ j, j < 4 → ∀ z : Int, z = ((Ch.rb v j : Nat) : Int) → Value.int .u8 z = .int .u8 (Ch.rb v j : Nat)) := fun j _ z hz => by rw [hz]
    have HR : Hid (Ch.rb v = fun j => if j = 0 then 240 + v / 262144 else if j = 1 then 128 + v / 4096 % 64 else if j = 2 then 128 + v / 64 % 64 else 128 + v % 64) := by
      show Ch.rb v = _
      funext j
      unfold Ch.rb
      rw [if_neg c1, if_neg c2, if_neg c3]
    rw [el]
    clear el
    go_enter Tryd.func65, Tryd.ntmps65
    go_wp2
    go_ret
    refine ⟨rfl, bytes_alloc w _ _ 4 _ (fun j hj => ?_), (Below.refl _ _).alloc (Nat.le_refl _) _⟩
    have hj4 : j = 0 ∨ j = 1 ∨ j = 2 ∨ j = 3 := by omega
    rcases hj4 with rfl | rfl | rfl | rfl
    · exact congrArg some (HB.out 0 (by omega) _ (by rw [HR.out]; simp))
    · exact congrArg some (HB.out 1 (by omega) _ (by rw [HR.out]; simp))
    · exact congrArg some (HB.out 2 (by omega) _ (by rw [HR.out]; simp))
    · exact congrArg some (HB.out 3 (by omega) _ (by rw [HR.out]; simp))

/-- of a text from a place on: the first bytes as bytes of their own -/
theorem conv_part (f : Nat → Nat) (n : Nat) (w : World) (hf : ∀ j, f j < 256) (hbig : n ≤ 70368744177664) :
    ∃ cap W, (convert 9 69 (.string (Rn.arr f n))).run Tryd.prog w = .ok (.slice (some ⟨w.heap.size, 0, none⟩) n cap) W ∧ n ≤ cap ∧ cap ≤ maxLen ∧ Bytes W w.heap.size 0 n f ∧ Below w.heap.size w W := by
  have h := Lib.run_convert_string_bytes (P := Tryd.prog) w 9 69 5 (Rn.arr f n) Tryd.underlying9 Tryd.underlying69 Tryd.underlying5
  rw [Rn.arr_size] at h
  exact ⟨_, _, h, grownCap_ge _ _ _ _, grownCap_le_maxLen _ _ _ _ (by unfold maxLen; omega), bytes_bytesWorld w 5 f n hf, below_bytesWorld w 5 _⟩

theorem Rn.arr_same (a b : Nat → Nat) (k n : Nat) (ha : ∀ j, a j < 256) (hb : ∀ j, b j < 256) : ((Rn.arr a k).toList == (Rn.arr b n).toList) = true ↔ k = n ∧ ∀ j, j < n → a j = b j := by
  rw [ByteArray.toList_eq, ByteArray.toList_eq, beq_iff_eq]
  constructor
  · intro h
    have hl : k = n := by
      have := congrArg List.length h
      simpa [Rn.arr] using this
    subst hl
    refine ⟨rfl, fun j hj => ?_⟩
    have h2 := congrArg (fun l => l[j]?) h
    simp [Rn.arr, hj] at h2
    have h3 := congrArg UInt8.toNat h2
    have := ha j
    have := hb j
    simp at h3
    omega
  · rintro ⟨rfl, h⟩
    apply List.ext_getElem
    · simp [Rn.arr]
    · intro i h1 h2
      simp [Rn.arr] at h1 ⊢
      rw [h i h1]

namespace Ch
/-- what Read answers -/
def rd (g : Nat → Nat) (L : Nat) : Int × Int := if Rn.whole g L then ((Rn.fv g : Int), (Rn.fs g L : Int)) else (0, 0)
theorem rd_no {g : Nat → Nat} {L : Nat} (h : Rn.whole g L = false) : rd g L = (0, 0) := by unfold rd; rw [h]; rfl
theorem rd_yes {g : Nat → Nat} {L : Nat} (h : Rn.whole g L = true) : rd g L = ((Rn.fv g : Int), (Rn.fs g L : Int)) := by unfold rd; rw [h]; rfl
end Ch

end Go.Proofs.YtcmjipgigkalcaaDoor
/-
  THE WALK over the document's Read.
-/
namespace Go.Proofs.YtcmjipgigkalcaaDoor
open Go.RowKit Go.Lib

set_option maxRecDepth 100000 in
set_option maxHeartbeats 2000000 in
theorem read_any (f : Nat → Nat) (n p : Nat) (w : World) (hf : ∀ j, f j < 256) (hn : n ≤ 4611686018427387904) (hp : p < n) :
    Calls Tryd.prog 51 #[.string (Rn.arr f n), .int .i64 p] w fun e w' =>
      e = .returned (.tuple #[.int .i64 (Ch.rd (Rn.off f p) (n - p)).1, .int .i64 (Ch.rd (Rn.off f p) (n - p)).2]) ∧ Below w.heap.size w w' := by
  have hsz := Rn.arr_size f n
  have hg : ∀ j, Rn.off f p j < 256 := fun j => hf _
  go_enter Tryd.func51, Tryd.ntmps51
  go_wp2
  go_loopw [6] (fun i wr => ∃ k : Nat, i = .int .i64 k ∧ 1 ≤ k ∧ k ≤ 5 ∧ Below w.heap.size w wr ∧ (Rn.whole (Rn.off f p) (n - p) = true → k ≤ Rn.fs (Rn.off f p) (n - p))) (fun i _ => 5 - (RowKit.intOf i).toNat)
  case atStart => exact ⟨1, rfl, by omega, by omega, Below.refl _ _, fun h => by simp only [Rn.whole, decide_eq_true_eq] at h; omega⟩
  case round =>
    obtain ⟨k, rfl, hk1, hk5, hB, hfs⟩ := hrel
    have hs4 := Rn.fs_le (Rn.off f p) (n - p)
    have hfl := Rn.fk_le (Rn.off f p) (n - p)
    have hend : (k = 5 ∨ n < p + k) → Rn.whole (Rn.off f p) (n - p) = false := by
      intro h
      cases hw : Rn.whole (Rn.off f p) (n - p)
      · rfl
      · have h1 := hfs hw
        simp only [Rn.whole, decide_eq_true_eq] at hw
        omega
    by_cases hk4 : k = 5
    · have hw := hend (.inl hk4)
      have HW := hide' (Ch.rd_no hw)
      have d1 : ¬ (k : Int) ≤ 4 := by omega
      clear hend hw hfs
      go_wp2_with fail
      exact bodyPost_ret (v := .tuple #[.int .i64 0, .int .i64 0]) (by simp [results, Tryd.results51, go_sem]) rfl ⟨by rw [HW.out], hB⟩
    · have d1 : (k : Int) ≤ 4 := by omega
      by_cases hpn : n < p + k
      · have hw := hend (.inr hpn)
        have HW := hide' (Ch.rd_no hw)
        have d2 : ¬ (p : Int) + k ≤ n := by omega
        clear hend hw hfs
        go_wp2_with fail
        exact bodyPost_ret (v := .tuple #[.int .i64 0, .int .i64 0]) (by simp [results, Tryd.results51, go_sem]) rfl ⟨by rw [HW.out], hB⟩
      · have d2 : (p : Int) + k ≤ n := by omega
        clear hend
        have hx : (Rn.arr f n).extract p (p + k) = Rn.arr (Rn.off f p) k := by
          rw [Rn.arr_extract f n p (p + k) (by omega) (by omega)]
          congr 1
          omega
        obtain ⟨cap, W, hcv, hc1, hc2, hby, hbW⟩ := conv_part (Rn.off f p) k wr hg (by omega)
        have hBW := hB.trans (hbW.mono hB.size)
        have cS := span_any (Rn.off f p) (some ⟨wr.heap.size, 0, none⟩) k cap W hg (by omega) hc1 (.inr ⟨_, _, rfl, hby⟩)
        have hstep : ∀ v : Nat, (∃ c : Bool, ((Rn.arr (Ch.rb v) (Ch.rl v)).toList == (Rn.arr (Rn.off f p) k).toList) = c) := fun v => ⟨_, rfl⟩
        have henc : Rn.whole (Rn.off f p) (n - p) = true → Rn.fs (Rn.off f p) (n - p) = k → Ch.span (Rn.off f p) k = ((Rn.fv (Rn.off f p) : Int), (Rn.fv (Rn.off f p) : Int)) ∧ Ch.rl (Rn.fv (Rn.off f p)) = k ∧ ∀ j, j < k → Ch.rb (Rn.fv (Rn.off f p)) j = Rn.off f p j := by
          intro hw he
          have E := Ch.enc_whole hw
          rw [he] at E
          exact ⟨Ch.span_enc E, Ch.rb_of_enc E⟩
        have hrg := Ch.span_range (Rn.off f p) k
        have hin : k ≤ n - p := by omega
        by_cases he : (Ch.span (Rn.off f p) k).1 = (Ch.span (Rn.off f p) k).2
        · obtain ⟨v, hv⟩ : ∃ v : Nat, (Ch.span (Rn.off f p) k).1 = v := ⟨(Ch.span (Rn.off f p) k).1.toNat, by have := (hrg he).1; omega⟩
          have hvr : v ≤ 1114111 := by have := (hrg he).2; omega
          have hv2 : (Ch.span (Rn.off f p) k).2 = v := by rw [← he]; exact hv
          have hsame := Rn.arr_same (Ch.rb v) (Rn.off f p) (Ch.rl v) k (Ch.rb_lt v hvr) hg
          have cB := fun w1 => refBytes_any v w1 hvr
          have hrb := Ch.rb_lt v hvr
          rw [hv, hv2] at cS
          cases hc : ((Rn.arr (Ch.rb v) (Ch.rl v)).toList == (Rn.arr (Rn.off f p) k).toList)
          · have hnext : Rn.whole (Rn.off f p) (n - p) = true → k + 1 ≤ Rn.fs (Rn.off f p) (n - p) := by
              intro hw
              have h1 := hfs hw
              by_cases h2 : Rn.fs (Rn.off f p) (n - p) = k
              · obtain ⟨q1, q2, q3⟩ := henc hw h2
                have ev : v = Rn.fv (Rn.off f p) := by
                  have := hv
                  rw [q1] at this
                  simp only at this
                  omega
                subst ev
                have := hsame.2 ⟨q2, q3⟩
                rw [hc] at this
                cases this
              · omega
            have HX := hide' hnext
            clear hnext hfs henc hsame he hrg hv hv2 hstep
            go_wp2_with fail
            refine cS.mono ?_
            rintro e w1 ⟨rfl, hb1⟩
            have hB1 := hBW.trans (hb1.mono hBW.size)
            clear cS
            go_wp2_with fail
            have hD1 := hB1.drew
            have hwr : IntKind.i64.wrap ((p : Int) + (k : Int)) = (p : Int) + (k : Int) := by rw [IntKind.wrap_i64]; omega
            have s1 : (0 : Int) ≤ (p : Int) := by omega
            have s2 : (p : Int) ≤ (p : Int) + (k : Int) := by omega
            have s3 : (0 : Int) ≤ (p : Int) + (k : Int) := by omega
            have s4 : (p : Int) ≤ (n : Int) := by omega
            have hx2 : (Rn.arr f n).extract p ((p : Int) + (k : Int)).toNat = Rn.arr (Rn.off f p) k := by rw [show ((p : Int) + (k : Int)).toNat = p + k by omega]; exact hx
            rw [← hx2] at hc
            clear hx2
            have hvv : ((v : Int) == (v : Int)) = true := by simp
            go_region_held (fun _ => True) (trivial) (first | (go_at_call 65; refine (cB w1.drew).mono ?_; rintro e w2 ⟨rfl, hby2, hb2⟩; have hB2 := hD1.trans (hb2.mono hD1.size); have hst := bytes_string w2 w1.heap.size 0 (Ch.rl v) (Ch.rl v) (Ch.rb v) hrb hby2))
            clear cB
            go_wp2_with fail
            go_roundw
            case rel => exact ⟨k + 1, by go_num, by omega, by omega, hB2, HX.out⟩
            case measure => simp [RowKit.intOf]; omega
          · obtain ⟨q1, q2⟩ := hsame.1 hc
            by_cases hsur : 55296 ≤ v ∧ v ≤ 57343
            · have HW := hide' (Ch.rd_no (Ch.gap_bad (L := n - p) q1 q2 hsur))
              have z1 : (55296 : Int) ≤ v := by omega
              have z2 : (v : Int) ≤ 57343 := by omega
              clear hfs henc hsame he hrg hv hv2 hstep q1 q2 hsur
              go_wp2_with fail
              refine cS.mono ?_
              rintro e w1 ⟨rfl, hb1⟩
              have hB1 := hBW.trans (hb1.mono hBW.size)
              clear cS
              go_wp2_with fail
              have hD1 := hB1.drew
              have hwr : IntKind.i64.wrap ((p : Int) + (k : Int)) = (p : Int) + (k : Int) := by rw [IntKind.wrap_i64]; omega
              have s1 : (0 : Int) ≤ (p : Int) := by omega
              have s2 : (p : Int) ≤ (p : Int) + (k : Int) := by omega
              have s3 : (0 : Int) ≤ (p : Int) + (k : Int) := by omega
              have s4 : (p : Int) ≤ (n : Int) := by omega
              have hx2 : (Rn.arr f n).extract p ((p : Int) + (k : Int)).toNat = Rn.arr (Rn.off f p) k := by rw [show ((p : Int) + (k : Int)).toNat = p + k by omega]; exact hx
              rw [← hx2] at hc
              clear hx2
              have hvv : ((v : Int) == (v : Int)) = true := by simp
              go_region_held (fun _ => True) (trivial) (first | (go_at_call 65; refine (cB w1.drew).mono ?_; rintro e w2 ⟨rfl, hby2, hb2⟩; have hB2 := hD1.trans (hb2.mono hD1.size); have hst := bytes_string w2 w1.heap.size 0 (Ch.rl v) (Ch.rl v) (Ch.rb v) hrb hby2))
              clear cB
              go_wp2_with fail
              exact bodyPost_ret (v := .tuple #[.int .i64 0, .int .i64 0]) (by simp [results, Tryd.results51, go_sem]) rfl ⟨by rw [HW.out], hB2⟩
            · obtain ⟨u1, u2, u3⟩ := Ch.whole_more (Ch.enc_of_rb (Rn.off f p) k v hvr q1 q2 hsur) hin
              have hrd := Ch.rd_yes u1
              rw [u2, u3] at hrd
              have HW := hide' hrd
              have hz : (v : Int) < 55296 ∨ ((55296 : Int) ≤ v ∧ (57343 : Int) < (v : Int)) := by omega
              clear hfs henc hsame he hrg hv hv2 hstep q1 q2 hsur u1 u2 u3 hrd
              obtain ⟨V, hV⟩ : ∃ V : Int, (v : Int) = V := ⟨_, rfl⟩
              simp only [hV] at cS cB HW hz
              clear hV
              rcases hz with z1 | ⟨z1, z2⟩
              all_goals
                go_wp2_with fail
                refine cS.mono ?_
                rintro e w1 ⟨rfl, hb1⟩
                have hB1 := hBW.trans (hb1.mono hBW.size)
                clear cS
                go_wp2_with fail
                have hD1 := hB1.drew
                have hwr : IntKind.i64.wrap ((p : Int) + (k : Int)) = (p : Int) + (k : Int) := by rw [IntKind.wrap_i64]; omega
                have s1 : (0 : Int) ≤ (p : Int) := by omega
                have s2 : (p : Int) ≤ (p : Int) + (k : Int) := by omega
                have s3 : (0 : Int) ≤ (p : Int) + (k : Int) := by omega
                have s4 : (p : Int) ≤ (n : Int) := by omega
                have hx2 : (Rn.arr f n).extract p ((p : Int) + (k : Int)).toNat = Rn.arr (Rn.off f p) k := by rw [show ((p : Int) + (k : Int)).toNat = p + k by omega]; exact hx
                rw [← hx2] at hc
                clear hx2
                have hvv : (V == V) = true := by simp
                go_region_held (fun _ => True) (trivial) (first | (go_at_call 65; refine (cB w1.drew).mono ?_; rintro e w2 ⟨rfl, hby2, hb2⟩; have hB2 := hD1.trans (hb2.mono hD1.size); have hst := bytes_string w2 w1.heap.size 0 (Ch.rl v) (Ch.rl v) (Ch.rb v) hrb hby2))
                clear cB hwr hc s1 s2 s3 s4 hvv hst hby2 hx hcv hvr hin hpn d2 hk4 hrb hfl hs4
                go_wp2_with fail
                exact bodyPost_ret (v := .tuple #[.int .i64 V, .int .i64 k]) (by simp [results, Tryd.results51, go_sem]) rfl ⟨by rw [HW.out], hB2⟩
        · have hne : ((Ch.span (Rn.off f p) k).1 == (Ch.span (Rn.off f p) k).2) = false := by simpa using he
          have hnext : Rn.whole (Rn.off f p) (n - p) = true → k + 1 ≤ Rn.fs (Rn.off f p) (n - p) := by
            intro hw
            have h1 := hfs hw
            by_cases h2 : Rn.fs (Rn.off f p) (n - p) = k
            · obtain ⟨q1, q2, q3⟩ := henc hw h2
              rw [q1] at he
              exact absurd rfl he
            · omega
          have HX := hide' hnext
          clear hnext hfs henc he hrg hstep
          generalize Ch.span (Rn.off f p) k = sp at *
          go_wp2_with fail
          refine cS.mono ?_
          rintro e w1 ⟨rfl, hb1⟩
          have hB1 := hBW.trans (hb1.mono hBW.size)
          clear cS
          go_wp2_with fail
          go_quiet (fail)
          go_wp2_with fail
          go_roundw
          case rel => exact ⟨k + 1, by go_num, by omega, by omega, below_drewN hB1 _, HX.out⟩
          case measure => simp [RowKit.intOf]; omega
end Go.Proofs.YtcmjipgigkalcaaDoor
/-
  WALKS over the document's All, Name and Texts; THE WALK over gimletlaw02.CharsTexts: of any text.
-/
namespace Go.Proofs.YtcmjipgigkalcaaDoor
open Go.RowKit Go.Lib

namespace Ch
theorem av_step (f : Nat → Nat) (n : Nat) (d : Int) (fuel p : Nat) (c : Int) (hf : ∀ j, f j < 256) (h : p < n) :
    (allFrom f n d (fuel + 1) p c && V f n p) = (Rn.whole (Rn.off f p) (n - p) && isR (rg c) (Rn.fv (Rn.off f p)) && (allFrom f n d fuel (p + Rn.fs (Rn.off f p) (n - p)) d && V f n (p + Rn.fs (Rn.off f p) (n - p)))) := by
  have hw := dec_wrong (Rn.off f p) (n - p) (fun _ => hf _) (by omega)
  have hd := Rn.dec_whole (Rn.off f p) (n - p) (fun _ => hf _) (by omega)
  rw [allFrom_step f n d fuel p c h, V_step f n p hf h, isT_eq]
  cases hc : Rn.whole (Rn.off f p) (n - p)
  · rw [if_pos (hw.2 hc)]
    simp
  · rw [if_neg (fun e => by rw [hw.1 e] at hc; cases hc)]
    rw [hc] at hd
    simp only [if_true] at hd
    rw [hd]
    simp only [Bool.true_and]
    rw [show rg c = pick tab c from rfl, Bool.and_assoc]
theorem av_end (f : Nat → Nat) (n : Nat) (d : Int) (fuel p : Nat) (c : Int) (h : ¬ p < n) : (allFrom f n d fuel p c && V f n p) = true := by
  rw [allFrom_end f n d fuel p c h, V_end f n p h]
  rfl
end Ch

set_option maxRecDepth 100000 in
set_option maxHeartbeats 2000000 in
theorem refAll_any (f : Nat → Nat) (n : Nat) (c0 d : Int) (w : World) (hf : ∀ j, f j < 256) (hn : n ≤ 4611686018427387904) :
    Calls Tryd.prog 40 #[.string (Rn.arr f n), .int .i64 c0, .int .i64 d] w fun e w' => e = .returned (.bool (Ch.allFrom f n d n 0 c0 && Ch.V f n 0)) ∧ Below w.heap.size w w' := by
  have hsz := Rn.arr_size f n
  obtain ⟨R, hR⟩ : ∃ R, (Ch.allFrom f n d n 0 c0 && Ch.V f n 0) = R := ⟨_, rfl⟩
  rw [hR]
  have HR := hide' hR
  clear hR
  go_enter Tryd.func40, Tryd.ntmps40
  go_wp2_with fail
  go_loopw [7, 8] (fun a b wr => ∃ (p fuel : Nat) (c : Int), a = .int .i64 c ∧ b = .int .i64 p ∧ p ≤ n ∧ n ≤ p + fuel ∧ Hid ((Ch.allFrom f n d fuel p c && Ch.V f n p) = R) ∧ Below w.heap.size w wr) (fun _ b _ => n - (RowKit.intOf b).toNat)
  case atStart => exact ⟨0, n, c0, rfl, rfl, Nat.zero_le _, by omega, HR, Below.refl _ _⟩
  case round =>
    clear HR
    obtain ⟨p, fuel, c, rfl, rfl, hp, hfu, hav, hB⟩ := hrel
    by_cases hlt : p < n
    · have hlti : (p : Int) < (n : Int) := by omega
      obtain ⟨fu, rfl⟩ : ∃ fu, fuel = fu + 1 := ⟨fuel - 1, by omega⟩
      have hs := Ch.av_step f n d fu p c hf hlt
      rw [hav.out] at hs
      have cR := read_any f n p wr hf hn hlt
      have hfl := Rn.fk_le (Rn.off f p) (n - p)
      have hs4 := Rn.fs_le (Rn.off f p) (n - p)
      cases hw : Rn.whole (Rn.off f p) (n - p)
      · rw [hw, Bool.false_and, Bool.false_and] at hs
        rw [Ch.rd_no hw] at cR
        subst hs
        clear hw hav hfl hs4
        go_wp2_with fail
        refine cR.mono ?_
        rintro e w1 ⟨rfl, hb1⟩
        have hB1 := hB.trans (hb1.mono hB.size)
        clear cR
        go_wp2_with fail
        go_ret
        exact ⟨rfl, hB1⟩
      · rw [hw, Bool.true_and] at hs
        rw [Ch.rd_yes hw] at cR
        have hw' := hw
        simp only [Rn.whole, decide_eq_true_eq] at hw'
        have h0 : 0 < Rn.fs (Rn.off f p) (n - p) := by omega
        have h1 : p + Rn.fs (Rn.off f p) (n - p) ≤ n := by omega
        have cI := fun w1 => refIs_any c (Rn.fv (Rn.off f p) : Int) w1
        clear hw' hw hav hfl
        generalize Rn.fs (Rn.off f p) (n - p) = k at *
        generalize ((Rn.fv (Rn.off f p) : Nat) : Int) = v at *
        have hk0 : ((k : Int) == 0) = false := by simp; omega
        have HS := hide' hs
        clear hs
        cases hI : Ch.isR (Ch.rg c) v
        · rw [hI] at cI
          have hs := HS.out
          rw [hI, Bool.false_and] at hs
          subst hs
          clear hI HS
          go_wp2_with fail
          refine cR.mono ?_
          rintro e w1 ⟨rfl, hb1⟩
          have hB1 := hB.trans (hb1.mono hB.size)
          clear cR
          go_wp2_with fail
          refine (cI w1).mono ?_
          rintro e w2 ⟨rfl, hb2⟩
          have hB2 := hB1.trans (hb2.mono hB1.size)
          clear cI
          go_wp2_with fail
          go_ret
          exact ⟨rfl, hB2⟩
        · rw [hI] at cI
          have hs := HS.out
          rw [hI, Bool.true_and] at hs
          have HS2 := hide' hs.symm
          clear hI HS hs
          go_wp2_with fail
          refine cR.mono ?_
          rintro e w1 ⟨rfl, hb1⟩
          have hB1 := hB.trans (hb1.mono hB.size)
          clear cR
          go_wp2_with fail
          refine (cI w1).mono ?_
          rintro e w2 ⟨rfl, hb2⟩
          have hB2 := hB1.trans (hb2.mono hB1.size)
          clear cI
          go_wp2_with fail
          go_roundw
          case rel => exact ⟨p + k, fu, d, rfl, by go_num, by omega, by omega, HS2, hB2⟩
          case measure => simp [RowKit.intOf]; omega
    · have he := hav.out
      rw [Ch.av_end f n d fuel p c hlt] at he
      subst he
      have hlti : ¬ (p : Int) < (n : Int) := by omega
      clear hav
      go_wp2_with fail
      go_ret
      exact ⟨rfl, hB⟩

theorem refTexts_any (f : Nat → Nat) (n : Nat) (w : World) (hf : ∀ j, f j < 256) (hn : n ≤ 4611686018427387904) :
    Calls Tryd.prog 28 #[.string (Rn.arr f n)] w fun e w' => e = .returned (.bool (Ch.allFrom f n 0 n 0 0 && Ch.V f n 0)) ∧ Below w.heap.size w w' := by
  have c := refAll_any f n 0 0 w hf hn
  generalize (Ch.allFrom f n 0 n 0 0 && Ch.V f n 0) = R at *
  go_enter Tryd.func28, Tryd.ntmps28
  go_wp2_with fail
  refine c.mono ?_
  rintro e w1 ⟨rfl, hb1⟩
  go_wp2_with fail
  go_ret
  exact ⟨rfl, hb1⟩

theorem refName_any (f : Nat → Nat) (n : Nat) (w : World) (hf : ∀ j, f j < 256) (hn : n ≤ 4611686018427387904) :
    Calls Tryd.prog 26 #[.string (Rn.arr f n)] w fun e w' => e = .returned (.bool (decide (0 < n) && (Ch.allFrom f n 3 n 0 2 && Ch.V f n 0))) ∧ Below w.heap.size w w' := by
  have c := refAll_any f n 2 3 w hf hn
  have hem := Rn.arr_empty f n
  generalize (Ch.allFrom f n 3 n 0 2 && Ch.V f n 0) = R at *
  by_cases h0 : 0 < n
  · rw [decide_eq_true h0, Bool.true_and]
    rw [decide_eq_false (show ¬ n = 0 by omega)] at hem
    go_enter Tryd.func26, Tryd.ntmps26
    go_wp2_with fail
    refine c.mono ?_
    rintro e w1 ⟨rfl, hb1⟩
    go_wp2_with fail
    go_ret
    exact ⟨rfl, hb1⟩
  · rw [decide_eq_false h0, Bool.false_and]
    rw [decide_eq_true (show n = 0 by omega)] at hem
    clear c
    go_enter Tryd.func26, Tryd.ntmps26
    go_wp2_with fail
    go_ret
    exact ⟨rfl, Below.refl _ _⟩

end Go.Proofs.YtcmjipgigkalcaaDoor
