/-
  WALKS over the document's Bytes, Read and All.
-/
import Derived.Test.YtploppaocpbnlaaDoorChRead
namespace Go.Proofs.YtploppaocpbnlaaDoor
open Go.RowKit Go.Lib

theorem bytes_alloc (w : World) (xs : Array Value) (t : TypeId) (n : Nat) (g : Nat → Nat) (h : ∀ j, j < n → xs[j]? = some (.int .u8 (g j : Nat))) : Bytes (w.alloc (.cells xs t)) w.heap.size 0 n g := by
  intro j hj
  rw [Nat.zero_add]
  have e : (w.alloc (.cells xs t)).cell? ⟨w.heap.size, j, none⟩ = xs[j]? := by simp
  rw [e, h j hj]
set_option maxRecDepth 100000 in
set_option maxHeartbeats 1000000 in
theorem refBytes_any (v : Nat) (w : World) (hv : v ≤ 1114111) :
    Calls Tryd.prog 41 #[.int .i64 v] w fun e w' => e = .returned (.slice (some ⟨w.heap.size, 0, none⟩) (Ch.rl v) (Ch.rl v)) ∧ Bytes w' w.heap.size 0 (Ch.rl v) (Ch.rb v) ∧ Below w.heap.size w w' := by
  have hc : v < 128 ∨ (¬ v < 128 ∧ v < 2048) ∨ (¬ v < 128 ∧ ¬ v < 2048 ∧ v < 65536) ∨ (¬ v < 128 ∧ ¬ v < 2048 ∧ ¬ v < 65536) := by omega
  rcases hc with c1 | ⟨c1, c2⟩ | ⟨c1, c2, c3⟩ | ⟨c1, c2, c3⟩
  · have d1 : (v : Int) < 128 := by omega
    have el : Ch.rl v = 1 := by unfold Ch.rl; rw [if_pos c1]
    have HB : Hid (∀ j, j < 1 → ∀ z : Int, z = ((Ch.rb v j : Nat) : Int) → Value.int .u8 z = .int .u8 (Ch.rb v j : Nat)) := fun j _ z hz => by rw [hz]
    have HR : Hid (Ch.rb v = fun j => v) := by
      show Ch.rb v = _
      funext j
      unfold Ch.rb
      rw [if_pos c1]
    rw [el]
    clear el
    go_enter Tryd.func41, Tryd.ntmps41
    go_wp2
    go_ret
    refine ⟨rfl, bytes_alloc w _ _ 1 _ (fun j hj => ?_), (Below.refl _ _).alloc (Nat.le_refl _) _⟩
    have hj4 : j = 0 := by omega
    subst hj4
    exact congrArg some (HB.out 0 (by omega) _ (by rw [HR.out]))
  · have d1 : ¬ (v : Int) < 128 := by omega
    have d2 : (v : Int) < 2048 := by omega
    have el : Ch.rl v = 2 := by unfold Ch.rl; rw [if_neg c1, if_pos c2]
    have HB : Hid (∀ j, j < 2 → ∀ z : Int, z = ((Ch.rb v j : Nat) : Int) → Value.int .u8 z = .int .u8 (Ch.rb v j : Nat)) := fun j _ z hz => by rw [hz]
    have HR : Hid (Ch.rb v = fun j => if j = 0 then 192 + v / 64 else 128 + v % 64) := by
      show Ch.rb v = _
      funext j
      unfold Ch.rb
      rw [if_neg c1, if_pos c2]
    rw [el]
    clear el
    go_enter Tryd.func41, Tryd.ntmps41
    go_wp2
    go_ret
    refine ⟨rfl, bytes_alloc w _ _ 2 _ (fun j hj => ?_), (Below.refl _ _).alloc (Nat.le_refl _) _⟩
    have hj4 : j = 0 ∨ j = 1 := by omega
    rcases hj4 with rfl | rfl
    · exact congrArg some (HB.out 0 (by omega) _ (by rw [HR.out]; simp))
    · exact congrArg some (HB.out 1 (by omega) _ (by rw [HR.out]; simp))
  · have d1 : ¬ (v : Int) < 128 := by omega
    have d2 : ¬ (v : Int) < 2048 := by omega
    have d3 : (v : Int) < 65536 := by omega
    have el : Ch.rl v = 3 := by unfold Ch.rl; rw [if_neg c1, if_neg c2, if_pos c3]
    have HB : Hid (∀ j, j < 3 → ∀ z : Int, z = ((Ch.rb v j : Nat) : Int) → Value.int .u8 z = .int .u8 (Ch.rb v j : Nat)) := fun j _ z hz => by rw [hz]
    have HR : Hid (Ch.rb v = fun j => if j = 0 then 224 + v / 4096 else if j = 1 then 128 + v / 64 % 64 else 128 + v % 64) := by
      show Ch.rb v = _
      funext j
      unfold Ch.rb
      rw [if_neg c1, if_neg c2, if_pos c3]
    rw [el]
    clear el
    go_enter Tryd.func41, Tryd.ntmps41
    go_wp2
    go_ret
    refine ⟨rfl, bytes_alloc w _ _ 3 _ (fun j hj => ?_), (Below.refl _ _).alloc (Nat.le_refl _) _⟩
    have hj4 : j = 0 ∨ j = 1 ∨ j = 2 := by omega
    rcases hj4 with rfl | rfl | rfl
    · exact congrArg some (HB.out 0 (by omega) _ (by rw [HR.out]; simp))
    · exact congrArg some (HB.out 1 (by omega) _ (by rw [HR.out]; simp))
    · exact congrArg some (HB.out 2 (by omega) _ (by rw [HR.out]; simp))
  · have d1 : ¬ (v : Int) < 128 := by omega
    have d2 : ¬ (v : Int) < 2048 := by omega
    have d3 : ¬ (v : Int) < 65536 := by omega
    have el : Ch.rl v = 4 := by unfold Ch.rl; rw [if_neg c1, if_neg c2, if_neg c3]
    have HB : Hid (∀ j, j < 4 → ∀ z : Int, z = ((Ch.rb v j : Nat) : Int) → Value.int .u8 z = .int .u8 (Ch.rb v j : Nat)) := fun j _ z hz => by rw [hz]
    have HR : Hid (Ch.rb v = fun j => if j = 0 then 240 + v / 262144 else if j = 1 then 128 + v / 4096 % 64 else if j = 2 then 128 + v / 64 % 64 else 128 + v % 64) := by
      show Ch.rb v = _
      funext j
      unfold Ch.rb
      rw [if_neg c1, if_neg c2, if_neg c3]
    rw [el]
    clear el
    go_enter Tryd.func41, Tryd.ntmps41
    go_wp2
    go_ret
    refine ⟨rfl, bytes_alloc w _ _ 4 _ (fun j hj => ?_), (Below.refl _ _).alloc (Nat.le_refl _) _⟩
    have hj4 : j = 0 ∨ j = 1 ∨ j = 2 ∨ j = 3 := by omega
    rcases hj4 with rfl | rfl | rfl | rfl
    · exact congrArg some (HB.out 0 (by omega) _ (by rw [HR.out]; simp))
    · exact congrArg some (HB.out 1 (by omega) _ (by rw [HR.out]; simp))
    · exact congrArg some (HB.out 2 (by omega) _ (by rw [HR.out]; simp))
    · exact congrArg some (HB.out 3 (by omega) _ (by rw [HR.out]; simp))

/-- of a text from a place on: the first bytes as bytes of their own -/
theorem conv_part (f : Nat → Nat) (n : Nat) (w : World) (hf : ∀ j, f j < 256) (hbig : n ≤ 70368744177664) :
    ∃ cap W, (convert 9 33 (.string (Rn.arr f n))).run Tryd.prog w = .ok (.slice (some ⟨w.heap.size, 0, none⟩) n cap) W ∧ n ≤ cap ∧ cap ≤ maxLen ∧ Bytes W w.heap.size 0 n f ∧ Below w.heap.size w W := by
  have h := Lib.run_convert_string_bytes (P := Tryd.prog) w 9 33 5 (Rn.arr f n) Tryd.underlying9 Tryd.underlying33 Tryd.underlying5
  rw [Rn.arr_size] at h
  exact ⟨_, _, h, grownCap_ge _ _ _ _, grownCap_le_maxLen _ _ _ _ (by unfold maxLen; omega), bytes_bytesWorld w 5 f n hf, below_bytesWorld w 5 _⟩

theorem Rn.arr_same (a b : Nat → Nat) (k n : Nat) (ha : ∀ j, a j < 256) (hb : ∀ j, b j < 256) : ((Rn.arr a k).toList == (Rn.arr b n).toList) = true ↔ k = n ∧ ∀ j, j < n → a j = b j := by
  rw [ByteArray.toList_eq, ByteArray.toList_eq, beq_iff_eq]
  constructor
  · intro h
    have hl : k = n := by
      have := congrArg List.length h
      simpa [Rn.arr] using this
    subst hl
    refine ⟨rfl, fun j hj => ?_⟩
    have h2 := congrArg (fun l => l[j]?) h
    simp [Rn.arr, hj] at h2
    have h3 := congrArg UInt8.toNat h2
    have := ha j
    have := hb j
    simp at h3
    omega
  · rintro ⟨rfl, h⟩
    apply List.ext_getElem
    · simp [Rn.arr]
    · intro i h1 h2
      simp [Rn.arr] at h1 ⊢
      rw [h i h1]

namespace Ch
/-- what Read answers -/
def rd (g : Nat → Nat) (L : Nat) : Int × Int := if Rn.whole g L then ((Rn.fv g : Int), (Rn.fs g L : Int)) else (0, 0)
theorem rd_no {g : Nat → Nat} {L : Nat} (h : Rn.whole g L = false) : rd g L = (0, 0) := by unfold rd; rw [h]; rfl
theorem rd_yes {g : Nat → Nat} {L : Nat} (h : Rn.whole g L = true) : rd g L = ((Rn.fv g : Int), (Rn.fs g L : Int)) := by unfold rd; rw [h]; rfl
end Ch

end Go.Proofs.YtploppaocpbnlaaDoor
