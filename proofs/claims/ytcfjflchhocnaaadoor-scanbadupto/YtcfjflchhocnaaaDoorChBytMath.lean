import Derived.Test.YtcfjflchhocnaaaDoorChBegins
import Derived.Test.YtcfjflchhocnaaaDoorRnEnc
/-
  THE WALK over the document's Ranges.
-/
namespace Go.Proofs.YtcfjflchhocnaaaDoor
open Go.RowKit Go.Lib

end Go.Proofs.YtcfjflchhocnaaaDoor
/-
  WALKS over the document's Is, Next and Count. (Made by gen_ref.py.)
-/
namespace Go.Proofs.YtcfjflchhocnaaaDoor
open Go.RowKit Go.Lib

namespace Ch
theorem rise_small {b : Nat} {l : List (Nat × Nat)} (h : rise b l = true) : ∀ p ∈ l, p.1 ≤ p.2 ∧ p.2 ≤ 1114111 := by
  induction l generalizing b with
  | nil => intro p hp; cases hp
  | cons q t ih =>
    obtain ⟨h1, h2, h3, h4⟩ := rise_cons h
    intro p hp
    rcases List.mem_cons.1 hp with rfl | hp
    · exact ⟨h2, h3⟩
    · exact ih h4 p hp
theorem rg_small (c : Int) : ∀ p ∈ rg c, p.1 ≤ p.2 ∧ p.2 ≤ 1114111 := rise_small (rg_rise c)
theorem isR_cons (p : Nat × Nat) (t : List (Nat × Nat)) (r : Int) : isR (p :: t) r = if (p.1 : Int) ≤ r ∧ r ≤ (p.2 : Int) then true else isR t r := rfl
theorem nextR_cons (p : Nat × Nat) (t : List (Nat × Nat)) (r : Int) : nextR (p :: t) r = if r < (p.2 : Int) then (max (p.1 : Int) (r + 1), true) else nextR t r := rfl
end Ch

end Go.Proofs.YtcfjflchhocnaaaDoor
/-
  THE WALK over the document's Span: the characters whose bytes begin with these.
-/
namespace Go.Proofs.YtcfjflchhocnaaaDoor
open Go.RowKit Go.Lib

namespace Ch
/-- by the first byte: how many bytes there are to be, what it adds, the least number -/
def kdK (x : Nat) : Nat := if x < 128 then 1 else if 192 ≤ x ∧ x < 224 then 2 else if 224 ≤ x ∧ x < 240 then 3 else if 240 ≤ x ∧ x < 248 then 4 else 0
def kdF (x : Nat) : Nat := if x < 128 then x else if 192 ≤ x ∧ x < 224 then x - 192 else if 224 ≤ x ∧ x < 240 then x - 224 else if 240 ≤ x ∧ x < 248 then x - 240 else 0
def kdL (x : Nat) : Nat := if x < 128 then 0 else if 192 ≤ x ∧ x < 224 then 128 else if 224 ≤ x ∧ x < 240 then 2048 else if 240 ≤ x ∧ x < 248 then 65536 else 0
theorem kd_cases (x : Nat) : (x < 128 ∧ kdK x = 1 ∧ kdF x = x ∧ kdL x = 0) ∨ (192 ≤ x ∧ x < 224 ∧ kdK x = 2 ∧ kdF x = x - 192 ∧ kdL x = 128) ∨ (224 ≤ x ∧ x < 240 ∧ kdK x = 3 ∧ kdF x = x - 224 ∧ kdL x = 2048) ∨
    (240 ≤ x ∧ x < 248 ∧ kdK x = 4 ∧ kdF x = x - 240 ∧ kdL x = 65536) ∨ (128 ≤ x ∧ x < 192 ∧ kdK x = 0 ∧ kdF x = 0 ∧ kdL x = 0) ∨ (248 ≤ x ∧ kdK x = 0 ∧ kdF x = 0 ∧ kdL x = 0) := by
  unfold kdK kdF kdL
  repeat' split
  all_goals omega
/-- the number so far, of the bytes up to m -/
def fst (f : Nat → Nat) : Nat → Nat
  | 0 => kdF (f 0)
  | m + 1 => fst f m * 64 + (f (m + 1) - 128)
def tails (f : Nat → Nat) : Nat → Bool
  | 0 => true
  | m + 1 => tails f m && decide (128 ≤ f (m + 1) ∧ f (m + 1) ≤ 191)
def up : Nat → Nat → Nat
  | a, 0 => a
  | a, i + 1 => up a i * 64
def dn : Nat → Nat → Nat
  | a, 0 => a
  | a, i + 1 => dn a i * 64 + 63
def span (f : Nat → Nat) (n : Nat) : Int × Int :=
  if n = 0 ∨ 4 < n ∨ kdK (f 0) < n then (1, 0) else if tails f (n - 1) then (max (up (fst f (n - 1)) (kdK (f 0) - n) : Int) (kdL (f 0)), min (dn (fst f (n - 1)) (kdK (f 0) - n) : Int) 1114111) else (1, 0)
end Ch

end Go.Proofs.YtcfjflchhocnaaaDoor
/-
  Plain mathematics: the characters whose bytes begin with given ones, by the program's way and by the document's.
-/
namespace Go.Proofs.YtcfjflchhocnaaaDoor.Ch
open Go.Lib

end Go.Proofs.YtcfjflchhocnaaaDoor.Ch
/-
  Plain mathematics: a character's bytes, cut anywhere, begin one of its class; what begins one of a class begins an allowed one.
-/
namespace Go.Proofs.YtcfjflchhocnaaaDoor.Ch
open Go.Lib

set_option maxRecDepth 100000 in
end Go.Proofs.YtcfjflchhocnaaaDoor.Ch
