/-
  WALKS over utf8.Valid and lexis.Words where there are no bytes; Words at any slice that came in.
-/
import Derived.Test.YtoccedbnnafjcaaDoorLxWords
import Derived.Test.YtoccedbnnafjcaaDoorChArg
namespace Go.Proofs.YtoccedbnnafjcaaDoor
open Go.RowKit Go.Lib
set_option maxRecDepth 1000000 in
set_option maxHeartbeats 8000000 in
theorem valid_none (pa : Option Addr) (cap : Nat) (w : World) (hm : cap ≤ maxLen) :
    Calls Tryd.prog 17 #[.slice pa 0 cap] w fun e w' => e = .returned (.bool true) ∧ w' = w := by
  have hcap : cap ≤ 9223372036854775807 := by unfold maxLen at hm; omega
  have i0 : (0 : Int) ≤ cap := by omega
  clear hm
  cases pa with
  | none =>
    go_enter Tryd.func17, Tryd.ntmps17
    go_wp2
    go_loopw [0] (fun v wx => (∃ p, v = .slice p 0 0) ∧ wx = w) (fun _ _ => 0)
    case atStart => exact ⟨⟨_, rfl⟩, rfl⟩
    case round =>
      obtain ⟨⟨p, rfl⟩, rfl⟩ := hrel
      go_wp2
      go_ret
      exact ⟨rfl, rfl⟩
  | some ad =>
    go_enter Tryd.func17, Tryd.ntmps17
    go_wp2
    go_loopw [0] (fun v wx => (∃ p, v = .slice p 0 0) ∧ wx = w) (fun _ _ => 0)
    case atStart => exact ⟨⟨_, rfl⟩, rfl⟩
    case round =>
      obtain ⟨⟨p, rfl⟩, rfl⟩ := hrel
      go_wp2
      go_ret
      exact ⟨rfl, rfl⟩
namespace Lx
theorem words_zero (f : Nat → Nat) : words f 0 = ([], none) := rfl
theorem flt_zero (f : Nat → Nat) : flt f 0 = none := rfl
theorem lead_zero (f : Nat → Nat) (c : Int) : lead f 0 c = 0 := rfl
end Lx
set_option maxRecDepth 100000 in
set_option maxHeartbeats 4000000 in
theorem words_none (f : Nat → Nat) (v : Value) (w : World) (hf : ∀ j, f j < 256) (hS : Spans w) (hv : ArgS w f 0 v) :
    Calls Tryd.prog 8 #[v] w fun e w' => Lx.WordsE f 0 w e w' := by
  obtain ⟨pa, cap, rfl, hcap⟩ : ∃ pa cap, v = .slice pa 0 cap ∧ cap ≤ maxLen := by
    cases hv with
    | nil hn => exact ⟨none, 0, rfl, Nat.zero_le _⟩
    | some ad cap h1 h2 hc hp => exact ⟨_, cap, rfl, h2⟩
  have cV := valid_none pa cap w hcap
  have hcv := hv.text hf
  have hbp := (Below.refl w.heap.size w).alloc (Nat.le_refl _) (.cells #[.int .i64 0, .int .i64 0, .int .i64 1, .int .i64 1] 30)
  have cL := leading_any f 0 1 _ hf (by omega) (hS.below hbp (Nat.le_refl _))
  rw [Lx.lead_zero] at cL
  have hsz := Rn.arr_size f 0
  clear hv hS
  go_enter Tryd.func8, Tryd.ntmps8
  go_wp2_with fail
  refine cV.mono ?_
  rintro e w1 ⟨rfl, rfl⟩
  clear cV
  go_wp2_with fail
  refine cL.mono ?_
  rintro e w2 ⟨rfl, hb2⟩
  have hb3 := hide' (hbp.trans (hb2.mono hbp.size))
  clear cL hb2 hcv hbp
  go_wp2_with fail
  go_loopw [4, 7] (fun v4 v7 wr => v4 = .slice none 0 0 ∧ v7 = .int .i64 0 ∧ wr = w2) (fun _ _ _ => 0)
  case atStart => exact ⟨rfl, rfl, rfl⟩
  case round =>
    obtain ⟨rfl, rfl, rfl⟩ := hrel
    go_wp2_with fail
    refine bodyPost_ret (v := .tuple #[.slice none 0 0, .nilIface]) (by simp [results, Tryd.results8, go_sem]) rfl ?_
    exact .ok _ _ (Lx.flt_zero f) rfl (World.ownsRow_nil _ _ _ _) hb3.out
/-- Words of a slice that came in -/
theorem words_arg (f : Nat → Nat) (n : Nat) (v : Value) (w : World) (hT : Lib.Utf8Tabs 1 2 w) (hS : Spans w) (hG : Signs w) (hf : ∀ j, f j < 256) (hbig : n ≤ 1099511627776) (hv : ArgS w f n v) :
    Calls Tryd.prog 8 #[v] w fun e w' => Lx.WordsE f n w e w' := by
  by_cases h0 : n = 0
  · subst h0
    exact words_none f v w hf hS hv
  · cases hv with
    | nil hn => exact absurd hn h0
    | some ad cap h1 h2 hc hp =>
      obtain ⟨b, o, rfl⟩ := hp (by omega)
      exact words_any f n b o cap w hT hS hG hf h1 h2 hbig (fun j hj => by have := hc j hj; rwa [show (Addr.add ⟨b, o, none⟩ j) = ⟨b, o + j, none⟩ from by simp [Addr.add]] at this)
end Go.Proofs.YtoccedbnnafjcaaDoor
