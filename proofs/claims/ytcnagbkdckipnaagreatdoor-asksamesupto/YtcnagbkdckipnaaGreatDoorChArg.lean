import Derived.Shelf.Unicode.ValidAny
import Derived.Test.YtcnagbkdckipnaaGreatDoorProg
import Derived.Test.YtcnagbkdckipnaaGreatDoorChTab
import Derived.Test.YtcnagbkdckipnaaGreatDoorLxWord
import Derived.Laws.CopyRow
import Derived.Laws.CopyOwn
import Derived.Lib.SmallJoins
import Derived.Deep.LoopGhost
import Derived.Laws.AppendOwnNone
import Derived.Laws.BytesArg
/-
  Contracts of the kit's shelf, laid at this seat's program in plain words (by the kit's lay-plain.mjs).
-/
namespace Go.Proofs
open Go.Shelf
def Tryz.lays196_ren : Go.Shelf.Ren := ⟨fun | 196 => 171 | 259 => 178 | n => n, fun | 9 => 9 | 4 => 4 | 3 => 3 | 5 => 5 | 12 => 12 | 119 => 141 | 0 => 0 | 46 => 145 | 139 => 144 | 138 => 143 | 53 => 182 | n => n, fun | 3 => 1 | 4 => 2 | n => n⟩
theorem Tryz.lays196 : Go.Proofs.Lays.n196 Tryz.prog Tryz.lays196_ren := {
  mixed := by kernel_rfl
  f196 := Tryz.func171.trans (congrArg some (by kernel_rfl))
  f259 := Tryz.func178.trans (congrArg some (by kernel_rfl))
  t0 := Tryz.underlying0
  a0 := Tryz.isAgg0
  z0 := Tryz.sizeOf0
  v0 := Tryz.zeroValue0
  t3 := Tryz.underlying3
  a3 := Tryz.isAgg3
  z3 := Tryz.sizeOf3
  v3 := Tryz.zeroValue3
  t4 := Tryz.underlying4
  a4 := Tryz.isAgg4
  z4 := Tryz.sizeOf4
  v4 := Tryz.zeroValue4
  t5 := Tryz.underlying5
  a5 := Tryz.isAgg5
  z5 := Tryz.sizeOf5
  v5 := Tryz.zeroValue5
  t9 := Tryz.underlying9
  a9 := Tryz.isAgg9
  z9 := Tryz.sizeOf9
  v9 := Tryz.zeroValue9
  t12 := Tryz.underlying12
  a12 := Tryz.isAgg12
  z12 := Tryz.sizeOf12
  v12 := Tryz.zeroValue12
  t46 := Tryz.underlying145
  a46 := Tryz.isAgg145
  z46 := Tryz.sizeOf145
  v46 := Tryz.zeroValue145
  t53 := Tryz.underlying182
  a53 := Tryz.isAgg182
  z53 := Tryz.sizeOf182
  v53 := Tryz.zeroValue182
  t119 := Tryz.underlying141
  a119 := Tryz.isAgg141
  z119 := Tryz.sizeOf141
  t138 := Tryz.underlying143
  a138 := Tryz.isAgg143
  z138 := Tryz.sizeOf143
  v138 := Tryz.zeroValue143
  t139 := Tryz.underlying144
  a139 := Tryz.isAgg144
  z139 := Tryz.sizeOf144
  v139 := Tryz.zeroValue144
  g3 := by kernel_rfl
  g4 := by kernel_rfl }
open Go.RowKit in
theorem Tryz.utf8_ValidString (s : ByteArray) (w : World) (hs : s.size ≤ 9223372036854775807) (hT : Lib.Utf8Tabs 1 2 w) :
    Calls Tryz.prog 171 #[.string s] w fun e w' => e = .returned (.bool (Lib.validD s.data.toList)) ∧ Below w.heap.size w w' := Any.utf8_ValidString Tryz.lays196 s w hs hT
end Go.Proofs
/-
  WALKS over chars.Name and chars.Texts: of any text.
-/
namespace Go.Proofs.YtcnagbkdckipnaaGreatDoor
open Go.RowKit Go.Lib

namespace Ch
/-- are the characters from a place on, as Go's range gives them, of the class d (the first one of c)? -/
def allFrom (f : Nat → Nat) (n : Nat) (d : Int) : Nat → Nat → Int → Bool
  | 0, _, _ => true
  | fuel + 1, p, c => if p < n then (isT tab c (Rn.dec (Rn.off f p) (n - p)).1 && allFrom f n d fuel (p + (Rn.dec (Rn.off f p) (n - p)).2) d) else true
theorem allFrom_end (f : Nat → Nat) (n : Nat) (d : Int) (fuel p : Nat) (c : Int) (h : ¬ p < n) : allFrom f n d fuel p c = true := by
  cases fuel with
  | zero => rfl
  | succ m => unfold allFrom; rw [if_neg h]
theorem allFrom_step (f : Nat → Nat) (n : Nat) (d : Int) (fuel p : Nat) (c : Int) (h : p < n) : allFrom f n d (fuel + 1) p c = (isT tab c (Rn.dec (Rn.off f p) (n - p)).1 && allFrom f n d fuel (p + (Rn.dec (Rn.off f p) (n - p)).2) d) := by
  show (if p < n then _ else _) = _
  rw [if_pos h]
/-- are the bytes characters all through? -/
def valid (f : Nat → Nat) (n : Nat) : Bool := validD (Rn.arr f n).data.toList
end Ch

theorem Rn.arr_empty (f : Nat → Nat) (n : Nat) : (Rn.arr f n).toList.isEmpty = decide (n = 0) := by
  rw [ByteArray.toList_eq]
  rw [Bool.eq_iff_iff]
  simp [Rn.arr]

theorem isWhole_any (f : Nat → Nat) (n : Nat) (w : World) (hn : n ≤ 9223372036854775807) (hT : Lib.Utf8Tabs 1 2 w) :
    Calls Tryz.prog 166 #[.string (Rn.arr f n)] w fun e w' => e = .returned (.bool (Ch.valid f n)) ∧ Below w.heap.size w w' := by
  have c := Tryz.utf8_ValidString (Rn.arr f n) w (by rw [Rn.arr_size]; exact hn) hT
  go_enter Tryz.func166, Tryz.ntmps166
  go_wp2_with fail
  refine c.mono ?_
  rintro e w1 ⟨rfl, hb⟩
  go_wp2_with fail
  go_ret
  exact ⟨rfl, hb⟩

set_option maxRecDepth 100000 in
set_option maxHeartbeats 2000000 in
theorem name_any (f : Nat → Nat) (n : Nat) (w : World) (hf : ∀ j, f j < 256) (hn : n ≤ 9223372036854775807) (hS : Spans w) (hT : Lib.Utf8Tabs 1 2 w) :
    Calls Tryz.prog 151 #[.string (Rn.arr f n)] w fun e w' => e = .returned (.bool (Ch.allFrom f n 3 n 0 2 && (decide (0 < n) && Ch.valid f n))) ∧ Below w.heap.size w w' := by
  have hsz := Rn.arr_size f n
  have cW : ∀ w1, Below w.heap.size w w1 → _ := fun w1 hb => isWhole_any f n w1 hn (tabs_below hT hb (Nat.le_refl _))
  have cI : ∀ (c r : Int) w1, Below w.heap.size w w1 → _ := fun c r w1 hb => is_any c r w1 (hS.below hb (Nat.le_refl _))
  clear hS hT
  go_enter Tryz.func151, Tryz.ntmps151
  go_wp2
  go_loopw [3] (fun i wr => ∃ (pos fuel : Nat) (cl : Int), i = .int .i64 cl ∧ wr.heap[w.heap.size]? = some (.stringIter (Rn.arr f n) pos) ∧ Ch.allFrom f n 3 fuel pos cl = Ch.allFrom f n 3 n 0 2 ∧ n ≤ pos + fuel ∧ Below w.heap.size w wr) (fun _ wr => n - wr.iterPos w.heap.size)
  case atStart => exact ⟨0, n, 2, rfl, World.iter_heap w _ 0, rfl, by omega, (Below.refl _ _).alloc (Nat.le_refl _) _⟩
  case round =>
    obtain ⟨pos, fuel, cl, rfl, hit, hpre, hfu, hB⟩ := hrel
    by_cases hlt : pos < n
    · have hnx : ∀ ty, (Instr.next (.pointer (some ⟨w.heap.size, 0, none⟩)) true ty).run Tryz.prog wr = _ := fun ty => Lib.run_next_any_at wr w.heap.size (Rn.arr f n) pos ty hit (by rw [hsz]; exact hlt)
      rw [Rn.arr_decode f n pos hf hlt] at hnx
      obtain ⟨q, rfl⟩ : ∃ q, fuel = q + 1 := ⟨fuel - 1, by omega⟩
      rw [Ch.allFrom_step _ _ _ _ _ _ hlt] at hpre
      obtain ⟨hd1, hd2, hd3⟩ := Rn.dec_pos (Rn.off f pos) (n - pos) (fun _ => hf _) (by omega)
      have hit2 := Lib.iterAt_heap wr w.heap.size (Rn.arr f n) pos (pos + (Rn.dec (Rn.off f pos) (n - pos)).2) hit
      have hB2 := Lib.below_iterAt hB (Nat.le_refl _) (Rn.arr f n) (pos + (Rn.dec (Rn.off f pos) (n - pos)).2)
      have c := cI cl (Rn.dec (Rn.off f pos) (n - pos)).1 _ hB2
      have hi1 : w.heap.size < (wr.iterAt w.heap.size (Rn.arr f n) (pos + (Rn.dec (Rn.off f pos) (n - pos)).2)).heap.size := by
        obtain ⟨hh, _⟩ := Array.getElem?_eq_some_iff.1 hit2
        exact hh
      clear cI
      generalize (Rn.dec (Rn.off f pos) (n - pos)).1 = r at *
      generalize (Rn.dec (Rn.off f pos) (n - pos)).2 = d at *
      cases his : Ch.isT Ch.tab cl r
      · rw [his] at c hpre
        have HP := hide' hpre
        clear hpre his cW
        go_wp2_with fail
        refine c.mono ?_
        rintro e w1 ⟨rfl, hb1⟩
        go_wp2_with fail
        go_ret
        exact ⟨by rw [← HP.out]; rfl, hB2.trans (hb1.mono (by omega))⟩
      · rw [his, Bool.true_and] at hpre
        rw [his] at c
        have HP := hide' hpre
        clear hpre his cW
        go_wp2_with fail
        refine c.mono ?_
        rintro e w1 ⟨rfl, hb1⟩
        have hit3 := (hb1.block w.heap.size hi1).trans hit2
        go_wp2_with fail
        go_roundw
        case rel => exact ⟨pos + d, q, 3, rfl, hit3, HP.out, by omega, hB2.trans (hb1.mono (by omega))⟩
        case measure => simp only [World.iterPos, hit3, hit]; omega
    · have hnx : ∀ ty, (Instr.next (.pointer (some ⟨w.heap.size, 0, none⟩)) true ty).run Tryz.prog wr = _ := fun ty => Lib.run_next_end_at wr w.heap.size (Rn.arr f n) pos ty hit (by rw [hsz]; exact hlt)
      rw [Ch.allFrom_end _ _ _ _ _ _ hlt] at hpre
      have HP := hide' hpre
      clear hpre cI
      have hem := Rn.arr_empty f n
      by_cases h0 : n = 0
      · rw [decide_eq_true h0] at hem
        have HN := hide' h0
        clear h0 cW
        go_wp2_with fail
        go_ret
        exact ⟨ret_bool (by rw [HN.out]; simp), hB⟩
      · rw [decide_eq_false h0] at hem
        have HN := hide' (show 0 < n by omega)
        clear h0
        go_wp2_with fail
        refine (cW wr hB).mono ?_
        rintro e w1 ⟨rfl, hb1⟩
        go_wp2_with fail
        go_ret
        exact ⟨ret_bool (by rw [← HP.out, decide_eq_true HN.out]; rfl), hB.trans (hb1.mono hB.size)⟩
end Go.Proofs.YtcnagbkdckipnaaGreatDoor
/-
  THE WALK over gimletlaw02.fixed: answers that the document fixes.
-/
namespace Go.Proofs.YtcnagbkdckipnaaGreatDoor
open Go.RowKit Go.Lib

namespace Ch
/-- the text 'a-1' -/
def am : Nat → Nat := fun j => ([97, 45, 49] : List Nat)[j]?.getD 0
theorem am_lt : ∀ j, am j < 256 := by
  intro j
  match j with
  | 0 => decide
  | 1 => decide
  | 2 => decide
  | (j + 3) => simp [am]
theorem am_arr : Rn.arr am 3 = ⟨#[97, 45, 49]⟩ := by decide +kernel
theorem am_name : (allFrom am 3 3 3 0 2 && (decide (0 < 3) && valid am 3)) = true := by decide +kernel
end Ch

end Go.Proofs.YtcnagbkdckipnaaGreatDoor
/-
  WALKS over chars.complete: the first and the last character whose bytes begin with these.
-/
namespace Go.Proofs.YtcnagbkdckipnaaGreatDoor
open Go.RowKit Go.Lib

namespace Ch
/-- the bytes gone on with: the second byte the least (greatest) that may follow, the others x -/
def goOn (f : Nat → Nat) (n y x : Nat) : Nat → Nat := fun j => if j < n then f j else if j = 1 then y else x
theorem goOn_old (f : Nat → Nat) {n y x j : Nat} (h : j < n) : goOn f n y x j = f j := by unfold goOn; rw [if_pos h]
theorem goOn_one (f : Nat → Nat) {n y x : Nat} (h : n ≤ 1) : goOn f n y x 1 = y := by unfold goOn; rw [if_neg (by omega), if_pos rfl]
theorem goOn_new (f : Nat → Nat) {n y x j : Nat} (h : n ≤ j) (hj : 2 ≤ j) : goOn f n y x j = x := by unfold goOn; rw [if_neg (by omega), if_neg (by omega)]
/-- a front: m bytes that are all right -/
theorem len_all (m b0 b1 b2 b3 : Nat) (h0 : 0 < m) (hs : m ≤ Rn.size b0) (h1 : 1 < m → Rn.lo b0 ≤ b1 ∧ b1 ≤ Rn.hi b0) (h2 : 2 < m → 128 ≤ b2 ∧ b2 ≤ 191) (h3 : 3 < m → 128 ≤ b3 ∧ b3 ≤ 191) : Rn.len m b0 b1 b2 b3 = m := by
  have := Rn.size_le b0
  unfold Rn.len
  repeat' split
  all_goals omega
theorem len_all' {m b0 b1 b2 b3 : Nat} (h : Rn.len m b0 b1 b2 b3 = m) (h0 : 0 < m) : m ≤ Rn.size b0 ∧ (1 < m → Rn.lo b0 ≤ b1 ∧ b1 ≤ Rn.hi b0) ∧ (2 < m → 128 ≤ b2 ∧ b2 ≤ 191) ∧ (3 < m → 128 ≤ b3 ∧ b3 ≤ 191) := by
  have hs := Rn.size_le b0
  have hl := Rn.len_le_size m b0 b1 b2 b3
  unfold Rn.len at h
  split at h
  · omega
  · split at h
    · refine ⟨?_, ?_, ?_, ?_⟩ <;> omega
    · split at h
      · refine ⟨?_, ?_, ?_, ?_⟩ <;> omega
      · split at h
        · refine ⟨?_, ?_, ?_, ?_⟩ <;> omega
        · refine ⟨?_, ?_, ?_, ?_⟩ <;> omega
/-- whole, or a beginning -/
theorem good_iff (f : Nat → Nat) (m : Nat) (h : 0 < m) : (Rn.whole f m = true ∧ Rn.fs f m = m ∨ Rn.waits f m = true) ↔ Rn.fk f m = m := by
  have e : Rn.fs f m = Rn.size (f 0) := by unfold Rn.fs; rw [if_neg (by omega)]
  have hl := Rn.fk_le_fs f m
  simp only [Rn.whole, Rn.waits, decide_eq_true_eq]
  rw [e] at hl ⊢
  omega
end Ch

theorem alloc_setRow (w : World) (cur cs : Array Value) (t : TypeId) : (w.alloc (.cells cur t)).setRow w.heap.size cs = w.alloc (.cells cs t) := by
  unfold World.setRow World.alloc
  congr 1
  apply Array.ext_getElem?
  intro i
  by_cases hi : i = w.heap.size
  · subst hi
    simp [Array.getElem_modify]
  · rw [Array.getElem?_modify, if_neg (Ne.symm hi), Array.getElem?_push, Array.getElem?_push, if_neg hi, if_neg hi]
end Go.Proofs.YtcnagbkdckipnaaGreatDoor
/-
  THE WALK over chars.Begins.
-/
namespace Go.Proofs.YtcnagbkdckipnaaGreatDoor
open Go.RowKit Go.Lib

namespace Ch
/-- what Begins answers -/
def low (f : Nat → Nat) (n : Nat) : Nat := Rn.fv (goOn f n (Rn.lo (f 0)) 128)
def high (f : Nat → Nat) (n : Nat) : Nat := Rn.fv (goOn f n (Rn.hi (f 0)) 191)
def begP (c : Int) (f : Nat → Nat) (n : Nat) : Bool := if 0 < n ∧ Rn.fk f n = n then ((nextT tab c ((low f n : Int) - 1)).2 && decide ((nextT tab c ((low f n : Int) - 1)).1 ≤ (high f n : Int))) else false
theorem goOn_lt (f : Nat → Nat) (hf : ∀ j, f j < 256) (n y x : Nat) (hy : y < 256) (hx : x < 256) : ∀ j, goOn f n y x j < 256 := by
  intro j
  unfold goOn
  split
  · exact hf j
  · split <;> omega
theorem lo_hi (b : Nat) : 128 ≤ Rn.lo b ∧ Rn.lo b ≤ Rn.hi b ∧ Rn.hi b ≤ 191 := by
  unfold Rn.lo Rn.hi
  repeat' split
  all_goals omega
theorem low_lt (f : Nat → Nat) (n : Nat) (hf : ∀ j, f j < 256) : low f n < 2097152 := Rn.fv_le _ (goOn_lt f hf n _ _ (by have := lo_hi (f 0); omega) (by omega))
theorem high_lt (f : Nat → Nat) (n : Nat) (hf : ∀ j, f j < 256) : high f n < 2097152 := Rn.fv_le _ (goOn_lt f hf n _ _ (by have := lo_hi (f 0); omega) (by omega))
end Ch

/-- a slice of bytes as a call takes it -/
def SlAt (w : World) (v : Value) (n : Nat) (f : Nat → Nat) : Prop := (v = .slice none 0 0 ∧ n = 0) ∨ ∃ b o cap, v = .slice (some ⟨b, o, none⟩) n cap ∧ n ≤ cap ∧ cap ≤ maxLen ∧ Bytes w b o n f

end Go.Proofs.YtcnagbkdckipnaaGreatDoor
/-
  A slice of bytes that came in: what is known of it, its copy ('append([]byte{}, b...)'), its text.
-/
namespace Go.Proofs.YtcnagbkdckipnaaGreatDoor
open Go.RowKit Go.Lib

/-- the bytes as cells -/
def bs (f : Nat → Nat) (n : Nat) : List Value := (List.range n).map fun j => .int .u8 (f j : Nat)
theorem bs_length (f : Nat → Nat) (n : Nat) : (bs f n).length = n := by simp [bs]
theorem bs_get {f : Nat → Nat} {n j : Nat} {u : Value} (h : (bs f n)[j]? = some u) : j < n ∧ u = .int .u8 (f j : Nat) := by
  have hj : j < n := by
    have := (List.getElem?_eq_some_iff.1 h).1
    rwa [bs_length] at this
  simp [bs, hj] at h
  exact ⟨hj, h.symm⟩
theorem bs_one (f : Nat → Nat) (n : Nat) : ∀ u ∈ bs f n, u.oneCell' = true := by
  intro u hu
  simp [bs] at hu
  obtain ⟨a, _, rfl⟩ := hu
  rfl
/-- a slice of bytes that came in -/
inductive ArgS (w : World) (f : Nat → Nat) (n : Nat) : Value → Prop
  | nil (hn : n = 0) : ArgS w f n (.slice none 0 0)
  | some (ad : Addr) (cap : Nat) (h1 : n ≤ cap) (h2 : cap ≤ maxLen) (hc : ∀ j, j < n → w.cell? (ad.add j) = .some (.int .u8 (f j : Nat))) (hp : 0 < n → ∃ b o, ad = ⟨b, o, none⟩) : ArgS w f n (.slice (.some ad) n cap)
theorem ArgS.below {w w' : World} {f : Nat → Nat} {n : Nat} {v : Value} (h : ArgS w f n v) {B : Nat} (hb : Below B w w') (hB : w.heap.size ≤ B) : ArgS w' f n v := by
  cases h with
  | nil hn => exact .nil hn
  | some ad cap h1 h2 hc hp => exact .some ad cap h1 h2 (fun j hj => (hb.cell (p := ad.add j) (Nat.lt_of_lt_of_le (block_lt_of_cell (hc j hj)) hB)).trans (hc j hj)) hp
/-- .. as the document's calls take it -/
theorem ArgS.span {w : World} {f : Nat → Nat} {n : Nat} {v : Value} (h : ArgS w f n v) : ∃ pa cap, v = .slice pa n cap ∧ n ≤ cap ∧ (n = 0 ∨ ∃ b o, pa = Option.some ⟨b, o, none⟩ ∧ Bytes w b o n f) := by
  cases h with
  | nil hn => subst hn; exact ⟨none, 0, rfl, Nat.le_refl _, .inl rfl⟩
  | some ad cap h1 h2 hc hp =>
    refine ⟨_, cap, rfl, h1, ?_⟩
    by_cases h0 : n = 0
    · exact .inl h0
    · obtain ⟨b, o, rfl⟩ := hp (by omega)
      exact .inr ⟨b, o, rfl, fun j hj => by have := hc j hj; rwa [show (Addr.add ⟨b, o, none⟩ j) = ⟨b, o + j, none⟩ from by simp [Addr.add]] at this⟩
/-- its text -/
theorem ArgS.text {w : World} {f : Nat → Nat} {n : Nat} {v : Value} (h : ArgS w f n v) (hf : ∀ j, f j < 256) : (convert 22 9 v).run Tryz.prog w = .ok (.string (Rn.arr f n)) w := by
  cases h with
  | nil hn =>
    subst hn
    rw [run_convert_bytes_nil (P := Tryz.prog) w 22 5 Tryz.underlying22 Tryz.underlying5 0 0 9 Tryz.underlying9]
    rfl
  | some ad cap h1 h2 hc hp =>
    have h := run_convert_bytes_back (P := Tryz.prog) w 22 9 5 ad cap (Rn.arr f n).data.toList Tryz.underlying22 Tryz.underlying5 Tryz.underlying9 (fun j hj => by
      have hj' : j < n := by simpa [Rn.arr] using hj
      rw [hc j hj']
      have e : ((Rn.arr f n).data.toList[j]).toNat = f j := by
        simp [Rn.arr]
        have := hf j
        omega
      rw [e])
    have e1 : (Rn.arr f n).data.toList.length = n := by simp [Rn.arr]
    rw [e1] at h
    simpa using h

theorem byteInfo : (Tryz.prog.info? 5).map (fun i => (i.zero, i.size, i.bytes)) = some (some (.int .u8 0), 1, 1) := by kernel_rfl
theorem owns_none (w : World) : (w.alloc (.cells #[] 5)).ownsRow w.heap.size 5 1 (.slice (some ⟨w.heap.size, 0, none⟩) 0 0) 0 [] :=
  ⟨rfl, .inr ⟨w.heap.size, 0, #[], rfl, Nat.le_refl _, (by show (w.heap.push _)[w.heap.size]? = _; simp), Nat.le_refl _, by decide, rfl, rfl⟩⟩
/-- append of a slice that came in to bytes of one's own -/
theorem append_argS {w : World} {ops : Array Oper} {rest : List Oper} {o : Oper} {a : Act} {Q : Exit → Act → World → Prop} (hgd : o.guard = none) (s x : Operand)
    (ho : o.op = .call { callee := .builtin .append, args := #[s, x], argTypes := #[22, 22] }) (base : Nat) (v vx : Value) (n m : Nat) (cells : List Value) (f : Nat → Nat) (hs : a.eval s = v) (hown : w.ownsRow base 5 1 v n cells)
    (hx : a.eval x = vx) (hA : ArgS w f m vx) (hb : n + m ≤ 140737488355328) (hbase : base ≤ w.heap.size)
    (h : ∀ v' w', w'.ownsRow base 5 1 v' (n + m) (cells ++ bs f m) → w.grownBy w' v.ownBlock → wpList Tryz.prog ops Q rest (a.put o.dst v') w') : wpList Tryz.prog ops Q (o :: rest) a w := by
  obtain ⟨i0, hi, hz0, hz1, hz2⟩ := info_parts byteInfo
  cases hA with
  | nil hn =>
    subst hn
    refine wpList_append_own_none hgd s x 22 ho base 5 i0 1 Tryz.underlying22 hi v n cells hs hown hx ?_
    exact h v w (by simpa [bs] using hown) ⟨rfl, rfl, rfl, Nat.le_refl _, fun _ _ _ => rfl⟩
  | some ad cap h1 h2 hc =>
    refine wpList_append_own w hgd s x 22 ho base 5 i0 (.int .u8 0) 1 1 Tryz.underlying22 hi hz0 hz1 hz2 rfl (by decide) v n cells hs hown ad m cap (bs f m) hx (by rw [bs_length]; omega) ?_ (bs_one f m) (by unfold maxLen; omega) (by omega) hbase (fun v' w' h3 h4 _ => h v' w' h3 h4)
    intro j u hu
    obtain ⟨hj, rfl⟩ := bs_get hu
    exact hc j hj
/-- bytes of one's own, as the program's calls take them -/
theorem slAt_own {w : World} {B n : Nat} {v : Value} {f : Nat → Nat} (h : w.ownsRow B 5 1 v n (bs f n)) : SlAt w v n f ∧ ArgS w f n v := by
  rcases h.2 with h0 | ⟨g, cap, cur, rfl, hg, hgg, hc1, hc2, hz, ht⟩
  · obtain ⟨rfl, e⟩ : n = 0 ∧ v = .slice none 0 0 := by
      first | exact h0 | exact ⟨h0.2, h0.1⟩
    subst e
    exact ⟨.inl ⟨rfl, rfl⟩, .nil rfl⟩
  · have hby : ∀ j, j < n → w.cell? ⟨g, 0 + j, none⟩ = some (.int .u8 (f j : Nat)) := by
      intro j hj
      have h3 := h.cells (g := g) rfl j (.int .u8 (f j : Nat)) (by simp [bs, hj])
      rwa [show (Addr.add ⟨g, 0, none⟩ j) = ⟨g, 0 + j, none⟩ from by simp [Addr.add]; omega] at h3
    exact ⟨.inr ⟨g, 0, cap, rfl, hc1, hc2, hby⟩, .some ⟨g, 0, none⟩ cap hc1 hc2 (fun j hj => by rw [show (Addr.add ⟨g, 0, none⟩ j) = ⟨g, 0 + j, none⟩ from by simp [Addr.add]; omega]; exact hby j hj) (fun _ => ⟨g, 0, rfl⟩)⟩
end Go.Proofs.YtcnagbkdckipnaaGreatDoor
