import Derived.Test.YtoccedbnnafjcaaDoorLxValM
import Derived.Test.YtoccedbnnafjcaaDoorChShelf
import Derived.Test.YtoccedbnnafjcaaDoorRnEnc
import Derived.Laws.CopyRow
import Derived.Laws.CopyOwn
import Derived.Lib.SmallJoins
import Derived.Deep.LoopGhost
import Derived.Laws.AppendOwnNone
import Derived.Laws.BytesArg
/-
  WALKS over chars.Name and chars.Texts: of any text.
-/
namespace Go.Proofs.YtoccedbnnafjcaaDoor
open Go.RowKit Go.Lib

namespace Ch
/-- are the characters from a place on, as Go's range gives them, of the class d (the first one of c)? -/
def allFrom (f : Nat → Nat) (n : Nat) (d : Int) : Nat → Nat → Int → Bool
  | 0, _, _ => true
  | fuel + 1, p, c => if p < n then (isT tab c (Rn.dec (Rn.off f p) (n - p)).1 && allFrom f n d fuel (p + (Rn.dec (Rn.off f p) (n - p)).2) d) else true
theorem allFrom_end (f : Nat → Nat) (n : Nat) (d : Int) (fuel p : Nat) (c : Int) (h : ¬ p < n) : allFrom f n d fuel p c = true := by
  cases fuel with
  | zero => rfl
  | succ m => unfold allFrom; rw [if_neg h]
theorem allFrom_step (f : Nat → Nat) (n : Nat) (d : Int) (fuel p : Nat) (c : Int) (h : p < n) : allFrom f n d (fuel + 1) p c = (isT tab c (Rn.dec (Rn.off f p) (n - p)).1 && allFrom f n d fuel (p + (Rn.dec (Rn.off f p) (n - p)).2) d) := by
  show (if p < n then _ else _) = _
  rw [if_pos h]
/-- are the bytes characters all through? -/
def valid (f : Nat → Nat) (n : Nat) : Bool := validD (Rn.arr f n).data.toList
end Ch

theorem Rn.arr_empty (f : Nat → Nat) (n : Nat) : (Rn.arr f n).toList.isEmpty = decide (n = 0) := by
  rw [ByteArray.toList_eq]
  rw [Bool.eq_iff_iff]
  simp [Rn.arr]

end Go.Proofs.YtoccedbnnafjcaaDoor
/-
  THE WALK over gimletlaw02.fixed: answers that the document fixes.
-/
namespace Go.Proofs.YtoccedbnnafjcaaDoor
open Go.RowKit Go.Lib

namespace Ch
/-- the text 'a-1' -/
def am : Nat → Nat := fun j => ([97, 45, 49] : List Nat)[j]?.getD 0
theorem am_lt : ∀ j, am j < 256 := by
  intro j
  match j with
  | 0 => decide
  | 1 => decide
  | 2 => decide
  | (j + 3) => simp [am]
theorem am_arr : Rn.arr am 3 = ⟨#[97, 45, 49]⟩ := by decide +kernel
theorem am_name : (allFrom am 3 3 3 0 2 && (decide (0 < 3) && valid am 3)) = true := by decide +kernel
end Ch

end Go.Proofs.YtoccedbnnafjcaaDoor
/-
  WALKS over chars.complete: the first and the last character whose bytes begin with these.
-/
namespace Go.Proofs.YtoccedbnnafjcaaDoor
open Go.RowKit Go.Lib

namespace Ch
/-- the bytes gone on with: the second byte the least (greatest) that may follow, the others x -/
def goOn (f : Nat → Nat) (n y x : Nat) : Nat → Nat := fun j => if j < n then f j else if j = 1 then y else x
theorem goOn_old (f : Nat → Nat) {n y x j : Nat} (h : j < n) : goOn f n y x j = f j := by unfold goOn; rw [if_pos h]
theorem goOn_one (f : Nat → Nat) {n y x : Nat} (h : n ≤ 1) : goOn f n y x 1 = y := by unfold goOn; rw [if_neg (by omega), if_pos rfl]
theorem goOn_new (f : Nat → Nat) {n y x j : Nat} (h : n ≤ j) (hj : 2 ≤ j) : goOn f n y x j = x := by unfold goOn; rw [if_neg (by omega), if_neg (by omega)]
/-- a front: m bytes that are all right -/
theorem len_all (m b0 b1 b2 b3 : Nat) (h0 : 0 < m) (hs : m ≤ Rn.size b0) (h1 : 1 < m → Rn.lo b0 ≤ b1 ∧ b1 ≤ Rn.hi b0) (h2 : 2 < m → 128 ≤ b2 ∧ b2 ≤ 191) (h3 : 3 < m → 128 ≤ b3 ∧ b3 ≤ 191) : Rn.len m b0 b1 b2 b3 = m := by
  have := Rn.size_le b0
  unfold Rn.len
  repeat' split
  all_goals omega
theorem len_all' {m b0 b1 b2 b3 : Nat} (h : Rn.len m b0 b1 b2 b3 = m) (h0 : 0 < m) : m ≤ Rn.size b0 ∧ (1 < m → Rn.lo b0 ≤ b1 ∧ b1 ≤ Rn.hi b0) ∧ (2 < m → 128 ≤ b2 ∧ b2 ≤ 191) ∧ (3 < m → 128 ≤ b3 ∧ b3 ≤ 191) := by
  have hs := Rn.size_le b0
  have hl := Rn.len_le_size m b0 b1 b2 b3
  unfold Rn.len at h
  split at h
  · omega
  · split at h
    · refine ⟨?_, ?_, ?_, ?_⟩ <;> omega
    · split at h
      · refine ⟨?_, ?_, ?_, ?_⟩ <;> omega
      · split at h
        · refine ⟨?_, ?_, ?_, ?_⟩ <;> omega
        · refine ⟨?_, ?_, ?_, ?_⟩ <;> omega
/-- whole, or a beginning -/
theorem good_iff (f : Nat → Nat) (m : Nat) (h : 0 < m) : (Rn.whole f m = true ∧ Rn.fs f m = m ∨ Rn.waits f m = true) ↔ Rn.fk f m = m := by
  have e : Rn.fs f m = Rn.size (f 0) := by unfold Rn.fs; rw [if_neg (by omega)]
  have hl := Rn.fk_le_fs f m
  simp only [Rn.whole, Rn.waits, decide_eq_true_eq]
  rw [e] at hl ⊢
  omega
end Ch

theorem alloc_setRow (w : World) (cur cs : Array Value) (t : TypeId) : (w.alloc (.cells cur t)).setRow w.heap.size cs = w.alloc (.cells cs t) := by
  unfold World.setRow World.alloc
  congr 1
  apply Array.ext_getElem?
  intro i
  by_cases hi : i = w.heap.size
  · subst hi
    simp [Array.getElem_modify]
  · rw [Array.getElem?_modify, if_neg (Ne.symm hi), Array.getElem?_push, Array.getElem?_push, if_neg hi, if_neg hi]
end Go.Proofs.YtoccedbnnafjcaaDoor
/-
  THE WALK over chars.Begins.
-/
namespace Go.Proofs.YtoccedbnnafjcaaDoor
open Go.RowKit Go.Lib

namespace Ch
/-- what Begins answers -/
def low (f : Nat → Nat) (n : Nat) : Nat := Rn.fv (goOn f n (Rn.lo (f 0)) 128)
def high (f : Nat → Nat) (n : Nat) : Nat := Rn.fv (goOn f n (Rn.hi (f 0)) 191)
def begP (c : Int) (f : Nat → Nat) (n : Nat) : Bool := if 0 < n ∧ Rn.fk f n = n then ((nextT tab c ((low f n : Int) - 1)).2 && decide ((nextT tab c ((low f n : Int) - 1)).1 ≤ (high f n : Int))) else false
theorem goOn_lt (f : Nat → Nat) (hf : ∀ j, f j < 256) (n y x : Nat) (hy : y < 256) (hx : x < 256) : ∀ j, goOn f n y x j < 256 := by
  intro j
  unfold goOn
  split
  · exact hf j
  · split <;> omega
theorem lo_hi (b : Nat) : 128 ≤ Rn.lo b ∧ Rn.lo b ≤ Rn.hi b ∧ Rn.hi b ≤ 191 := by
  unfold Rn.lo Rn.hi
  repeat' split
  all_goals omega
theorem low_lt (f : Nat → Nat) (n : Nat) (hf : ∀ j, f j < 256) : low f n < 2097152 := Rn.fv_le _ (goOn_lt f hf n _ _ (by have := lo_hi (f 0); omega) (by omega))
theorem high_lt (f : Nat → Nat) (n : Nat) (hf : ∀ j, f j < 256) : high f n < 2097152 := Rn.fv_le _ (goOn_lt f hf n _ _ (by have := lo_hi (f 0); omega) (by omega))
end Ch

/-- a slice of bytes as a call takes it -/
def SlAt (w : World) (v : Value) (n : Nat) (f : Nat → Nat) : Prop := (v = .slice none 0 0 ∧ n = 0) ∨ ∃ b o cap, v = .slice (some ⟨b, o, none⟩) n cap ∧ n ≤ cap ∧ cap ≤ maxLen ∧ Bytes w b o n f

end Go.Proofs.YtoccedbnnafjcaaDoor
/-
  A slice of bytes that came in: what is known of it, its copy ('append([]byte{}, b...)'), its text.
-/
namespace Go.Proofs.YtoccedbnnafjcaaDoor
open Go.RowKit Go.Lib

/-- the bytes as cells -/
def bs (f : Nat → Nat) (n : Nat) : List Value := (List.range n).map fun j => .int .u8 (f j : Nat)
theorem bs_length (f : Nat → Nat) (n : Nat) : (bs f n).length = n := by simp [bs]
theorem bs_get {f : Nat → Nat} {n j : Nat} {u : Value} (h : (bs f n)[j]? = some u) : j < n ∧ u = .int .u8 (f j : Nat) := by
  have hj : j < n := by
    have := (List.getElem?_eq_some_iff.1 h).1
    rwa [bs_length] at this
  simp [bs, hj] at h
  exact ⟨hj, h.symm⟩
theorem bs_one (f : Nat → Nat) (n : Nat) : ∀ u ∈ bs f n, u.oneCell' = true := by
  intro u hu
  simp [bs] at hu
  obtain ⟨a, _, rfl⟩ := hu
  rfl
/-- a slice of bytes that came in -/
inductive ArgS (w : World) (f : Nat → Nat) (n : Nat) : Value → Prop
  | nil (hn : n = 0) : ArgS w f n (.slice none 0 0)
  | some (ad : Addr) (cap : Nat) (h1 : n ≤ cap) (h2 : cap ≤ maxLen) (hc : ∀ j, j < n → w.cell? (ad.add j) = .some (.int .u8 (f j : Nat))) (hp : 0 < n → ∃ b o, ad = ⟨b, o, none⟩) : ArgS w f n (.slice (.some ad) n cap)
theorem ArgS.below {w w' : World} {f : Nat → Nat} {n : Nat} {v : Value} (h : ArgS w f n v) {B : Nat} (hb : Below B w w') (hB : w.heap.size ≤ B) : ArgS w' f n v := by
  cases h with
  | nil hn => exact .nil hn
  | some ad cap h1 h2 hc hp => exact .some ad cap h1 h2 (fun j hj => (hb.cell (p := ad.add j) (Nat.lt_of_lt_of_le (block_lt_of_cell (hc j hj)) hB)).trans (hc j hj)) hp
/-- .. as the document's calls take it -/
theorem ArgS.span {w : World} {f : Nat → Nat} {n : Nat} {v : Value} (h : ArgS w f n v) : ∃ pa cap, v = .slice pa n cap ∧ n ≤ cap ∧ (n = 0 ∨ ∃ b o, pa = Option.some ⟨b, o, none⟩ ∧ Bytes w b o n f) := by
  cases h with
  | nil hn => subst hn; exact ⟨none, 0, rfl, Nat.le_refl _, .inl rfl⟩
  | some ad cap h1 h2 hc hp =>
    refine ⟨_, cap, rfl, h1, ?_⟩
    by_cases h0 : n = 0
    · exact .inl h0
    · obtain ⟨b, o, rfl⟩ := hp (by omega)
      exact .inr ⟨b, o, rfl, fun j hj => by have := hc j hj; rwa [show (Addr.add ⟨b, o, none⟩ j) = ⟨b, o + j, none⟩ from by simp [Addr.add]] at this⟩
/-- its text -/
theorem ArgS.text {w : World} {f : Nat → Nat} {n : Nat} {v : Value} (h : ArgS w f n v) (hf : ∀ j, f j < 256) : (convert 22 9 v).run Tryd.prog w = .ok (.string (Rn.arr f n)) w := by
  cases h with
  | nil hn =>
    subst hn
    rw [run_convert_bytes_nil (P := Tryd.prog) w 22 5 Tryd.underlying22 Tryd.underlying5 0 0 9 Tryd.underlying9]
    rfl
  | some ad cap h1 h2 hc hp =>
    have h := run_convert_bytes_back (P := Tryd.prog) w 22 9 5 ad cap (Rn.arr f n).data.toList Tryd.underlying22 Tryd.underlying5 Tryd.underlying9 (fun j hj => by
      have hj' : j < n := by simpa [Rn.arr] using hj
      rw [hc j hj']
      have e : ((Rn.arr f n).data.toList[j]).toNat = f j := by
        simp [Rn.arr]
        have := hf j
        omega
      rw [e])
    have e1 : (Rn.arr f n).data.toList.length = n := by simp [Rn.arr]
    rw [e1] at h
    simpa using h

theorem byteInfo : (Tryd.prog.info? 5).map (fun i => (i.zero, i.size, i.bytes)) = some (some (.int .u8 0), 1, 1) := by kernel_rfl
theorem owns_none (w : World) : (w.alloc (.cells #[] 5)).ownsRow w.heap.size 5 1 (.slice (some ⟨w.heap.size, 0, none⟩) 0 0) 0 [] :=
  ⟨rfl, .inr ⟨w.heap.size, 0, #[], rfl, Nat.le_refl _, (by show (w.heap.push _)[w.heap.size]? = _; simp), Nat.le_refl _, by decide, rfl, rfl⟩⟩
/-- append of a slice that came in to bytes of one's own -/
theorem append_argS {w : World} {ops : Array Oper} {rest : List Oper} {o : Oper} {a : Act} {Q : Exit → Act → World → Prop} (hgd : o.guard = none) (s x : Operand)
    (ho : o.op = .call { callee := .builtin .append, args := #[s, x], argTypes := #[22, 22] }) (base : Nat) (v vx : Value) (n m : Nat) (cells : List Value) (f : Nat → Nat) (hs : a.eval s = v) (hown : w.ownsRow base 5 1 v n cells)
    (hx : a.eval x = vx) (hA : ArgS w f m vx) (hb : n + m ≤ 140737488355328) (hbase : base ≤ w.heap.size)
    (h : ∀ v' w', w'.ownsRow base 5 1 v' (n + m) (cells ++ bs f m) → w.grownBy w' v.ownBlock → wpList Tryd.prog ops Q rest (a.put o.dst v') w') : wpList Tryd.prog ops Q (o :: rest) a w := by
  obtain ⟨i0, hi, hz0, hz1, hz2⟩ := info_parts byteInfo
  cases hA with
  | nil hn =>
    subst hn
    refine wpList_append_own_none hgd s x 22 ho base 5 i0 1 Tryd.underlying22 hi v n cells hs hown hx ?_
    exact h v w (by simpa [bs] using hown) ⟨rfl, rfl, rfl, Nat.le_refl _, fun _ _ _ => rfl⟩
  | some ad cap h1 h2 hc =>
    refine wpList_append_own w hgd s x 22 ho base 5 i0 (.int .u8 0) 1 1 Tryd.underlying22 hi hz0 hz1 hz2 rfl (by decide) v n cells hs hown ad m cap (bs f m) hx (by rw [bs_length]; omega) ?_ (bs_one f m) (by unfold maxLen; omega) (by omega) hbase (fun v' w' h3 h4 _ => h v' w' h3 h4)
    intro j u hu
    obtain ⟨hj, rfl⟩ := bs_get hu
    exact hc j hj
/-- bytes of one's own, as the program's calls take them -/
theorem slAt_own {w : World} {B n : Nat} {v : Value} {f : Nat → Nat} (h : w.ownsRow B 5 1 v n (bs f n)) : SlAt w v n f ∧ ArgS w f n v := by
  rcases h.2 with h0 | ⟨g, cap, cur, rfl, hg, hgg, hc1, hc2, hz, ht⟩
  · obtain ⟨rfl, e⟩ : n = 0 ∧ v = .slice none 0 0 := by
      first | exact h0 | exact ⟨h0.2, h0.1⟩
    subst e
    exact ⟨.inl ⟨rfl, rfl⟩, .nil rfl⟩
  · have hby : ∀ j, j < n → w.cell? ⟨g, 0 + j, none⟩ = some (.int .u8 (f j : Nat)) := by
      intro j hj
      have h3 := h.cells (g := g) rfl j (.int .u8 (f j : Nat)) (by simp [bs, hj])
      rwa [show (Addr.add ⟨g, 0, none⟩ j) = ⟨g, 0 + j, none⟩ from by simp [Addr.add]; omega] at h3
    exact ⟨.inr ⟨g, 0, cap, rfl, hc1, hc2, hby⟩, .some ⟨g, 0, none⟩ cap hc1 hc2 (fun j hj => by rw [show (Addr.add ⟨g, 0, none⟩ j) = ⟨g, 0 + j, none⟩ from by simp [Addr.add]; omega]; exact hby j hj) (fun _ => ⟨g, 0, rfl⟩)⟩
end Go.Proofs.YtoccedbnnafjcaaDoor
