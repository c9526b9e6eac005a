import Derived.Test.YtoccedbnnafjcaaDoorLxRdM
import Derived.Test.YtoccedbnnafjcaaDoorRows
import Derived.Test.YtoccedbnnafjcaaDoorRnEnc
import Derived.WalkKit
import Derived.WalkSpells
import Derived.WalkLawsBesides
import Derived.LoopTactic
import Derived.Laws.RangeAny
import Derived.Laws.IdiomStrings
import Derived.Test.YtoccedbnnafjcaaDoorLxShelf
import Derived.Lib.IndexLaws
import Derived.Deep.MidRow
import Derived.Lib.SmallJoins
/-
  The program's table of ranges in memory, and WALKS over chars.Is, chars.Next and chars.Count.
-/
namespace Go.Proofs.YtoccedbnnafjcaaDoor
open Go.RowKit Go.Lib


/-- the table lies in memory: the variable's slice, and the cells of its ranges -/
def Spans (w : World) : Prop := ∃ b o cap, w.cell? ⟨3, 0, none⟩ = some (.slice (some ⟨b, o, none⟩) 45 cap) ∧
  ∀ i s, Ch.tab[i]? = some s → w.cell? ⟨b, o + i * 3, none⟩ = some (.int .i64 (s.1 : Nat)) ∧ w.cell? ⟨b, o + i * 3 + 1, none⟩ = some (.int .i32 (s.2.1 : Nat)) ∧ w.cell? ⟨b, o + i * 3 + 2, none⟩ = some (.int .i32 (s.2.2 : Nat))
theorem Spans.below {w w' : World} {B : Nat} (h : Spans w) (hb : Below B w w') (hB : w.heap.size ≤ B) : Spans w' := by
  obtain ⟨b, o, cap, h0, hc⟩ := h
  have k : ∀ {p : Addr} {v}, w.cell? p = some v → w'.cell? p = some v := fun {p v} e => (hb.cell (p := p) (Nat.lt_of_lt_of_le (block_lt_of_cell e) hB)).trans e
  refine ⟨b, o, cap, k h0, fun i s hs => ?_⟩
  obtain ⟨c1, c2, c3⟩ := hc i s hs
  exact ⟨k c1, k c2, k c3⟩

set_option maxHeartbeats 1000000 in
theorem is_any (c r : Int) (w : World) (hS : Spans w) :
    Calls Tryd.prog 44 #[.int .i64 c, .int .i32 r] w fun e w' => e = .returned (.bool (Ch.isT Ch.tab c r)) ∧ Below w.heap.size w w' := by
  obtain ⟨b, o, cap, h0, hc⟩ := hS
  go_enter Tryd.func44, Tryd.ntmps44
  go_wp2
  go_loopw [9] (fun i wr => ∃ k : Nat, i = .int .i64 k ∧ k ≤ 45 ∧ Ch.isT (Ch.tab.drop k) c r = Ch.isT Ch.tab c r ∧ Below w.heap.size w wr) (fun i _ => 45 - (RowKit.intOf i).toNat)
  case atStart => exact ⟨0, rfl, by omega, rfl, Below.refl _ _⟩
  case round =>
    obtain ⟨k, rfl, hk, hd, hB⟩ := hrel
    by_cases hlt : k < 45
    · have g1 : (k : Int) < 45 := by omega
      have hkl : k < Ch.tab.length := by rw [Ch.tab_length]; exact hlt
      obtain ⟨c1, c2, c3⟩ := hc k _ (List.getElem?_eq_getElem hkl)
      have e1 := (hB.cell (p := ⟨b, o + k * 3, none⟩) (block_lt_of_cell c1)).trans c1
      have e2 := (hB.cell (p := ⟨b, o + k * 3 + 1, none⟩) (block_lt_of_cell c2)).trans c2
      have e3 := (hB.cell (p := ⟨b, o + k * 3 + 2, none⟩) (block_lt_of_cell c3)).trans c3
      rw [List.drop_eq_getElem_cons hkl, Ch.isT_cons] at hd
      have hbs := hB.size
      generalize Ch.tab[k] = s at *
      obtain ⟨cl, lo, hi⟩ := s
      simp only at e1 e2 e3 hd
      clear c1 c2 c3 hc h0 hkl
      by_cases q : (cl : Int) = c ∧ (lo : Int) ≤ r ∧ r ≤ (hi : Int)
      · rw [if_pos q] at hd
        obtain ⟨q1, q2, q3⟩ := q
        have n1 : ((cl : Int) == c) = true := by simp [q1]
        have HD := hide' hd
        clear hd q1
        go_wp2
        go_ret
        exact ⟨by rw [← HD.out]; rfl, hB.alloc hbs _⟩
      · rw [if_neg q] at hd
        have HD := hide' hd
        clear hd
        by_cases q1 : (cl : Int) = c
        · have n1 : ((cl : Int) == c) = true := by simp [q1]
          by_cases q2 : (lo : Int) ≤ r
          · have q3 : ¬ r ≤ (hi : Int) := fun h => q ⟨q1, q2, h⟩
            clear q q1
            go_wp2
            go_roundw
            case rel => exact ⟨k + 1, by go_num, by omega, HD.out, hB.alloc hbs _⟩
            case measure => simp [RowKit.intOf]; omega
          · clear q q1
            go_wp2
            go_roundw
            case rel => exact ⟨k + 1, by go_num, by omega, HD.out, hB.alloc hbs _⟩
            case measure => simp [RowKit.intOf]; omega
        · have n1 : ((cl : Int) == c) = false := by simp [q1]
          clear q q1
          go_wp2
          go_roundw
          case rel => exact ⟨k + 1, by go_num, by omega, HD.out, hB.alloc hbs _⟩
          case measure => simp [RowKit.intOf]; omega
    · obtain rfl : k = 45 := by omega
      rw [show Ch.tab.drop 45 = [] from by decide] at hd
      have HD := hide' hd
      clear hd hc h0
      go_wp2
      go_ret
      exact ⟨by rw [← HD.out]; rfl, hB⟩

end Go.Proofs.YtoccedbnnafjcaaDoor
/-
  WALKS over runes.endsLine and runes.At: a place by its bytes.
-/
namespace Go.Proofs.YtoccedbnnafjcaaDoor
open Go.RowKit Go.Lib

namespace Rn
/-- does a line end behind the character r at p? -/
def lineEnd (f : Nat → Nat) (n p r : Nat) : Bool := if r = 13 then decide (p + 1 = n ∨ f (p + 1) ≠ 10) else decide (r = 10)
/-- rune, line, column behind the characters from p on up to a, by at most so many -/
def plcFrom (f : Nat → Nat) (n a : Nat) : Nat → Nat → Nat → Nat → Nat → Nat × Nat × Nat
  | 0, _, rn, ln, co => (rn, ln, co)
  | fuel + 1, p, rn, ln, co => if a ≤ p then (rn, ln, co) else
      if lineEnd f n p (dec (off f p) (a - p)).1 then plcFrom f n a fuel (p + (dec (off f p) (a - p)).2) (rn + 1) (ln + 1) 1
      else plcFrom f n a fuel (p + (dec (off f p) (a - p)).2) (rn + 1) ln (co + 1)
def plc (f : Nat → Nat) (n a : Nat) : Nat × Nat × Nat := plcFrom f n a a 0 0 1 1
theorem plcFrom_end (f : Nat → Nat) (n a fuel p rn ln co : Nat) (h : a ≤ p) : plcFrom f n a fuel p rn ln co = (rn, ln, co) := by
  cases fuel with
  | zero => rfl
  | succ m => unfold plcFrom; rw [if_pos h]
theorem dec_pos (f : Nat → Nat) (n : Nat) (hf : ∀ j, f j < 256) (hn : 0 < n) : 0 < (dec f n).2 ∧ (dec f n).2 ≤ n ∧ (dec f n).2 ≤ 4 := by
  rw [dec_whole f n hf hn]
  have a1 := fk_le f n
  have a2 := fs_le f n
  split
  · next h =>
    simp only [whole, decide_eq_true_eq] at h
    exact ⟨h.1, by show fs f n ≤ n; omega, a2⟩
  · exact ⟨by simp, by show 1 ≤ n; omega, by simp⟩
theorem dec_lt (f : Nat → Nat) (n : Nat) (hf : ∀ j, f j < 256) (hn : 0 < n) : (dec f n).1 < 2097152 := by
  rw [dec_whole f n hf hn]
  split
  · exact fv_le f hf
  · show 65533 < 2097152; omega
/-- the model's decoder at a place of such bytes -/
theorem arr_decode (f : Nat → Nat) (n p : Nat) (hf : ∀ j, f j < 256) (hp : p < n) : Utf8.decode (arr f n) p = dec (off f p) (n - p) := by
  rw [decode_at, arr_size, dec]
  exact decodeN_congr (fun _ => arr_get f n p hp (hf _)) (fun h => arr_get f n (p + 1) (by omega) (hf _)) (fun h => arr_get f n (p + 2) (by omega) (hf _)) (fun h => arr_get f n (p + 3) (by omega) (hf _)) (by omega)
end Rn

theorem ret_bool {a b : Bool} (h : a = b) : Ending.returned (.bool a) = .returned (.bool b) := by rw [h]

set_option maxHeartbeats 1000000 in
theorem endsLine_any (f : Nat → Nat) (n b off cap i : Nat) (r : Nat) (w : World) (hi : i < n) (hn : n ≤ 9223372036854775807) (hp : Bytes w b off n f) :
    Calls Tryd.prog 40 #[.slice (some ⟨b, off, none⟩) n cap, .int .i64 i, .int .i32 r] w fun e w' => e = .returned (.bool (Rn.lineEnd f n i r)) ∧ w' = w := by
  unfold Rn.lineEnd
  by_cases hr : r = 13
  · subst hr
    by_cases h1 : i + 1 = n
    · have h2 : ((i : Int) + 1 == n) = true := by simp; omega
      clear hp
      go_enter Tryd.func40, Tryd.ntmps40
      go_wp2
      go_ret
      exact ⟨ret_bool (by simp), rfl⟩
    · have h2 : ((i : Int) + 1 == n) = false := by simp; omega
      have c1 := hp (i + 1) (by omega)
      have hl : (i : Int) + 1 < n := by omega
      clear hp
      go_enter Tryd.func40, Tryd.ntmps40
      go_wp2
      go_ret
      refine ⟨ret_bool ?_, rfl⟩
      rw [Bool.eq_iff_iff]
      simp
      omega
  · have h2 : ((r : Int) == 13) = false := by simp; omega
    clear hp
    go_enter Tryd.func40, Tryd.ntmps40
    go_wp2
    go_ret
    refine ⟨ret_bool ?_, rfl⟩
    rw [Bool.eq_iff_iff]
    simp
    omega

/-- 'string(b)' of bytes that are told by their place -/
theorem bytes_string (W : World) (b off n cap : Nat) (f : Nat → Nat) (hf : ∀ j, f j < 256) (hp : Bytes W b off n f) :
    (convert 22 9 (.slice (some ⟨b, off, none⟩) n cap)).run Tryd.prog W = .ok (.string (Rn.arr f n)) W := by
  have h := run_convert_bytes_back (P := Tryd.prog) W 22 9 5 ⟨b, off, none⟩ cap (Rn.arr f n).data.toList Tryd.underlying22 Tryd.underlying5 Tryd.underlying9 (fun j hj => by
    have hj' : j < n := by simpa [Rn.arr] using hj
    rw [show (Addr.add ⟨b, off, none⟩ j) = ⟨b, off + j, none⟩ from by simp [Addr.add], hp j hj']
    have e : ((Rn.arr f n).data.toList[j]).toNat = f j := by
      simp [Rn.arr]
      have := hf j
      omega
    rw [e])
  have e1 : (Rn.arr f n).data.toList.length = n := by simp [Rn.arr]
  rw [e1] at h
  simpa using h

set_option maxHeartbeats 1000000 in
/-- the place is outside -/
theorem at_out (v : Option Addr) (n cap : Nat) (k : Int) (w : World) (h : k < 0 ∨ (n : Int) < k) :
    Calls Tryd.prog 16 #[.slice v n cap, .int .i64 k] w fun e w' => e = .returned (.tuple #[.agg #[.int .i64 0, .int .i64 0, .int .i64 0, .int .i64 0], .int .i64 2]) ∧ Below w.heap.size w w' := by
  rcases h with h | h
  · go_enter Tryd.func16, Tryd.ntmps16
    go_wp2
    exact bodyPost_ret (v := .tuple #[.agg #[.int .i64 0, .int .i64 0, .int .i64 0, .int .i64 0], .int .i64 2]) (by simp [results, Tryd.results16, go_sem]) rfl ⟨rfl, (Below.refl _ _).alloc (Nat.le_refl _) _⟩
  · have h0 : ¬ k < 0 := by omega
    go_enter Tryd.func16, Tryd.ntmps16
    go_wp2
    exact bodyPost_ret (v := .tuple #[.agg #[.int .i64 0, .int .i64 0, .int .i64 0, .int .i64 0], .int .i64 2]) (by simp [results, Tryd.results16, go_sem]) rfl ⟨rfl, (Below.refl _ _).alloc (Nat.le_refl _) _⟩

/-- 'next' of an iterator that is the last block -/
theorem next_alloc (W : World) (k : Nat) (hk : W.heap.size = k) (f : Nat → Nat) (a pos : Nat) (hf : ∀ j, f j < 256) (hlt : pos < a) (ty : TypeId) :
    (Instr.next (.pointer (some ⟨k, 0, none⟩)) true ty).run Tryd.prog (W.alloc (.stringIter (Rn.arr f a) pos)) =
      .ok (.tuple #[.bool true, .int .i64 pos, .int .i32 (Rn.dec (Rn.off f pos) (a - pos)).1]) (W.alloc (.stringIter (Rn.arr f a) (pos + (Rn.dec (Rn.off f pos) (a - pos)).2))) := by
  subst hk
  have := run_next_any (P := Tryd.prog) W (Rn.arr f a) pos ty (by rw [Rn.arr_size]; exact hlt)
  rw [Rn.arr_decode f a pos hf hlt] at this
  exact this
theorem next_alloc_end (W : World) (k : Nat) (hk : W.heap.size = k) (f : Nat → Nat) (a pos : Nat) (hlt : ¬ pos < a) (ty : TypeId) :
    (Instr.next (.pointer (some ⟨k, 0, none⟩)) true ty).run Tryd.prog (W.alloc (.stringIter (Rn.arr f a) pos)) = .ok (.tuple #[.bool false]) (W.alloc (.stringIter (Rn.arr f a) pos)) := by
  subst hk
  exact run_next_end (P := Tryd.prog) W (Rn.arr f a) pos ty (by rw [Rn.arr_size]; exact hlt)
theorem iterPos_alloc (W : World) (k : Nat) (s : ByteArray) (p : Nat) (hk : W.heap.size = k) : (W.alloc (.stringIter s p)).iterPos k = p := by
  subst hk
  exact World.iterPos_iter W s p
/-- At's world in its loop -/
def atW (w : World) (s : ByteArray) (pos a rn ln co : Nat) : World :=
  ((w.alloc (.cells #[.int .i64 0, .int .i64 0, .int .i64 0, .int .i64 0] 30)).alloc (.cells #[.int .i64 a, .int .i64 rn, .int .i64 ln, .int .i64 co] 30)).alloc (.stringIter s pos)

set_option maxHeartbeats 2000000 in
/-- At of a place of the bytes -/
theorem at_in (f : Nat → Nat) (n b off cap a : Nat) (w : World) (hf : ∀ j, f j < 256) (ha : a ≤ n) (hc : n ≤ cap) (_hm : cap ≤ maxLen) (hbig : n ≤ 4611686018427387904)
    (hp : Bytes w b off n f) :
    Calls Tryd.prog 16 #[.slice (some ⟨b, off, none⟩) n cap, .int .i64 a] w fun e w' =>
      e = .returned (.tuple #[.agg #[.int .i64 a, .int .i64 (Rn.plc f n a).1, .int .i64 (Rn.plc f n a).2.1, .int .i64 (Rn.plc f n a).2.2], .int .i64 0]) ∧ Below w.heap.size w w' := by
  have hm : cap ≤ 9223372036854775807 := by unfold maxLen at _hm; omega
  have h0 : ¬ (a : Int) < 0 := by omega
  have h1 : ¬ (n : Int) < (a : Int) := by omega
  have hcv : ∀ o1 o2, (convert 22 9 (.slice (some ⟨b, off, none⟩) a cap)).run Tryd.prog ((w.alloc o1).alloc o2) = .ok (.string (Rn.arr f a)) ((w.alloc o1).alloc o2) := fun o1 o2 =>
    bytes_string _ b off a cap f hf (((hp.le ha).below ((Below.refl w.heap.size w).alloc (Nat.le_refl _) o1) (Nat.le_refl _)).below ((Below.refl (w.alloc o1).heap.size (w.alloc o1)).alloc (Nat.le_refl _) o2) (Nat.le_refl _))
  go_enter Tryd.func16, Tryd.ntmps16
  go_wp2
  go_loopw [] (fun wr => ∃ (pos fuel rn ln co : Nat), wr = atW w (Rn.arr f a) pos a rn ln co ∧ pos ≤ a ∧ a ≤ pos + fuel ∧ rn ≤ pos ∧ ln ≤ pos + 1 ∧ co ≤ pos + 1 ∧ Rn.plcFrom f n a fuel pos rn ln co = Rn.plc f n a) (fun wr => a - wr.iterPos (w.heap.size + 2))
  case atStart => exact ⟨0, a, 0, 1, 1, rfl, by omega, by omega, by omega, by omega, by omega, rfl⟩
  case round =>
    obtain ⟨pos, fuel, rn, ln, co, rfl, hpa, hfu, hrn, hln, hco, hpl⟩ := hrel
    have hsz : (Rn.arr f a).size = a := Rn.arr_size f a
    by_cases hlt : pos < a
    · obtain ⟨m, rfl⟩ : ∃ m, fuel = m + 1 := ⟨fuel - 1, by omega⟩
      have hg : ∀ j, Rn.off f pos j < 256 := fun j => hf _
      obtain ⟨hd1, hd2, hd3⟩ := Rn.dec_pos (Rn.off f pos) (a - pos) hg (by omega)
      have hd4 := Rn.dec_lt (Rn.off f pos) (a - pos) hg (by omega)
      have hnx := fun W hk ty => next_alloc W (w.heap.size + 1 + 1) hk f a pos hf hlt ty
      have cE : ∀ o1 o2 o3, _ := fun o1 o2 o3 => endsLine_any f n b off cap pos (Rn.dec (Rn.off f pos) (a - pos)).1 (((w.alloc o1).alloc o2).alloc o3) (by omega) (by omega)
        (((hp.below ((Below.refl w.heap.size w).alloc (Nat.le_refl _) o1) (Nat.le_refl _)).below ((Below.refl (w.alloc o1).heap.size (w.alloc o1)).alloc (Nat.le_refl _) o2) (Nat.le_refl _)).below ((Below.refl ((w.alloc o1).alloc o2).heap.size _).alloc (Nat.le_refl _) o3) (Nat.le_refl _))
      unfold Rn.plcFrom at hpl
      rw [if_neg (by omega)] at hpl
      unfold atW
      clear hcv hp hg
      generalize (Rn.dec (Rn.off f pos) (a - pos)).1 = r at *
      generalize (Rn.dec (Rn.off f pos) (a - pos)).2 = d at *
      cases hle : Rn.lineEnd f n pos r
      · rw [hle] at cE hpl
        have HP : Hid (_ = _) := hpl
        clear hpl hle
        go_wp2_with fail
        refine (cE _ _ _).mono ?_
        rintro e w1 ⟨rfl, rfl⟩
        go_wp2_with fail
        go_roundw
        case rel => exact ⟨pos + d, m, rn + 1, ln, co + 1, by go_num, by omega, by omega, by omega, by omega, by omega, HP.out⟩
        case measure => rw [iterPos_alloc _ _ _ _ (by simp), iterPos_alloc _ _ _ _ (by simp)]; omega
      · rw [hle] at cE hpl
        have HP : Hid (_ = _) := hpl
        clear hpl hle
        go_wp2_with fail
        refine (cE _ _ _).mono ?_
        rintro e w1 ⟨rfl, rfl⟩
        go_wp2_with fail
        go_roundw
        case rel => exact ⟨pos + d, m, rn + 1, ln + 1, 1, by go_num, by omega, by omega, by omega, by omega, by omega, HP.out⟩
        case measure => rw [iterPos_alloc _ _ _ _ (by simp), iterPos_alloc _ _ _ _ (by simp)]; omega
    · obtain rfl : pos = a := by omega
      rw [Rn.plcFrom_end _ _ _ _ _ _ _ _ (Nat.le_refl _)] at hpl
      have HP : Hid (_ = _) := hpl
      have hnx := fun W hk ty => next_alloc_end W (w.heap.size + 1 + 1) hk f pos pos hlt ty
      clear hpl hcv hp
      unfold atW
      go_wp2_with fail
      refine bodyPost_ret (v := .tuple #[.agg #[.int .i64 pos, .int .i64 rn, .int .i64 ln, .int .i64 co], .int .i64 0]) (by simp [results, Tryd.results16, go_sem]) rfl ⟨by rw [← HP.out], ?_⟩
      exact (((Below.refl w.heap.size w).alloc (Nat.le_refl _) _).alloc (by simp) _).alloc (by simp; omega) _
end Go.Proofs.YtoccedbnnafjcaaDoor
/-
  WALKS over lexis.leading, and over strings.Cut at one byte.
-/
namespace Go.Proofs.YtoccedbnnafjcaaDoor
open Go.RowKit Go.Lib

set_option maxRecDepth 100000 in
set_option maxHeartbeats 2000000 in
theorem leading_any (f : Nat → Nat) (n : Nat) (c : Int) (w : World) (hf : ∀ j, f j < 256) (hn : n ≤ 9223372036854775807) (hS : Spans w) :
    Calls Tryd.prog 20 #[.string (Rn.arr f n), .int .i64 c] w fun e w' => e = .returned (.int .i64 (Lx.lead f n c)) ∧ Below w.heap.size w w' := by
  have hsz := Rn.arr_size f n
  have cI : ∀ (r : Int) w1, Below w.heap.size w w1 → _ := fun r w1 hb => is_any c r w1 (hS.below hb (Nat.le_refl _))
  clear hS
  go_enter Tryd.func20, Tryd.ntmps20
  go_wp2
  go_loopw [] (fun wr => ∃ (pos fuel : Nat), wr.heap[w.heap.size]? = some (.stringIter (Rn.arr f n) pos) ∧ Lx.leadF f n c fuel pos = Lx.lead f n c ∧ n ≤ pos + fuel ∧ pos ≤ n ∧ Below w.heap.size w wr) (fun wr => n - wr.iterPos w.heap.size)
  case atStart => exact ⟨0, n, World.iter_heap w _ 0, rfl, by omega, by omega, (Below.refl _ _).alloc (Nat.le_refl _) _⟩
  case round =>
    obtain ⟨pos, fuel, hit, hpre, hfu, hpn, hB⟩ := hrel
    by_cases hlt : pos < n
    · have hnx : ∀ ty, (Instr.next (.pointer (some ⟨w.heap.size, 0, none⟩)) true ty).run Tryd.prog wr = _ := fun ty => Lib.run_next_any_at wr w.heap.size (Rn.arr f n) pos ty hit (by rw [hsz]; exact hlt)
      rw [Rn.arr_decode f n pos hf hlt] at hnx
      obtain ⟨q, rfl⟩ : ∃ q, fuel = q + 1 := ⟨fuel - 1, by omega⟩
      rw [Lx.leadF_step _ _ _ _ _ hlt] at hpre
      obtain ⟨hd1, hd2, hd3⟩ := Rn.dec_pos (Rn.off f pos) (n - pos) (fun _ => hf _) (by omega)
      have hit2 := Lib.iterAt_heap wr w.heap.size (Rn.arr f n) pos (pos + (Rn.dec (Rn.off f pos) (n - pos)).2) hit
      have hB2 := Lib.below_iterAt hB (Nat.le_refl _) (Rn.arr f n) (pos + (Rn.dec (Rn.off f pos) (n - pos)).2)
      have cc := cI (Rn.dec (Rn.off f pos) (n - pos)).1 _ hB2
      have hi1 : w.heap.size < (wr.iterAt w.heap.size (Rn.arr f n) (pos + (Rn.dec (Rn.off f pos) (n - pos)).2)).heap.size := by
        obtain ⟨hh, _⟩ := Array.getElem?_eq_some_iff.1 hit2
        exact hh
      clear cI
      generalize (Rn.dec (Rn.off f pos) (n - pos)).1 = r at *
      generalize (Rn.dec (Rn.off f pos) (n - pos)).2 = d at *
      cases his : Ch.isT Ch.tab c r
      · rw [his] at cc hpre
        simp only [Bool.false_eq_true, if_false] at hpre
        have HP := hide' hpre
        clear hpre his
        go_wp2_with fail
        refine cc.mono ?_
        rintro e w1 ⟨rfl, hb1⟩
        go_wp2_with fail
        go_ret
        exact ⟨by rw [← HP.out]; go_num, hB2.trans (hb1.mono (by omega))⟩
      · rw [his] at cc hpre
        simp only [if_true] at hpre
        have HP := hide' hpre
        clear hpre his
        go_wp2_with fail
        refine cc.mono ?_
        rintro e w1 ⟨rfl, hb1⟩
        have hit3 := (hb1.block w.heap.size hi1).trans hit2
        go_wp2_with fail
        go_roundw
        case rel => exact ⟨pos + d, q, hit3, HP.out, by omega, by omega, hB2.trans (hb1.mono (by omega))⟩
        case measure => simp only [World.iterPos, hit3, hit]; omega
    · have hnx : ∀ ty, (Instr.next (.pointer (some ⟨w.heap.size, 0, none⟩)) true ty).run Tryd.prog wr = _ := fun ty => Lib.run_next_end_at wr w.heap.size (Rn.arr f n) pos ty hit (by rw [hsz]; exact hlt)
      rw [Lx.leadF_end _ _ _ _ _ hlt] at hpre
      have HP := hide' hpre
      clear hpre cI
      go_wp2_with fail
      go_ret
      exact ⟨by rw [← HP.out]; go_num, hB⟩

namespace Lx
theorem arr_get? (g : Nat → Nat) (m : Nat) (hg : ∀ j, g j < 256) (k : Nat) (c : Nat) (hc : c < 256) : (Rn.arr g m).data.toList[k]? = some c.toUInt8 ↔ k < m ∧ g k = c := by
  simp only [Rn.arr, Array.toList_ofFn, List.getElem?_ofFn]
  by_cases h : k < m
  · have := hg k
    simp only [h, dif_pos, Option.some.injEq, true_and]
    constructor
    · intro e
      have := congrArg UInt8.toNat e
      simp at this
      omega
    · intro e; rw [e]
  · simp [h]
/-- the first such byte, as the library finds it -/
theorem index_eq (g : Nat → Nat) (m : Nat) (hg : ∀ j, g j < 256) (c : Nat) (hc : c < 256) :
    Lib.indexByte (Rn.arr g m).data.toList c.toUInt8 = if idx g m c < m then ((idx g m c : Nat) : Int) else -1 := by
  obtain ⟨a2, a3, a4⟩ := idx_spec g m c
  have hge := Lib.indexByte_ge (Rn.arr g m).data.toList c.toUInt8
  obtain ⟨x, hx⟩ : ∃ x, Lib.indexByte (Rn.arr g m).data.toList c.toUInt8 = x := ⟨_, rfl⟩
  rw [hx] at hge ⊢
  by_cases h : x = -1
  · rw [h] at hx
    have k := Lib.indexByte_none hx
    rw [if_neg, h]
    intro hl
    exact k (idx g m c) ((arr_get? g m hg _ c hc).2 ⟨hl, a4 hl⟩)
  · obtain ⟨o, rfl⟩ : ∃ o : Nat, x = o := ⟨x.toNat, by omega⟩
    obtain ⟨k1, k2⟩ := Lib.indexByte_some hx
    obtain ⟨q1, q2⟩ := (arr_get? g m hg o c hc).1 k1
    have : idx g m c = o := idx_of (fun j hj e => k2 j hj ((arr_get? g m hg j c hc).2 ⟨by omega, e⟩)) (by omega) (fun _ => q2)
    rw [this, if_pos q1]
end Lx

theorem arr_front (g : Nat → Nat) (m k : Nat) (h : k ≤ m) : (Rn.arr g m).extract 0 k = Rn.arr g k := by
  apply ByteArray.ext
  apply Array.ext
  · simp [Rn.arr, ByteArray.data_extract]; omega
  · intro i h1 h2
    simp [Rn.arr, ByteArray.data_extract]
theorem arr_rest (g : Nat → Nat) (m k : Nat) : (Rn.arr g m).extract k m = Rn.arr (Rn.off g k) (m - k) := by
  apply ByteArray.ext
  apply Array.ext
  · simp [Rn.arr, ByteArray.data_extract]
  · intro i h1 h2
    simp [Rn.arr, ByteArray.data_extract, Rn.off]
end Go.Proofs.YtoccedbnnafjcaaDoor
/-
  Words as cells: a struct of seven cells stored and answered.
-/
namespace Go.Proofs.YtoccedbnnafjcaaDoor
open Go.RowKit Go.Lib
namespace Lx
/-- the cells of a word, its place with it -/
def wdC (k : Nat) (tx : ByteArray) (nm : Nat) (p : Nat × Nat × Nat × Nat) : Array Value :=
  #[.int .i64 (k : Nat), .string tx, .int .i64 (nm : Nat), .int .i64 (p.1 : Nat), .int .i64 (p.2.1 : Nat), .int .i64 (p.2.2.1 : Nat), .int .i64 (p.2.2.2 : Nat)]
def wdA (x : Wd) : Array Value := wdC x.k x.tx x.nm (0, 0, 0, 0)
def wd0 : Array Value := #[.int .i64 0, .string ⟨#[]⟩, .int .i64 0, .int .i64 0, .int .i64 0, .int .i64 0, .int .i64 0]
/-- what the four answer -/
def Wd.ans (x : Wd) : Value := .tuple #[.agg (wdA x), .int .i64 (x.wd : Nat), .bool x.ok]
theorem wdInfo : (Tryd.prog.info? 43).map (·.size) = some 7 := by kernel_rfl
theorem wdOne (k : Nat) (tx : ByteArray) (nm : Nat) (p : Nat × Nat × Nat × Nat) : (wdC k tx nm p).all (·.oneCell') = true := by simp [wdC, Value.oneCell']
theorem heap_new (w : World) (o : Obj) : (w.alloc o).heap[w.heap.size]? = some o := by
  show (w.heap.push o)[w.heap.size]? = _
  simp
theorem heap_far {b q : Nat} (hq : q ≠ b) : ∀ (vs : List Value) (o : Nat) (w : World), (w.setCells b o vs).heap[q]? = w.heap[q]?
  | [], _, _ => rfl
  | v :: r, o, w => (heap_far hq r (o + 1) (w.setCell ⟨b, o, none⟩ v)).trans (RowKit.Below.heap_setCell _ _ _ _ hq)
theorem size_setCells {b : Nat} : ∀ (vs : List Value) (o : Nat) (w : World), (w.setCells b o vs).heap.size = w.heap.size
  | [], _, _ => rfl
  | v :: r, o, w => (size_setCells r (o + 1) (w.setCell ⟨b, o, none⟩ v)).trans (by simp [World.setCell])
theorem below_cells {B b : Nat} {a : World} (hb : B ≤ b) : ∀ (vs : List Value) (o : Nat) (w : World), Below B a w → Below B a (w.setCells b o vs)
  | [], _, _, h => h
  | v :: r, o, _, h => below_cells hb r (o + 1) _ (h.setCell (p := ⟨b, o, none⟩) hb v)
/-- cells written one behind the other -/
def setAll (cur : Array Value) : Nat → List Value → Array Value
  | _, [] => cur
  | o, v :: r => setAll (cur.setIfInBounds o v) (o + 1) r
theorem heap_setCells {b : Nat} {t : TypeId} : ∀ (vs : List Value) (o : Nat) (cur : Array Value) (w : World), w.heap[b]? = some (.cells cur t (0, 0)) → (w.setCells b o vs).heap[b]? = some (.cells (setAll cur o vs) t (0, 0))
  | [], _, _, _, h => h
  | v :: r, o, cur, w, h => heap_setCells r (o + 1) (cur.setIfInBounds o v) (w.setCell ⟨b, o, none⟩ v) (Go.Joins.block_setCell (i := o) h v)
theorem there_of {w : World} {b : Nat} {cur : Array Value} {t : TypeId} (h : w.heap[b]? = some (.cells cur t (0, 0))) (o n : Nat) (hn : o + n ≤ cur.size) : w.there b o n := fun j hj =>
  ⟨by rw [Lib.cell_of_heap h, Array.getElem?_eq_getElem (by omega)]; rfl, Lib.frozen_of_heap h _⟩
theorem range_of {w : World} {b : Nat} {cur : Array Value} {t : TypeId} (h : w.heap[b]? = some (.cells cur t (0, 0))) : w.rangeAt b 0 cur.toList := by
  intro j v hv
  rw [Lib.cell_of_heap h, Nat.zero_add, ← Array.getElem?_toList]
  exact hv
/-- a function that answers a struct and two plain values -/
theorem results_word {P : Program} {fn : Func} {a b c : Nat} {t : TypeId} (hr : fn.results = #[.cell a t, .tmp b, .tmp c]) (tmps : Array Value) (p : Addr) (hp : tmps[a]?.getD undef = .pointer (some p)) (v v2 v3 : Value) (w : World) (h : (loadVar t p).run P w = .ok v w) (h2 : tmps[b]?.getD undef = v2) (h3 : tmps[c]?.getD undef = v3) : (results fn tmps).run P w = .ok (.tuple #[v, v2, v3]) w := by
  unfold results
  rw [hr]
  simp [asAddr, hp, h, h2, h3]
theorem results_cell {P : Program} {fn : Func} {a : Nat} {t : TypeId} (hr : fn.results = #[.cell a t]) (tmps : Array Value) (p : Addr) (hp : tmps[a]?.getD undef = .pointer (some p)) (v : Value) (w : World) (h : (loadVar t p).run P w = .ok v w) : (results fn tmps).run P w = .ok v w := by
  unfold results
  rw [hr]
  simp [asAddr, hp, h]
/-- the result's cell, still empty -/
def Emp (w w1 : World) : Prop := w1.heap[w.heap.size]? = some (.cells wd0 43 (0, 0)) ∧ Below w.heap.size w w1
theorem Emp.new (w : World) : Emp w (w.alloc (.cells wd0 43)) := ⟨heap_new w _, (Below.refl _ _).alloc (Nat.le_refl _) _⟩
theorem Emp.below {w w1 w2 : World} (h : Emp w w1) (hb : Below w1.heap.size w1 w2) : Emp w w2 := by
  have hl : w.heap.size < w1.heap.size := (Array.getElem?_eq_some_iff.1 h.1).1
  exact ⟨(hb.block _ hl).trans h.1, h.2.trans (hb.mono h.2.size)⟩
theorem Emp.lt {w w1 : World} (h : Emp w w1) : w.heap.size < w1.heap.size := (Array.getElem?_eq_some_iff.1 h.1).1
theorem Emp.there {w w1 : World} (h : Emp w w1) : w1.there w.heap.size 0 7 := there_of h.1 0 7 (by decide)
/-- the result is stored: what is answered -/
theorem Emp.load {w w1 : World} (h : Emp w w1) (k : Nat) (tx : ByteArray) (nm : Nat) (p : Nat × Nat × Nat × Nat) :
    (loadVar 43 ⟨w.heap.size, 0, none⟩).run Tryd.prog (w1.setCells w.heap.size 0 (wdC k tx nm p).toList) = .ok (.agg (wdC k tx nm p)) (w1.setCells w.heap.size 0 (wdC k tx nm p).toList) :=
  run_loadVar_mid _ w.heap.size 0 43 (wdC k tx nm p).toList _ (World.rangeAt_setCells_same _ _ _ _ h.there) Tryd.underlying43 rfl wdInfo
theorem Emp.fin {w w1 : World} (h : Emp w w1) (vs : List Value) : Below w.heap.size w (w1.setCells w.heap.size 0 vs) := below_cells (Nat.le_refl _) _ _ _ h.2
end Lx
end Go.Proofs.YtoccedbnnafjcaaDoor
/-
  The mathematics of places: one behind the other.
-/
namespace Go.Proofs.YtoccedbnnafjcaaDoor
open Go.RowKit Go.Lib
namespace Lx
open Rn
open _root_.Go.Proofs.YtoccedbnnafjcaaDoor.Fd
/-- one character further -/
def stq (f : Nat → Nat) (N p r : Nat) (s : Nat × Nat × Nat) : Nat × Nat × Nat := if lineEnd f N p r = true then (s.1 + 1, s.2.1 + 1, 1) else (s.1 + 1, s.2.1, s.2.2 + 1)
theorem whole_fits {f : Nat → Nat} {m n : Nat} (h : whole f n = true) (hm : fs f n ≤ m) : whole f m = true ∧ fs f m = fs f n := by
  rcases Nat.le_total m n with q | q
  · have a := whole_down h hm q
    exact ⟨a, (whole_up a q).2.symm⟩
  · exact whole_up h q
theorem plcq_one {f : Nat → Nat} {N p a fuel : Nat} (hf : ∀ j, f j < 256) (h : whole (off f p) (N - p) = true) (ha : p + fs (off f p) (N - p) ≤ a) (s : Nat × Nat × Nat) :
    plcFrom f N a (fuel + 1) p s.1 s.2.1 s.2.2 = plcFrom f N a fuel (p + fs (off f p) (N - p)) (stq f N p (fv (off f p)) s).1 (stq f N p (fv (off f p)) s).2.1 (stq f N p (fv (off f p)) s).2.2 := by
  obtain ⟨a1, a2, a3, a4⟩ := whole_lt h
  obtain ⟨b1, b2⟩ := whole_fits (m := a - p) h (by omega)
  have hd := dec_whole (off f p) (a - p) (fun _ => hf _) (by omega)
  rw [b1, if_pos rfl, b2] at hd
  show (if a ≤ p then _ else _) = _
  unfold stq
  rw [if_neg (by omega), hd]
  dsimp only
  split <;> rfl
theorem plcq_run {f : Nat → Nat} {N : Nat} (hf : ∀ j, f j < 256) {p q : Nat} (h : Run f N p q) : ∃ (k : Nat) (W : Nat × Nat × Nat → Nat × Nat × Nat), ∀ (a fuel : Nat) (s : Nat × Nat × Nat), q ≤ a → a ≤ p + fuel →
    a ≤ q + (fuel - k) ∧ plcFrom f N a fuel p s.1 s.2.1 s.2.2 = plcFrom f N a (fuel - k) q (W s).1 (W s).2.1 (W s).2.2 := by
  induction h with
  | refl p => exact ⟨0, id, fun a fuel s h1 h2 => ⟨h2, rfl⟩⟩
  | @step p q h r ih =>
    obtain ⟨k, W, hW⟩ := ih
    have hle := r.le
    obtain ⟨a1, a2, a3, a4⟩ := whole_lt h
    refine ⟨k + 1, fun s => W (stq f N p (fv (off f p)) s), fun a fuel s h1 h2 => ?_⟩
    obtain ⟨m, rfl⟩ : ∃ m, fuel = m + 1 := ⟨fuel - 1, by omega⟩
    rw [plcq_one hf h (by omega)]
    have := hW a m (stq f N p (fv (off f p)) s) h1 (by omega)
    rw [show m + 1 - (k + 1) = m - k by omega]
    exact this
/-- more than enough is as good as enough -/
theorem plcq_fuel {f : Nat → Nat} {N a : Nat} (hf : ∀ j, f j < 256) : ∀ (x y p rn ln co : Nat), a ≤ p + x → a ≤ p + y → plcFrom f N a x p rn ln co = plcFrom f N a y p rn ln co
  | 0, y, p, rn, ln, co, hx, _ => by rw [plcFrom_end _ _ _ _ _ _ _ _ (by omega), plcFrom_end _ _ _ _ _ _ _ _ (by omega)]
  | x + 1, 0, p, rn, ln, co, _, hy => by rw [plcFrom_end _ _ _ _ _ _ _ _ (by omega), plcFrom_end _ _ _ _ _ _ _ _ (by omega)]
  | x + 1, y + 1, p, rn, ln, co, hx, hy => by
    unfold plcFrom
    by_cases c : a ≤ p
    · rw [if_pos c, if_pos c]
    · rw [if_neg c, if_neg c]
      have q := dec_pos (off f p) (a - p) (fun _ => hf _) (by omega)
      split
      · exact plcq_fuel hf x y _ _ _ _ (by omega) (by omega)
      · exact plcq_fuel hf x y _ _ _ _ (by omega) (by omega)
/-- from a later byte on -/
theorem plcq_off {f : Nat → Nat} {n d a : Nat} (hd : d ≤ n) : ∀ (x p rn ln co : Nat), p < n - d ∨ a ≤ p → a ≤ n - d → plcFrom (off f d) (n - d) a x p rn ln co = plcFrom f n (d + a) x (d + p) rn ln co
  | 0, p, rn, ln, co, _, _ => rfl
  | x + 1, p, rn, ln, co, hp, ha => by
    by_cases c : a ≤ p
    · rw [plcFrom_end _ _ _ _ _ _ _ _ c, plcFrom_end _ _ _ _ _ _ _ _ (by omega)]
    · have e : ∀ r, lineEnd (off f d) (n - d) p r = lineEnd f n (d + p) r := by
        intro r
        have q : (p + 1 = n - d ∨ f (d + p + 1) ≠ 10) ↔ (d + p + 1 = n ∨ f (d + p + 1) ≠ 10) := by
          constructor
          · rintro (q | q)
            · exact .inl (by omega)
            · exact .inr q
          · rintro (q | q)
            · exact .inl (by omega)
            · exact .inr q
        show (if r = 13 then decide (p + 1 = n - d ∨ f (d + p + 1) ≠ 10) else decide (r = 10)) = (if r = 13 then decide (d + p + 1 = n ∨ f (d + p + 1) ≠ 10) else decide (r = 10))
        simp only [q]
      have e2 : d + (p + (dec (off f (d + p)) (a - p)).2) = d + p + (dec (off f (d + p)) (a - p)).2 := by omega
      have e3 := fun ln' co' => plcq_off (f := f) (n := n) (d := d) (a := a) hd x (p + (dec (off f (d + p)) (a - p)).2) (rn + 1) ln' co' (by omega) ha
      have e4 : d + a - (d + p) = a - p := by omega
      unfold plcFrom
      rw [if_neg c, if_neg (fun q => c (Nat.le_of_add_le_add_left q)), off_off, e4, e, e3, e3, e2]
/-- a place behind a place: where the first lies behind whole characters -/
theorem plcq_add {f : Nat → Nat} {n d a : Nat} (hf : ∀ j, f j < 256) (h : Run f n 0 d) (hd : d + a ≤ n) (s : Nat × Nat × Nat) :
    plcFrom (off f d) (n - d) a a 0 (plcFrom f n d d 0 s.1 s.2.1 s.2.2).1 (plcFrom f n d d 0 s.1 s.2.1 s.2.2).2.1 (plcFrom f n d d 0 s.1 s.2.1 s.2.2).2.2 = plcFrom f n (d + a) (d + a) 0 s.1 s.2.1 s.2.2 := by
  obtain ⟨k, W, hW⟩ := plcq_run hf h
  have e0 : plcFrom f n d d 0 s.1 s.2.1 s.2.2 = W s := by
    rw [(hW d d s (Nat.le_refl _) (by omega)).2, plcFrom_end _ _ _ _ _ _ _ _ (Nat.le_refl _)]
  obtain ⟨d1, d2⟩ := hW (d + a) (d + a) s (by omega) (by omega)
  rw [e0, d2, plcq_off (by omega) a 0 _ _ _ (by omega) (by omega), Nat.add_zero]
  exact plcq_fuel hf _ _ _ _ _ _ (by omega) d1

theorem plcF_bound {f : Nat → Nat} {n a : Nat} (hf : ∀ j, f j < 256) : ∀ (k p rn ln co : Nat), p ≤ a →
    (plcFrom f n a k p rn ln co).1 ≤ rn + (a - p) ∧ ln ≤ (plcFrom f n a k p rn ln co).2.1 ∧ (plcFrom f n a k p rn ln co).2.1 ≤ ln + (a - p) ∧ (plcFrom f n a k p rn ln co).2.2 ≤ co + 1 + (a - p) ∧ (1 ≤ co → 1 ≤ (plcFrom f n a k p rn ln co).2.2)
  | 0, p, rn, ln, co, h => by
    show rn ≤ _ ∧ ln ≤ ln ∧ ln ≤ _ ∧ co ≤ _ ∧ (1 ≤ co → 1 ≤ co)
    exact ⟨by omega, by omega, by omega, by omega, fun h => h⟩
  | k + 1, p, rn, ln, co, h => by
    by_cases c : a ≤ p
    · rw [plcFrom_end _ _ _ _ _ _ _ _ c]
      exact ⟨by show rn ≤ _; omega, Nat.le_refl _, by show ln ≤ _; omega, by show co ≤ _; omega, fun h => h⟩
    · have q := dec_pos (off f p) (a - p) (fun _ => hf _) (by omega)
      unfold plcFrom
      rw [if_neg c]
      split
      · obtain ⟨a1, a2, a3, a4, a5⟩ := plcF_bound (n := n) (a := a) hf k (p + (dec (off f p) (a - p)).2) (rn + 1) (ln + 1) 1 (by omega)
        exact ⟨by omega, by omega, by omega, by omega, fun _ => a5 (by omega)⟩
      · obtain ⟨a1, a2, a3, a4, a5⟩ := plcF_bound (n := n) (a := a) hf k (p + (dec (off f p) (a - p)).2) (rn + 1) ln (co + 1) (by omega)
        exact ⟨by omega, by omega, by omega, by omega, fun _ => a5 (by omega)⟩
theorem plc_bound {f : Nat → Nat} {n a : Nat} (hf : ∀ j, f j < 256) : (plc f n a).1 ≤ a ∧ 1 ≤ (plc f n a).2.1 ∧ (plc f n a).2.1 ≤ a + 1 ∧ (plc f n a).2.2 ≤ a + 2 ∧ 1 ≤ (plc f n a).2.2 := by
  obtain ⟨a1, a2, a3, a4, a5⟩ := plcF_bound (f := f) (n := n) hf a 0 0 1 1 (Nat.zero_le a)
  exact ⟨by show (plcFrom f n a a 0 0 1 1).1 ≤ a; omega, a2, by show (plcFrom f n a a 0 0 1 1).2.1 ≤ _; omega, by show (plcFrom f n a a 0 0 1 1).2.2 ≤ _; omega, a5 (by omega)⟩
/-- the place behind another one, out of the place as it would be alone -/
def shf (s r : Nat × Nat × Nat) : Nat × Nat × Nat := (s.1 + r.1, s.2.1 - 1 + r.2.1, if r.2.1 = 1 then s.2.2 - 1 + r.2.2 else r.2.2)
theorem plcF_shf {f : Nat → Nat} {n a : Nat} (R L C : Nat) : ∀ (k p x y z : Nat), 1 ≤ y → plcFrom f n a k p (R + x) (L + y) (if y = 1 then C + z else z) = (R + (plcFrom f n a k p x y z).1, L + (plcFrom f n a k p x y z).2.1, if (plcFrom f n a k p x y z).2.1 = 1 then C + (plcFrom f n a k p x y z).2.2 else (plcFrom f n a k p x y z).2.2)
  | 0, p, x, y, z, hy => rfl
  | k + 1, p, x, y, z, hy => by
    by_cases c : a ≤ p
    · rw [plcFrom_end _ _ _ _ _ _ _ _ c, plcFrom_end _ _ _ _ _ _ _ _ c]
    · have e1 := plcF_shf (f := f) (n := n) (a := a) R L C k (p + (dec (off f p) (a - p)).2) (x + 1) (y + 1) 1 (by omega)
      rw [if_neg (by omega)] at e1
      have e2 := plcF_shf (f := f) (n := n) (a := a) R L C k (p + (dec (off f p) (a - p)).2) (x + 1) y (z + 1) hy
      have e3 : (if y = 1 then C + (z + 1) else z + 1) = (if y = 1 then C + z else z) + 1 := by split <;> rfl
      rw [e3] at e2
      unfold plcFrom
      rw [if_neg c, if_neg c]
      split
      · exact e1
      · exact e2
theorem plc_shf {f : Nat → Nat} {n d a : Nat} (hf : ∀ j, f j < 256) (h : Run f n 0 d) (hd : d + a ≤ n) : shf (plc f n d) (plc (off f d) (n - d) a) = plc f n (d + a) := by
  have b := plc_bound (f := f) (n := n) (a := d) hf
  have e := plcq_add (f := f) (n := n) (d := d) (a := a) hf h hd (0, 1, 1)
  have e2 := plcF_shf (f := off f d) (n := n - d) (a := a) (plc f n d).1 ((plc f n d).2.1 - 1) ((plc f n d).2.2 - 1) a 0 0 1 1 (Nat.le_refl _)
  rw [if_pos rfl, Nat.add_zero, show (plc f n d).2.1 - 1 + 1 = (plc f n d).2.1 by omega, show (plc f n d).2.2 - 1 + 1 = (plc f n d).2.2 by omega] at e2
  have e3 : plc f n (d + a) = plcFrom f n (d + a) (d + a) 0 0 1 1 := rfl
  rw [e3, ← e]
  exact e2.symm
end Lx
end Go.Proofs.YtoccedbnnafjcaaDoor
/-
  Plain mathematics: a query's words: step by step; their cells.
-/
namespace Go.Proofs.YtoccedbnnafjcaaDoor
open Go.RowKit Go.Lib
namespace Lx
open Rn
open _root_.Go.Proofs.YtoccedbnnafjcaaDoor.Fd
/-- the place behind a word and the blanks that follow -/
def nxt (f : Nat → Nat) (n p : Nat) : Nat := p + (rd (off f p) (n - p)).wd + lead (off f (p + (rd (off f p) (n - p)).wd)) (n - (p + (rd (off f p) (n - p)).wd)) 1
theorem wds_end (f : Nat → Nat) (n k p : Nat) (h : ¬ p < n) : wds f n k p = ([], none) := by
  cases k with
  | zero => rfl
  | succ m => unfold wds; rw [if_neg h]
theorem wds_bad {f : Nat → Nat} {n k p : Nat} (h : p < n) (ho : (rd (off f p) (n - p)).ok = false) : wds f n (k + 1) p = ([], some (p + (rd (off f p) (n - p)).wd)) := by
  show (if p < n then _ else _) = _
  rw [if_pos h, if_neg (by rw [ho]; simp)]
theorem wds_ok {f : Nat → Nat} {n k p : Nat} (h : p < n) (ho : (rd (off f p) (n - p)).ok = true) : wds f n (k + 1) p = ((p, rd (off f p) (n - p)) :: (wds f n k (nxt f n p)).1, (wds f n k (nxt f n p)).2) := by
  show (if p < n then _ else _) = _
  rw [if_pos h, if_pos ho]
  rfl
theorem nxt_spec {f : Nat → Nat} {n p : Nat} (hf : ∀ j, f j < 256) (h : p < n) (ho : (rd (off f p) (n - p)).ok = true) : p < p + (rd (off f p) (n - p)).wd ∧ p + (rd (off f p) (n - p)).wd ≤ nxt f n p ∧ nxt f n p ≤ n ∧ (Run f n p n → Run f n p (nxt f n p)) := by
  obtain ⟨a1, a2, a3⟩ := rd_spec (f := off f p) (n := n - p) (fun _ => hf _) (by omega)
  have b := a2 ho
  have c := lead_le (f := off f (p + (rd (off f p) (n - p)).wd)) (n := n - (p + (rd (off f p) (n - p)).wd)) (c := 1) (fun _ => hf _)
  refine ⟨by omega, by unfold nxt; omega, by unfold nxt; omega, fun hr => ?_⟩
  have r1 := run_shift (d := p) (a3 (run_unshift (d := p) hr 0 (n - p) rfl (by omega))) (by omega)
  rw [Nat.add_zero] at r1
  have r2 : Run f n (p + (rd (off f p) (n - p)).wd) n := r1.diff hr (by rw [Nat.sub_self]; exact whole_none _)
  have r3 := lead_run (c := 1) (fun _ => hf _) (run_unshift (d := p + (rd (off f p) (n - p)).wd) r2 0 (n - (p + (rd (off f p) (n - p)).wd)) rfl (by omega))
  have r4 := run_shift r3 (by omega)
  rw [Nat.add_zero] at r4
  exact r1.trans r4
/-- a word's cells, its place with it -/
def wdl (f : Nat → Nat) (n : Nat) (x : Nat × Wd) : List Value := (wdC x.2.k x.2.tx x.2.nm (x.1, plc f n x.1)).toList
def wdls (f : Nat → Nat) (n : Nat) (l : List (Nat × Wd)) : List Value := l.flatMap (wdl f n)
theorem wdls_append (f : Nat → Nat) (n : Nat) (l m : List (Nat × Wd)) : wdls f n (l ++ m) = wdls f n l ++ wdls f n m := by simp [wdls]
theorem wdls_one (f : Nat → Nat) (n : Nat) (x : Nat × Wd) : wdls f n [x] = wdl f n x := by simp [wdls]
theorem wdl_length (f : Nat → Nat) (n : Nat) (x : Nat × Wd) : (wdl f n x).length = 7 := rfl
theorem wdl_cell (f : Nat → Nat) (n : Nat) (x : Nat × Wd) : ∀ u ∈ wdl f n x, u.oneCell' = true := by
  intro u hu
  simp [wdl, wdC] at hu
  rcases hu with rfl | rfl | rfl | rfl | rfl | rfl | rfl <;> rfl
theorem wdInfo3 : (Tryd.prog.info? 43).map (fun i => (i.zero, i.size, i.bytes)) = some (some (.agg wd0), 7, 64) := by kernel_rfl
/-- the places of all words are places of the text, each between whole characters -/
theorem wds_in {f : Nat → Nat} {n : Nat} (hf : ∀ j, f j < 256) : ∀ (k p : Nat), p ≤ n → ∀ x ∈ (wds f n k p).1, p ≤ x.1 ∧ x.1 < n
  | 0, p, _, x, hx => by simp [wds] at hx
  | k + 1, p, hp, x, hx => by
    by_cases h : p < n
    · cases ho : (rd (off f p) (n - p)).ok
      · rw [wds_bad h ho] at hx; simp at hx
      · rw [wds_ok h ho] at hx
        obtain ⟨a1, a2, a3, _⟩ := nxt_spec hf h ho
        rcases List.mem_cons.1 hx with rfl | hx
        · exact ⟨Nat.le_refl _, h⟩
        · have := wds_in hf k _ a3 x hx
          exact ⟨by omega, this.2⟩
    · rw [wds_end _ _ _ _ h] at hx; simp at hx
end Lx
end Go.Proofs.YtoccedbnnafjcaaDoor
/-
  The mathematics of LexisCover: words lie one behind the other, blanks alone between them.
-/
namespace Go.Proofs.YtoccedbnnafjcaaDoor
open Go.Lib
namespace Lx
open Rn
open _root_.Go.Proofs.YtoccedbnnafjcaaDoor.Fd
def bl (v : Nat) : Prop := v = 9 ∨ v = 10 ∨ v = 13 ∨ v = 32
/-- a word stands where its place says -/
structure Wok (f : Nat → Nat) (n p : Nat) (x : Wd) : Prop where
  le : p + x.wd ≤ n
  pos : 0 < x.wd
  kind : (x.k ≠ 1 ∧ x.k ≠ 2 ∧ x.tx = arr (off f p) x.wd) ∨ (x.k = 1 ∧ 2 ≤ x.wd ∧ x.tx = arr (off f (p + 1)) (x.wd - 2) ∧ f p = f (p + x.wd - 1)) ∨
    (x.k = 2 ∧ (∀ j, j < x.wd → 48 ≤ f (p + j) ∧ f (p + j) ≤ 57) ∧ (p + x.wd < n → ¬ (48 ≤ f (p + x.wd) ∧ f (p + x.wd) ≤ 57)))
/-- words, blanks alone between them, from a place on up to the end -/
def Cov (f : Nat → Nat) (n : Nat) : Nat → List (Nat × Wd) → Prop
  | at_, [] => at_ ≤ n ∧ ∀ j, at_ ≤ j → j < n → bl (f j)
  | at_, (p, x) :: l => at_ ≤ p ∧ p < n ∧ (∀ j, at_ ≤ j → j < p → bl (f j)) ∧ Wok f n p x ∧ Cov f n (p + x.wd) l
theorem pre_arr : ∀ (l : List Nat) (f : Nat → Nat) (n : Nat), pre f n l = true → bt l = arr f l.length
  | [], f, n, _ => rfl
  | c :: l, f, n, h => by
    unfold pre at h
    simp only [Bool.and_eq_true, decide_eq_true_eq] at h
    obtain ⟨⟨h1, h2⟩, h3⟩ := h
    have ih := pre_arr l (off f 1) (n - 1) h3
    apply ByteArray.ext
    have e := congrArg (fun b : ByteArray => b.data.toList) ih
    simp only [bt, arr] at e ⊢
    apply Array.ext'
    simp only [Array.toList_ofFn, List.map_cons, List.length_cons, List.ofFn_succ] at e ⊢
    rw [e]
    simp only [off, List.cons.injEq]
    refine ⟨by simp [h2], ?_⟩
    simp [Nat.add_comm]
theorem rdSgn_ok {f : Nat → Nat} {n : Nat} : ∀ (l : List (List Nat)), (rdSgn f n l).ok = true → (rdSgn f n l).k = 3 ∧ (rdSgn f n l).tx = arr f (rdSgn f n l).wd
  | [], h => by simp [rdSgn] at h
  | s :: l, h => by
    unfold rdSgn at h ⊢
    by_cases c : pre f n s = true
    · rw [if_pos c]
      exact ⟨rfl, pre_arr s f n c⟩
    · rw [if_neg c] at h ⊢
      exact rdSgn_ok l h
theorem rd_wok {f : Nat → Nat} {n : Nat} (hf : ∀ j, f j < 256) (hn : 0 < n) (ho : (rd f n).ok = true) : Wok f n 0 (rd f n) := by
  obtain ⟨a1, a2, _⟩ := rd_spec hf hn
  refine ⟨by omega, a2 ho, ?_⟩
  unfold rd at ho ⊢
  simp only [off_zero, Nat.zero_add]
  split
  · exact .inl ⟨by simp, by simp, rfl⟩
  · next h1 =>
    rw [if_neg h1] at ho
    split
    · next h2 =>
      rw [if_pos h2] at ho
      unfold rdNum at ho ⊢
      by_cases c1 : 1000000 < num f (lead f n 4)
      · rw [if_pos c1] at ho; cases ho
      · rw [if_neg c1] at ho ⊢
        by_cases c2 : 0 < lead (off f (lead f n 4)) (n - lead f n 4) 2
        · rw [if_pos c2] at ho; cases ho
        · rw [if_neg c2]
          exact .inr (.inr ⟨rfl, fun j hj => lead_digit hf hj, fun h => lead_digit_end hf h⟩)
    · next h2 =>
      rw [if_neg h2] at ho
      split
      · next h3 =>
        rw [if_pos h3] at ho
        unfold rdTxt at ho ⊢
        by_cases c : idx (off f 1) (n - 1) (f 0) < n - 1
        · rw [if_pos c]
          obtain ⟨_, _, a3⟩ := idx_spec (off f 1) (n - 1) (f 0)
          have e := a3 c
          refine .inr (.inl ⟨rfl, by show 2 ≤ idx (off f 1) (n - 1) (f 0) + 2; omega, ?_, ?_⟩)
          · show arr (off f 1) (idx (off f 1) (n - 1) (f 0)) = arr (off f 1) (idx (off f 1) (n - 1) (f 0) + 2 - 2)
            rw [Nat.add_sub_cancel]
          · show f 0 = f (idx (off f 1) (n - 1) (f 0) + 2 - 1)
            rw [show idx (off f 1) (n - 1) (f 0) + 2 - 1 = 1 + idx (off f 1) (n - 1) (f 0) by omega]
            exact e.symm
        · rw [if_neg c] at ho; cases ho
      · next h3 =>
        rw [if_neg h3] at ho
        obtain ⟨e1, e2⟩ := rdSgn_ok sgs ho
        exact .inl ⟨by rw [e1]; decide, by rw [e1]; decide, e2⟩
theorem wok_off {f : Nat → Nat} {n p : Nat} {x : Wd} (hp : p ≤ n) (h : Wok (off f p) (n - p) 0 x) : Wok f n p x := by
  obtain ⟨h1, h2, h3⟩ := h
  refine ⟨by omega, h2, ?_⟩
  rcases h3 with ⟨a, b, c⟩ | ⟨a, b, c, d⟩ | ⟨a, b, c⟩
  · exact .inl ⟨a, b, by rw [off_zero] at c; exact c⟩
  · refine .inr (.inl ⟨a, b, ?_, ?_⟩)
    · rw [off_off] at c; exact c
    · have e : f (p + 0) = f (p + (0 + x.wd - 1)) := d
      rw [Nat.add_zero, Nat.zero_add] at e
      rw [e, show p + (x.wd - 1) = p + x.wd - 1 by omega]
  · refine .inr (.inr ⟨a, fun j hj => ?_, fun h => ?_⟩)
    · have := b j hj
      simp only [off, Nat.zero_add] at this
      exact this
    · have := c (by omega)
      simp only [off, Nat.zero_add] at this
      exact this
theorem wds_cov {f : Nat → Nat} {n : Nat} (hf : ∀ j, f j < 256) : ∀ (k at_ p : Nat), at_ ≤ p → p ≤ n → n ≤ p + k → (∀ j, at_ ≤ j → j < p → bl (f j)) → (wds f n k p).2 = none → Cov f n at_ (wds f n k p).1
  | 0, at_, p, h1, h2, h3, hb, _ => by
    obtain rfl : p = n := by omega
    exact ⟨h1, hb⟩
  | k + 1, at_, p, h1, h2, h3, hb, hn => by
    by_cases h : p < n
    · cases ho : (rd (off f p) (n - p)).ok
      · rw [wds_bad h ho] at hn; cases hn
      · rw [wds_ok h ho] at hn ⊢
        obtain ⟨a1, a2, a3, _⟩ := nxt_spec hf h ho
        have hw := wok_off (by omega) (rd_wok (f := off f p) (n := n - p) (fun _ => hf _) (by omega) ho)
        refine ⟨h1, h, hb, hw, wds_cov hf k _ _ a2 a3 (by omega) (fun j j1 j2 => ?_) hn⟩
        have := lead_blank (f := off f (p + (rd (off f p) (n - p)).wd)) (n := n - (p + (rd (off f p) (n - p)).wd)) (j := j - (p + (rd (off f p) (n - p)).wd)) (fun _ => hf _) (by unfold nxt at j2; omega)
        simp only [off] at this
        rw [show p + (rd (off f p) (n - p)).wd + (j - (p + (rd (off f p) (n - p)).wd)) = j by omega] at this
        exact this
    · obtain rfl : p = n := by omega
      rw [wds_end _ _ _ _ h]
      exact ⟨h1, hb⟩
theorem wdls_get (f : Nat → Nat) (n : Nat) : ∀ (L : List (Nat × Wd)) (i : Nat) (x : Nat × Wd) (j : Nat), L[i]? = some x → j < 7 → (wdls f n L)[i * 7 + j]? = (wdl f n x)[j]?
  | [], i, x, j, h, _ => by simp at h
  | y :: L, 0, x, j, h, hj => by
    obtain rfl : y = x := by simpa using h
    have e : wdls f n (y :: L) = wdl f n y ++ wdls f n L := by simp [wdls]
    rw [e, Nat.zero_mul, Nat.zero_add, List.getElem?_append_left (by rw [wdl_length]; exact hj)]
  | y :: L, i + 1, x, j, h, hj => by
    have e : wdls f n (y :: L) = wdl f n y ++ wdls f n L := by simp [wdls]
    rw [e, List.getElem?_append_right (by rw [wdl_length]; omega), wdl_length, show (i + 1) * 7 + j - 7 = i * 7 + j by omega]
    exact wdls_get f n L i x j (by simpa using h) hj
theorem cov_le {f : Nat → Nat} {n : Nat} : ∀ {L : List (Nat × Wd)} {at_ : Nat}, Cov f n at_ L → at_ ≤ n
  | [], _, h => h.1
  | (p, x) :: L, _, h => by have := h.1; have := h.2.1; omega
theorem wds_len {f : Nat → Nat} {n : Nat} (hf : ∀ j, f j < 256) : ∀ (k p : Nat), p ≤ n → p + (wds f n k p).1.length ≤ n
  | 0, p, h => by simpa [wds] using h
  | k + 1, p, h => by
    by_cases c : p < n
    · cases ho : (rd (off f p) (n - p)).ok
      · rw [wds_bad c ho]; simpa using h
      · rw [wds_ok c ho]
        obtain ⟨a1, a2, a3, _⟩ := nxt_spec hf c ho
        have := wds_len hf k _ a3
        simp only [List.length_cons]
        omega
    · rw [wds_end _ _ _ _ c]; simpa using h
theorem words_len {f : Nat → Nat} {n : Nat} (hf : ∀ j, f j < 256) : (words f n).1.length ≤ n := by
  have := wds_len hf n (lead f n 1) (lead_le hf)
  unfold words
  omega
theorem words_cov {f : Nat → Nat} {n : Nat} (hf : ∀ j, f j < 256) (h : (words f n).2 = none) : Cov f n 0 (words f n).1 :=
  wds_cov hf n 0 (lead f n 1) (Nat.zero_le _) (lead_le hf) (by omega) (fun _ _ hj => lead_blank hf hj) h
end Lx
end Go.Proofs.YtoccedbnnafjcaaDoor
/-
  The mathematics of LexisPieces: two texts with blanks between them.
-/
namespace Go.Proofs.YtoccedbnnafjcaaDoor
open Go.Lib
namespace Lx
open Rn
open _root_.Go.Proofs.YtoccedbnnafjcaaDoor.Fd
/-- bytes that go on behind m others with a blank -/
structure Ext (f : Nat → Nat) (m : Nat) (F : Nat → Nat) (N : Nat) : Prop where
  lt : m < N
  eq : ∀ j, j < m → F j = f j
  bl : bl (F m)
theorem Ext.off {f F : Nat → Nat} {m N p : Nat} (h : Ext f m F N) (hp : p ≤ m) : Ext (Rn.off f p) (m - p) (Rn.off F p) (N - p) := by
  have h1 := h.lt
  refine ⟨by omega, fun j hj => h.eq (p + j) (by omega), ?_⟩
  show Lx.bl (F (p + (m - p)))
  rw [show p + (m - p) = m by omega]
  exact h.bl
theorem bl_low {v : Nat} (h : bl v) : v < 128 := by unfold bl at h; omega
/-- a whole character is one with more bytes behind it, too -/
theorem Ext.whole {f F : Nat → Nat} {m N : Nat} (h : Ext f m F N) (hw : Rn.whole f m = true) : Rn.whole F N = true ∧ fs F N = fs f m ∧ fv F = fv f := by
  have hl := whole_lt hw
  have hlt := h.lt
  have e0 : F 0 = f 0 := h.eq 0 (by omega)
  have h1 : Rn.whole F m = true ∧ fs F m = fs f m ∧ fv F = fv f := by
    have hz : fs F m = fs f m := by unfold fs; rw [e0]
    have hs := hl.2.2.1
    have hj : ∀ j, j < fs f m → F j = f j := fun j hj => h.eq j (by omega)
    rcases size_cases (f 0) with ⟨e, _⟩ | ⟨e, _⟩ | ⟨e, _⟩ | ⟨e, _⟩ | ⟨e, _⟩
    · refine ⟨?_, hz, ?_⟩
      · simp only [Rn.whole, decide_eq_true_eq, hz]
        rw [hs, e]
        exact ⟨by omega, (len1 (by rw [e0]; exact e)).2 (by omega)⟩
      · unfold fv val; rw [e0, if_pos e, if_pos e]
    · have a1 := hj 1 (by omega)
      simp only [Rn.whole, decide_eq_true_eq] at hw
      rw [hs, e] at hw
      have b := (len2 e).1 hw.2
      refine ⟨?_, hz, ?_⟩
      · simp only [Rn.whole, decide_eq_true_eq, hz]
        rw [hs, e]
        exact ⟨by omega, (len2 (by rw [e0]; exact e)).2 (by rw [e0, a1]; exact b)⟩
      · unfold fv val; rw [e0, a1, e]; rfl
    · have a1 := hj 1 (by omega)
      have a2 := hj 2 (by omega)
      simp only [Rn.whole, decide_eq_true_eq] at hw
      rw [hs, e] at hw
      have b := (len3 e).1 hw.2
      refine ⟨?_, hz, ?_⟩
      · simp only [Rn.whole, decide_eq_true_eq, hz]
        rw [hs, e]
        exact ⟨by omega, (len3 (by rw [e0]; exact e)).2 (by rw [e0, a1, a2]; exact b)⟩
      · unfold fv val; rw [e0, a1, a2, e]; rfl
    · have a1 := hj 1 (by omega)
      have a2 := hj 2 (by omega)
      have a3 := hj 3 (by omega)
      simp only [Rn.whole, decide_eq_true_eq] at hw
      rw [hs, e] at hw
      have b := (len4 e).1 hw.2
      refine ⟨?_, hz, ?_⟩
      · simp only [Rn.whole, decide_eq_true_eq, hz]
        rw [hs, e]
        exact ⟨by omega, (len4 (by rw [e0]; exact e)).2 (by rw [e0, a1, a2, a3]; exact b)⟩
      · unfold fv val; rw [e0, a1, a2, a3, e]
    · omega
  obtain ⟨q1, q2, q3⟩ := h1
  obtain ⟨u1, u2⟩ := whole_up q1 (Nat.le_of_lt hlt)
  exact ⟨u1, by rw [u2, q2], q3⟩
theorem Ext.run {f F : Nat → Nat} {m N : Nat} (h : Ext f m F N) : ∀ {p q : Nat}, Run f m p q → q ≤ m → Run F N p q := by
  intro p q r
  induction r with
  | refl p => intro _; exact .refl _
  | @step p q hw r ih =>
    intro hq
    have hl := whole_lt hw
    have hle := r.le
    obtain ⟨e1, e2, _⟩ := (h.off (p := p) (by omega)).whole hw
    exact .step e1 (by rw [e2]; exact ih hq)
/-- what begins with characters all through and goes on with a blank -/
theorem Ext.back {f F : Nat → Nat} {m N : Nat} (h : Ext f m F N) (r : Run F N 0 N) : Run f m 0 m := by
  have r1 := run_low (f := F) (n := N) (j := m) (bl_low h.bl) h.lt r (Nat.zero_le _) (Nat.le_of_lt h.lt)
  exact (r1.down (Nat.le_refl _) (Nat.le_of_lt h.lt)).congr (fun j hj => h.eq j hj)
/-- what Go's range gives at a place of the first ones -/
theorem Ext.dec {f F : Nat → Nat} {m N : Nat} (h : Ext f m F N) (hf : ∀ j, f j < 256) (hF : ∀ j, F j < 256) (hw : Rn.whole f m = true) : Rn.dec F N = Rn.dec f m := by
  have hl := whole_lt hw
  obtain ⟨e1, e2, e3⟩ := h.whole hw
  rw [dec_whole f m hf (by omega), dec_whole F N hF (by have := h.lt; omega), if_pos hw, if_pos e1, e2, e3]
theorem c_blank {v : Nat} (h : bl v) : Ch.isT Ch.tab 2 v = false ∧ Ch.isT Ch.tab 3 v = false ∧ Ch.isT Ch.tab 4 v = false := by
  rcases h with rfl | rfl | rfl | rfl <;> decide
/-- characters of a class that holds no blank: as many with more bytes behind -/
theorem Ext.leadF {f F : Nat → Nat} {m N : Nat} {c : Int} (h : Ext f m F N) (hf : ∀ j, f j < 256) (hF : ∀ j, F j < 256) (hc : Ch.isT Ch.tab c (F m) = false) : ∀ (k K p : Nat), Run f m p m → p ≤ m → m ≤ p + k → m < p + K → Lx.leadF F N c K p = Lx.leadF f m c k p
  | k, 0, p, _, _, _, hK => by omega
  | k, K + 1, p, r, hp, hk, hK => by
    have hlt := h.lt
    by_cases hpm : p < m
    · obtain ⟨q, rfl⟩ : ∃ q, k = q + 1 := ⟨k - 1, by omega⟩
      have hw := run_whole r hpm
      have hl := whole_lt hw
      have e := (h.off (p := p) (by omega)).dec (fun _ => hf _) (fun _ => hF _) hw
      have hd : (Rn.dec (Rn.off f p) (m - p)).2 = fs (Rn.off f p) (m - p) := by rw [dec_whole (Rn.off f p) (m - p) (fun _ => hf _) (by omega), if_pos hw]
      rw [leadF_step _ _ _ _ _ hpm, leadF_step _ _ _ _ _ (by omega), e]
      split
      · rw [hd]
        exact Ext.leadF h hf hF hc q K _ (run_step r hpm) (by omega) (by omega) (by omega)
      · rfl
    · obtain rfl : p = m := by omega
      have hlw : F p < 128 := bl_low h.bl
      rw [leadF_end f p c k p (by omega), leadF_step _ _ _ _ _ hlt, dec_low (f := Rn.off F p) (by simpa [Rn.off] using hlw)]
      have : Ch.isT Ch.tab c ((Rn.off F p 0 : Nat) : Int) = false := by simpa [Rn.off] using hc
      rw [if_neg (by rw [this]; simp)]
theorem Ext.lead {f F : Nat → Nat} {m N : Nat} {c : Int} (h : Ext f m F N) (hf : ∀ j, f j < 256) (hF : ∀ j, F j < 256) (hc : Ch.isT Ch.tab c (F m) = false) (r : Run f m 0 m) : Lx.lead F N c = Lx.lead f m c := by
  have := h.lt
  exact h.leadF hf hF hc m N 0 r (Nat.zero_le _) (by omega) (by omega)
theorem arr_ext {f F : Nat → Nat} {k : Nat} (h : ∀ j, j < k → F j = f j) : arr F k = arr f k := by
  apply ByteArray.ext
  apply Array.ext
  · simp [arr]
  · intro i h1 h2
    have hi : i < k := by simpa [arr] using h2
    simp [arr, h i hi]
theorem numF_ext {f F : Nat → Nat} : ∀ (k p a : Nat), (∀ j, j < k → F (p + j) = f (p + j)) → numF F k p a = numF f k p a
  | 0, _, _, _ => rfl
  | k + 1, p, a, h => by
    have e := h 0 (by omega)
    rw [Nat.add_zero] at e
    have ih := numF_ext (f := f) (F := F) k (p + 1) (a * 10 + (f p - 48)) (fun j hj => by have := h (j + 1) (by omega); rwa [show p + (j + 1) = p + 1 + j by omega] at this)
    unfold numF
    rw [e, ih]
theorem pre_ext : ∀ (l : List Nat) (f F : Nat → Nat) (m N : Nat), Ext f m F N → (∀ c ∈ l, ¬ bl c) → pre F N l = pre f m l
  | [], _, _, _, _, _, _ => rfl
  | c :: l, f, F, m, N, h, hc => by
    have hlt := h.lt
    unfold pre
    by_cases hm : 0 < m
    · rw [pre_ext l (Rn.off f 1) (Rn.off F 1) (m - 1) (N - 1) (h.off (by omega)) (fun c h => hc c (by simp [h])), h.eq 0 hm]
      simp only [hm, show 0 < N by omega, true_and]
    · obtain rfl : m = 0 := by omega
      have hb := h.bl
      have hne : F 0 ≠ c := fun e => hc c (by simp) (e ▸ hb)
      simp [hne]
theorem sgs_nb : ∀ s ∈ sgs, ∀ c ∈ s, ¬ bl c := by unfold bl; decide
theorem rdSgn_ext {f F : Nat → Nat} {m N : Nat} (h : Ext f m F N) : ∀ (l : List (List Nat)), (∀ s ∈ l, ∀ c ∈ s, ¬ bl c) → rdSgn F N l = rdSgn f m l
  | [], _ => rfl
  | s :: l, hl => by
    unfold rdSgn
    rw [pre_ext s f F m N h (hl s (by simp)), rdSgn_ext h l (fun s h => hl s (by simp [h]))]
theorem idx_ext {f F : Nat → Nat} {m N c : Nat} (he : ∀ j, j < m → F j = f j) (hN : m ≤ N) (h : idx f m c < m) : idx F N c = idx f m c := by
  obtain ⟨_, a3, a4⟩ := idx_spec f m c
  exact idx_of (fun j hj => by rw [he j (by omega)]; exact a3 j hj) (by omega) (fun _ => by rw [he _ h]; exact a4 h)
/-- the word at the beginning is the same, but for a quote that is not ended -/
theorem rd_ext {f F : Nat → Nat} {m N : Nat} (h : Ext f m F N) (hf : ∀ j, f j < 256) (hF : ∀ j, F j < 256) (r : Run f m 0 m) (hm : 0 < m) (hq : (f 0 = 34 ∨ f 0 = 39) → (rd f m).ok = true) : rd F N = rd f m := by
  obtain ⟨b2, b3, b4⟩ := c_blank h.bl
  have l2 := h.lead hf hF b2 r
  have l3 := h.lead hf hF b3 r
  have l4 := h.lead hf hF b4 r
  have e0 := h.eq 0 hm
  have hlt := h.lt
  have n3 : Lx.lead f m 3 ≤ m := lead_le hf
  have n4 : Lx.lead f m 4 ≤ m := lead_le hf
  unfold rd at hq ⊢
  rw [l2, l3, l4, e0]
  split
  · rw [arr_ext (fun j hj => h.eq j (by omega))]
  · next h2 =>
    rw [if_neg h2] at hq
    split
    · next h4 =>
      unfold rdNum
      rw [l4]
      have en : num F (Lx.lead f m 4) = num f (Lx.lead f m 4) := numF_ext _ 0 0 (fun j hj => by rw [Nat.zero_add]; exact h.eq j (by omega))
      have r4 : Run f m 0 (Lx.lead f m 4) := lead_run hf r
      have r5 : Run (Rn.off f (Lx.lead f m 4)) (m - Lx.lead f m 4) 0 (m - Lx.lead f m 4) := run_unshift (d := Lx.lead f m 4) (run_rest r r4) 0 _ (by omega) (by omega)
      have x := h.off n4
      have ec : Ch.isT Ch.tab 2 (Rn.off F (Lx.lead f m 4) (m - Lx.lead f m 4)) = false := by
        show Ch.isT Ch.tab 2 (F (Lx.lead f m 4 + (m - Lx.lead f m 4)) : Nat) = false
        rw [show Lx.lead f m 4 + (m - Lx.lead f m 4) = m by omega]
        exact b2
      rw [en, x.lead (fun _ => hf _) (fun _ => hF _) ec r5]
    · next h4 =>
      rw [if_neg h4] at hq
      split
      · next h5 =>
        have ho := hq h5
        rw [if_pos h5] at ho
        unfold rdTxt at ho ⊢
        rw [e0]
        by_cases c : idx (Rn.off f 1) (m - 1) (f 0) < m - 1
        · have e := idx_ext (f := Rn.off f 1) (F := Rn.off F 1) (m := m - 1) (N := N - 1) (c := f 0) (fun j hj => h.eq (1 + j) (by omega)) (by omega) c
          rw [e, if_pos c, if_pos (by omega), arr_ext (F := Rn.off F 1) (f := Rn.off f 1) (k := idx (Rn.off f 1) (m - 1) (f 0)) (fun j hj => h.eq (1 + j) (by omega))]
        · rw [if_neg c] at ho; cases ho
      · exact rdSgn_ext h sgs sgs_nb
end Lx
end Go.Proofs.YtoccedbnnafjcaaDoor
/-
  The mathematics of utf8.Valid: bytes below 128, and what a greater first byte asks of those behind it.
-/
namespace Go.Proofs.YtoccedbnnafjcaaDoor
open Go.Lib
namespace Lx
open Rn
open _root_.Go.Proofs.YtoccedbnnafjcaaDoor.Fd
/-- are the bytes from k on characters all through? -/
def V (f : Nat → Nat) (n k : Nat) : Bool := vdF f n (n - k) k
theorem V_end (f : Nat → Nat) (n k : Nat) (h : ¬ k < n) : V f n k = true := vdF_end _ _ _ _ h
theorem V_whole {f : Nat → Nat} {n k s : Nat} (h : k < n) (hw : whole (off f k) (n - k) = true) (hs : fs (off f k) (n - k) = s) : V f n k = V f n (k + s) := by
  have hl := whole_lt hw
  unfold V
  obtain ⟨q, hq⟩ : ∃ q, n - k = q + 1 := ⟨n - k - 1, by omega⟩
  rw [hq, vdF_step _ _ _ _ h, hw, Bool.true_and, hs]
  exact vdF_fuel f n _ _ _ (by omega) (by omega)
theorem V_not {f : Nat → Nat} {n k : Nat} (h : k < n) (hw : whole (off f k) (n - k) = false) : V f n k = false := by
  unfold V
  obtain ⟨q, hq⟩ : ∃ q, n - k = q + 1 := ⟨n - k - 1, by omega⟩
  rw [hq, vdF_step _ _ _ _ h, hw, Bool.false_and]
theorem V_low {f : Nat → Nat} {n k : Nat} (h : k < n) (hl : f k < 128) : V f n k = V f n (k + 1) := by
  have e : size (f k) = 1 := by unfold size; rw [if_pos hl]
  have h1 : fs (off f k) (n - k) = 1 := by
    unfold fs off
    rw [if_neg (by omega), Nat.add_zero, e]
  refine V_whole h ?_ h1
  simp only [whole, decide_eq_true_eq, h1]
  exact ⟨by omega, (len1 (by simpa [off] using e)).2 (by omega)⟩
theorem V_asc {f : Nat → Nat} {n k : Nat} : ∀ (q : Nat), k + q ≤ n → (∀ j, j < q → f (k + j) < 128) → V f n k = V f n (k + q)
  | 0, _, _ => rfl
  | q + 1, h, hl => by
    rw [V_asc q (by omega) (fun j hj => hl j (by omega)), V_low (k := k + q) (by omega) (hl q (by omega))]
    rfl
theorem size_of {x : Nat} (h : 128 ≤ x) : size x = 2 ∨ size x = 3 ∨ size x = 4 ∨ size x = 0 := by
  rcases size_cases x with ⟨e, _⟩ | ⟨e, _⟩ | ⟨e, _⟩ | ⟨e, _⟩ | ⟨e, _⟩
  · omega
  · exact .inl e
  · exact .inr (.inl e)
  · exact .inr (.inr (.inl e))
  · exact .inr (.inr (.inr e))
theorem first_lead {x : Nat} (hx : x < 256) (h : 128 ≤ x) : (firstT x % 8 = size x ∧ 1 < size x ∧ accLo (firstT x / 16) = lo x ∧ accHi (firstT x / 16) = hi x) ∨ (firstT x % 8 ≤ 1 ∧ size x = 0) := by
  rcases size_of h with e | e | e | e
  · exact .inl ⟨(first_size x hx (by omega)).1, by omega, (first_size x hx (by omega)).2⟩
  · exact .inl ⟨(first_size x hx (by omega)).1, by omega, (first_size x hx (by omega)).2⟩
  · exact .inl ⟨(first_size x hx (by omega)).1, by omega, (first_size x hx (by omega)).2⟩
  · exact .inr ⟨first_none x hx (by omega), e⟩
theorem V_two {f : Nat → Nat} {n k : Nat} (hf : ∀ j, f j < 256) (h : k < n) (hg : 128 ≤ f k) (hs : firstT (f k) % 8 = 2) : V f n k = if (n - k < 2 ∨ f (k + 1) < accLo (firstT (f k) / 16) ∨ accHi (firstT (f k) / 16) < f (k + 1)) then false else V f n (k + 2) := by
  rcases first_lead (hf k) hg with ⟨e1, _, e3, e4⟩ | ⟨e1, _⟩
  · have hz : size (f k) = 2 := by omega
    have h1 : fs (off f k) (n - k) = 2 := by
      unfold fs off
      rw [if_neg (by omega), Nat.add_zero, hz]
    have hl := len2 (n := n - k) (b0 := off f k 0) (b1 := off f k 1) (b2 := off f k 2) (b3 := off f k 3) (by simpa [off] using hz)
    simp only [off, Nat.add_zero] at hl
    rw [e3, e4]
    split
    · refine V_not h ?_
      simp only [whole, decide_eq_false_iff_not, h1, fk, off, Nat.add_zero]
      rw [hl]
      omega
    · refine V_whole h ?_ h1
      simp only [whole, decide_eq_true_eq, h1, fk, off, Nat.add_zero]
      rw [hl]
      omega
  · omega
theorem V_three {f : Nat → Nat} {n k : Nat} (hf : ∀ j, f j < 256) (h : k < n) (hg : 128 ≤ f k) (hs : firstT (f k) % 8 = 3) : V f n k = if (n - k < 3 ∨ f (k + 1) < accLo (firstT (f k) / 16) ∨ accHi (firstT (f k) / 16) < f (k + 1) ∨ f (k + 2) < 128 ∨ 191 < f (k + 2)) then false else V f n (k + 3) := by
  rcases first_lead (hf k) hg with ⟨e1, _, e3, e4⟩ | ⟨e1, _⟩
  · have hz : size (f k) = 3 := by omega
    have h1 : fs (off f k) (n - k) = 3 := by
      unfold fs off
      rw [if_neg (by omega), Nat.add_zero, hz]
    have hl := len3 (n := n - k) (b0 := off f k 0) (b1 := off f k 1) (b2 := off f k 2) (b3 := off f k 3) (by simpa [off] using hz)
    simp only [off, Nat.add_zero] at hl
    rw [e3, e4]
    split
    · refine V_not h ?_
      simp only [whole, decide_eq_false_iff_not, h1, fk, off, Nat.add_zero]
      rw [hl]
      omega
    · refine V_whole h ?_ h1
      simp only [whole, decide_eq_true_eq, h1, fk, off, Nat.add_zero]
      rw [hl]
      omega
  · omega
theorem V_four {f : Nat → Nat} {n k : Nat} (hf : ∀ j, f j < 256) (h : k < n) (hg : 128 ≤ f k) (hs : firstT (f k) % 8 = 4) : V f n k = if (n - k < 4 ∨ f (k + 1) < accLo (firstT (f k) / 16) ∨ accHi (firstT (f k) / 16) < f (k + 1) ∨ f (k + 2) < 128 ∨ 191 < f (k + 2) ∨ f (k + 3) < 128 ∨ 191 < f (k + 3)) then false else V f n (k + 4) := by
  rcases first_lead (hf k) hg with ⟨e1, _, e3, e4⟩ | ⟨e1, _⟩
  · have hz : size (f k) = 4 := by omega
    have h1 : fs (off f k) (n - k) = 4 := by
      unfold fs off
      rw [if_neg (by omega), Nat.add_zero, hz]
    have hl := len4 (n := n - k) (b0 := off f k 0) (b1 := off f k 1) (b2 := off f k 2) (b3 := off f k 3) (by simpa [off] using hz)
    simp only [off, Nat.add_zero] at hl
    rw [e3, e4]
    split
    · refine V_not h ?_
      simp only [whole, decide_eq_false_iff_not, h1, fk, off, Nat.add_zero]
      rw [hl]
      omega
    · refine V_whole h ?_ h1
      simp only [whole, decide_eq_true_eq, h1, fk, off, Nat.add_zero]
      rw [hl]
      omega
  · omega
theorem V_none {f : Nat → Nat} {n k : Nat} (hf : ∀ j, f j < 256) (h : k < n) (hg : 128 ≤ f k) (h2 : firstT (f k) % 8 ≠ 2) (h3 : firstT (f k) % 8 ≠ 3) (h4 : firstT (f k) % 8 ≠ 4) : V f n k = false := by
  rcases first_lead (hf k) hg with ⟨e1, e2, _, _⟩ | ⟨_, e2⟩
  · rcases size_of hg with e | e | e | e <;> omega
  · refine V_not h ?_
    have h1 : fs (off f k) (n - k) = 0 := by
      unfold fs off
      rw [if_neg (by omega), Nat.add_zero, e2]
    simp [whole, h1]
end Lx
end Go.Proofs.YtoccedbnnafjcaaDoor
