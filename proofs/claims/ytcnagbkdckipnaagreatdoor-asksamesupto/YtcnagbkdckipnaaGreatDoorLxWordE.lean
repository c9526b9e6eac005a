import Derived.Test.YtcnagbkdckipnaaGreatDoorChTab
import Derived.Test.YtcnagbkdckipnaaGreatDoorLxReadD
import Derived.Test.YtcnagbkdckipnaaGreatDoorLxFar
import Derived.Test.YtcnagbkdckipnaaGreatDoorRnBeg
/-
  Plain mathematics: how many bytes a word has; it ends between whole characters; the words one behind the other.
-/
namespace Go.Proofs.YtcnagbkdckipnaaGreatDoor
open Go.Lib
namespace Lx
open Rn
open _root_.Go.Proofs.YtcnagbkdckipnaaGreatDoor.Fd
theorem isR_mem : ∀ (l : List (Nat × Nat)) (r : Int), Ch.isR l r = true ↔ ∃ p ∈ l, (p.1 : Int) ≤ r ∧ r ≤ (p.2 : Int)
  | [], r => by simp [Ch.isR]
  | p :: l, r => by
    unfold Ch.isR
    by_cases h : (p.1 : Int) ≤ r ∧ r ≤ (p.2 : Int)
    · rw [if_pos h]
      exact ⟨fun _ => ⟨p, by simp, h⟩, fun _ => rfl⟩
    · rw [if_neg h, isR_mem l r]
      constructor
      · rintro ⟨q, hq, g⟩; exact ⟨q, by simp [hq], g⟩
      · rintro ⟨q, hq, g⟩
        rcases List.mem_cons.1 hq with rfl | hq
        · exact absurd g h
        · exact ⟨q, hq, g⟩
theorem c23_in : ∀ p ∈ Ch.pick Ch.tab 2, ∃ q ∈ Ch.pick Ch.tab 3, q.1 ≤ p.1 ∧ p.2 ≤ q.2 := by decide
/-- what begins a name goes on with it -/
theorem c23 (r : Int) (h : Ch.isT Ch.tab 2 r = true) : Ch.isT Ch.tab 3 r = true := by
  rw [Ch.isT_eq, isR_mem] at h ⊢
  obtain ⟨p, hp, g1, g2⟩ := h
  obtain ⟨q, hq, k1, k2⟩ := c23_in p hp
  exact ⟨q, hq, by omega, by omega⟩
theorem lead23 {f : Nat → Nat} {n : Nat} (hf : ∀ j, f j < 256) (hn : 0 < n) (h : 0 < lead f n 2) : 0 < lead f n 3 := (lead_pos hf hn).2 (c23 _ ((lead_pos hf hn).1 h))

theorem run_unshift {F : Nat → Nat} {N d : Nat} : ∀ {x y : Nat}, Run F N x y → ∀ p q, x = d + p → y = d + q → Run (off F d) (N - d) p q := by
  intro x y h
  induction h with
  | refl x => intro p q h1 h2; obtain rfl : p = q := by omega
              exact .refl _
  | @step x y hw r ih =>
    intro p q h1 h2
    subst h1
    have e : whole (off (off F d) p) (N - d - p) = true := by rw [off_off, show N - d - p = N - (d + p) by omega]; exact hw
    have e2 : fs (off (off F d) p) (N - d - p) = fs (off F (d + p)) (N - (d + p)) := by rw [off_off, show N - d - p = N - (d + p) by omega]
    exact .step e (by rw [e2]; exact ih _ q (by omega) h2)
theorem run_shift {F : Nat → Nat} {N d p q : Nat} (h : Run (off F d) (N - d) p q) (hd : d ≤ N) : Run F N (d + p) (d + q) := by
  have := h.shift
  rwa [show d + (N - d) = N by omega] at this

theorem pre_run : ∀ (l : List Nat) (f : Nat → Nat) (n : Nat), (∀ c ∈ l, c < 128) → pre f n l = true → l.length ≤ n ∧ Run f n 0 l.length
  | [], f, n, _, _ => ⟨Nat.zero_le _, .refl _⟩
  | c :: l, f, n, hc, h => by
    unfold pre at h
    simp only [Bool.and_eq_true, decide_eq_true_eq] at h
    obtain ⟨⟨h1, h2⟩, h3⟩ := h
    obtain ⟨a1, a2⟩ := pre_run l (off f 1) (n - 1) (fun c h => hc c (by simp [h])) h3
    have hl := hc c (by simp)
    refine ⟨by simp; omega, ?_⟩
    have r1 : Run f n 0 1 := run_one (by omega) h1
    have r2 := run_shift (d := 1) a2 (by omega)
    have : Run f n 0 (1 + l.length) := r1.trans r2
    rw [List.length_cons, Nat.add_comm]
    exact this
theorem sgs_low128 : ∀ s ∈ sgs, (∀ c ∈ s, c < 128) ∧ 0 < s.length := by decide
theorem rdSgn_spec {f : Nat → Nat} {n : Nat} : ∀ (l : List (List Nat)), (∀ s ∈ l, (∀ c ∈ s, c < 128) ∧ 0 < s.length) → (rdSgn f n l).wd ≤ n ∧ ((rdSgn f n l).ok = true → 0 < (rdSgn f n l).wd) ∧ Run f n 0 (rdSgn f n l).wd
  | [], _ => ⟨Nat.zero_le _, fun h => by simp [rdSgn] at h, .refl _⟩
  | s :: l, hs => by
    unfold rdSgn
    split
    · next h =>
      obtain ⟨a1, a2⟩ := pre_run s f n (hs s (by simp)).1 h
      exact ⟨a1, fun _ => (hs s (by simp)).2, a2⟩
    · exact rdSgn_spec l (fun s h => hs s (by simp [h]))
theorem rdTxt_spec {f : Nat → Nat} {n : Nat} (h0 : f 0 < 128) : (rdTxt f n).wd ≤ n ∧ ((rdTxt f n).ok = true → 0 < (rdTxt f n).wd) ∧ (Run f n 0 n → Run f n 0 (rdTxt f n).wd) := by
  unfold rdTxt
  split
  · next h =>
    obtain ⟨_, _, a3⟩ := idx_spec (off f 1) (n - 1) (f 0)
    have e := a3 h
    simp only [off] at e
    refine ⟨by show idx (off f 1) (n - 1) (f 0) + 2 ≤ n; omega, fun _ => by show 0 < idx (off f 1) (n - 1) (f 0) + 2; omega, fun hr => ?_⟩
    have r1 := run_low (f := f) (n := n) (j := 1 + idx (off f 1) (n - 1) (f 0)) (by rw [e]; exact h0) (by omega) hr (by omega) (by omega)
    have r2 := run_one (f := f) (n := n) (p := 1 + idx (off f 1) (n - 1) (f 0)) (by rw [e]; exact h0) (by omega)
    have := r1.trans r2
    rwa [show 1 + idx (off f 1) (n - 1) (f 0) + 1 = idx (off f 1) (n - 1) (f 0) + 2 by omega] at this
  · exact ⟨Nat.zero_le _, (fun h => by cases h), fun _ => .refl _⟩
theorem rd_spec {f : Nat → Nat} {n : Nat} (hf : ∀ j, f j < 256) (hn : 0 < n) : (rd f n).wd ≤ n ∧ ((rd f n).ok = true → 0 < (rd f n).wd) ∧ (Run f n 0 n → Run f n 0 (rd f n).wd) := by
  unfold rd
  split
  · next h => exact ⟨lead_le hf, fun _ => lead23 hf hn h, fun hr => lead_run hf hr⟩
  · split
    · next h =>
      unfold rdNum
      split
      · exact ⟨Nat.zero_le _, (fun h => by cases h), fun _ => .refl _⟩
      · split
        · exact ⟨lead_le hf, (fun h => by cases h), fun hr => lead_run hf hr⟩
        · exact ⟨lead_le hf, fun _ => h, fun hr => lead_run hf hr⟩
    · split
      · next h => exact rdTxt_spec (by omega)
      · have := rdSgn_spec (f := f) (n := n) sgs sgs_low128
        exact ⟨this.1, this.2.1, fun _ => this.2.2⟩
end Lx
end Go.Proofs.YtcnagbkdckipnaaGreatDoor
/-
  Plain mathematics: a query's words: step by step; their cells.
-/
namespace Go.Proofs.YtcnagbkdckipnaaGreatDoor
open Go.RowKit Go.Lib
namespace Lx
open Rn
open _root_.Go.Proofs.YtcnagbkdckipnaaGreatDoor.Fd
/-- the place behind a word and the blanks that follow -/
def nxt (f : Nat → Nat) (n p : Nat) : Nat := p + (rd (off f p) (n - p)).wd + lead (off f (p + (rd (off f p) (n - p)).wd)) (n - (p + (rd (off f p) (n - p)).wd)) 1
theorem wds_end (f : Nat → Nat) (n k p : Nat) (h : ¬ p < n) : wds f n k p = ([], none) := by
  cases k with
  | zero => rfl
  | succ m => unfold wds; rw [if_neg h]
theorem wds_bad {f : Nat → Nat} {n k p : Nat} (h : p < n) (ho : (rd (off f p) (n - p)).ok = false) : wds f n (k + 1) p = ([], some (p + (rd (off f p) (n - p)).wd)) := by
  show (if p < n then _ else _) = _
  rw [if_pos h, if_neg (by rw [ho]; simp)]
theorem wds_ok {f : Nat → Nat} {n k p : Nat} (h : p < n) (ho : (rd (off f p) (n - p)).ok = true) : wds f n (k + 1) p = ((p, rd (off f p) (n - p)) :: (wds f n k (nxt f n p)).1, (wds f n k (nxt f n p)).2) := by
  show (if p < n then _ else _) = _
  rw [if_pos h, if_pos ho]
  rfl
theorem nxt_spec {f : Nat → Nat} {n p : Nat} (hf : ∀ j, f j < 256) (h : p < n) (ho : (rd (off f p) (n - p)).ok = true) : p < p + (rd (off f p) (n - p)).wd ∧ p + (rd (off f p) (n - p)).wd ≤ nxt f n p ∧ nxt f n p ≤ n ∧ (Run f n p n → Run f n p (nxt f n p)) := by
  obtain ⟨a1, a2, a3⟩ := rd_spec (f := off f p) (n := n - p) (fun _ => hf _) (by omega)
  have b := a2 ho
  have c := lead_le (f := off f (p + (rd (off f p) (n - p)).wd)) (n := n - (p + (rd (off f p) (n - p)).wd)) (c := 1) (fun _ => hf _)
  refine ⟨by omega, by unfold nxt; omega, by unfold nxt; omega, fun hr => ?_⟩
  have r1 := run_shift (d := p) (a3 (run_unshift (d := p) hr 0 (n - p) rfl (by omega))) (by omega)
  rw [Nat.add_zero] at r1
  have r2 : Run f n (p + (rd (off f p) (n - p)).wd) n := r1.diff hr (by rw [Nat.sub_self]; exact whole_none _)
  have r3 := lead_run (c := 1) (fun _ => hf _) (run_unshift (d := p + (rd (off f p) (n - p)).wd) r2 0 (n - (p + (rd (off f p) (n - p)).wd)) rfl (by omega))
  have r4 := run_shift r3 (by omega)
  rw [Nat.add_zero] at r4
  exact r1.trans r4
/-- a word's cells, its place with it -/
def wdl (f : Nat → Nat) (n : Nat) (x : Nat × Wd) : List Value := (wdC x.2.k x.2.tx x.2.nm (x.1, plc f n x.1)).toList
def wdls (f : Nat → Nat) (n : Nat) (l : List (Nat × Wd)) : List Value := l.flatMap (wdl f n)
theorem wdls_append (f : Nat → Nat) (n : Nat) (l m : List (Nat × Wd)) : wdls f n (l ++ m) = wdls f n l ++ wdls f n m := by simp [wdls]
theorem wdls_one (f : Nat → Nat) (n : Nat) (x : Nat × Wd) : wdls f n [x] = wdl f n x := by simp [wdls]
theorem wdl_length (f : Nat → Nat) (n : Nat) (x : Nat × Wd) : (wdl f n x).length = 7 := rfl
theorem wdl_cell (f : Nat → Nat) (n : Nat) (x : Nat × Wd) : ∀ u ∈ wdl f n x, u.oneCell' = true := by
  intro u hu
  simp [wdl, wdC] at hu
  rcases hu with rfl | rfl | rfl | rfl | rfl | rfl | rfl <;> rfl
theorem wdInfo3 : (Tryz.prog.info? 86).map (fun i => (i.zero, i.size, i.bytes)) = some (some (.agg wd0), 7, 64) := by kernel_rfl
/-- the places of all words are places of the text, each between whole characters -/
theorem wds_in {f : Nat → Nat} {n : Nat} (hf : ∀ j, f j < 256) : ∀ (k p : Nat), p ≤ n → ∀ x ∈ (wds f n k p).1, p ≤ x.1 ∧ x.1 < n
  | 0, p, _, x, hx => by simp [wds] at hx
  | k + 1, p, hp, x, hx => by
    by_cases h : p < n
    · cases ho : (rd (off f p) (n - p)).ok
      · rw [wds_bad h ho] at hx; simp at hx
      · rw [wds_ok h ho] at hx
        obtain ⟨a1, a2, a3, _⟩ := nxt_spec hf h ho
        rcases List.mem_cons.1 hx with rfl | hx
        · exact ⟨Nat.le_refl _, h⟩
        · have := wds_in hf k _ a3 x hx
          exact ⟨by omega, this.2⟩
    · rw [wds_end _ _ _ _ h] at hx; simp at hx
end Lx
end Go.Proofs.YtcnagbkdckipnaaGreatDoor
/-
  THE WALK over runes.Good.
-/
namespace Go.Proofs.YtcnagbkdckipnaaGreatDoor
open Go.RowKit Go.Lib
set_option maxHeartbeats 2000000 in
/-- Good AT EVERY SLICE OF BYTES THAT IS NOT nil -/
theorem good_any (f : Nat → Nat) (n b off cap : Nat) (w : World) (hT : Lib.Utf8Tabs 1 2 w) (hf : ∀ j, f j < 256) (hc : n ≤ cap) (hm : cap ≤ maxLen)
    (hp : Bytes w b off n f) :
    Calls Tryz.prog 34 #[.slice (some ⟨b, off, none⟩) n cap] w fun e w' => e = .returned (.int .i64 (Rn.good f n)) ∧ Below w.heap.size w w' := by
  have hm' : cap ≤ 9223372036854775807 := by unfold maxLen at hm; omega
  have hgl := Rn.good_le f n
  have cN : ∀ k w1, k < n → Below w.heap.size w w1 → _ := fun k w1 hk hb => next_in f n b off cap k w1 (tabs_below hT hb (Nat.le_refl _)) hf hk hc hm (hp.below hb (Nat.le_refl _))
  have cE : ∀ w1, _ := fun w1 => next_done b off n cap w1 hc hm
  have cB : ∀ k w1, k < n → Below w.heap.size w w1 → Rn.whole (Rn.off f k) (n - k) = false → _ := fun k w1 hk hb hw => beginning_any (Rn.off f k) (n - k) b (off + k) (cap - k) w1 (tabs_below hT hb (Nat.le_refl _)) (fun j => hf _) (by omega) (by omega) ((hp.below hb (Nat.le_refl _)).off (by omega)) hw
  clear hT hp
  go_enter Tryz.func34, Tryz.ntmps34
  go_wp2
  go_loopw [3] (fun i wr => ∃ (k fuel : Nat), i = .int .i64 k ∧ k ≤ n ∧ n ≤ k + fuel ∧ Rn.goodFrom f n fuel k = Rn.good f n ∧ Below w.heap.size w wr) (fun i _ => n - (RowKit.intOf i).toNat)
  case atStart => exact ⟨0, n, rfl, Nat.zero_le _, by omega, rfl, Below.refl _ _⟩
  case round =>
    obtain ⟨k, fuel, rfl, hk, hfu, hg, hb⟩ := hrel
    by_cases hlt : k < n
    · obtain ⟨m, rfl⟩ : ∃ m, fuel = m + 1 := ⟨fuel - 1, by omega⟩
      have c := cN k wr hlt hb
      unfold Rn.goodFrom at hg
      rw [if_neg (by omega)] at hg
      clear cN cE
      cases hwh : Rn.whole (Rn.off f k) (n - k)
      · simp only [hwh, Bool.false_eq_true, if_false] at hg
        have cb := fun w1 hb1 => cB k w1 hlt hb1 hwh
        clear cB
        cases hwa : Rn.waits (Rn.off f k) (n - k)
        · rw [Rn.nx_bad (by omega) hwa hwh] at c
          have HG : Hid (k + Rn.fk (Rn.off f k) (n - k) = Rn.good f n) := hg
          clear hwa hwh hg
          have hle := Rn.fk_le (Rn.off f k) (n - k)
          go_wp2_with fail
          refine c.mono ?_
          rintro e w1 ⟨rfl, hb1⟩
          go_wp2_with fail
          refine (cb w1 (hb.trans (hb1.mono hb.size))).mono ?_
          rintro e w2 ⟨rfl, hb2⟩
          go_wp2_with fail
          go_ret
          exact ⟨by rw [← HG.out]; go_num, (hb.trans (hb1.mono hb.size)).trans (hb2.mono (hb.trans (hb1.mono hb.size)).size)⟩
        · obtain ⟨e1, e2⟩ := Rn.nx_waits hwa
          rw [e1] at c
          rw [e2] at hg
          have HG : Hid (k + (n - k) = Rn.good f n) := hg
          clear hwa hwh hg e1 e2 cb
          go_wp2_with fail
          refine c.mono ?_
          rintro e w1 ⟨rfl, hb1⟩
          go_wp2_with fail
          go_roundw
          case rel => exact ⟨n, m, by go_num, Nat.le_refl _, by omega, by rw [Rn.goodFrom_end _ _ _ _ (Nat.le_refl _), ← HG.out]; omega, hb.trans (hb1.mono hb.size)⟩
          case measure => simp [RowKit.intOf]; omega
      · simp only [hwh, if_true] at hg
        rw [Rn.nx_whole hwh] at c
        have HG : Hid (Rn.goodFrom f n m (k + Rn.fs (Rn.off f k) (n - k)) = Rn.good f n) := hg
        have hle := Rn.fk_le (Rn.off f k) (n - k)
        simp only [Rn.whole, decide_eq_true_eq] at hwh
        have hpos := hwh.1
        have hle2 : Rn.fs (Rn.off f k) (n - k) ≤ n - k := by omega
        clear hg hwh cB hle
        generalize Rn.fs (Rn.off f k) (n - k) = q at *
        go_wp2_with fail
        refine c.mono ?_
        rintro e w1 ⟨rfl, hb1⟩
        go_wp2_with fail
        go_roundw
        case rel => exact ⟨k + q, m, by go_num, by omega, by omega, HG.out, hb.trans (hb1.mono hb.size)⟩
        case measure => simp [RowKit.intOf]; omega
    · obtain rfl : k = n := by omega
      rw [Rn.goodFrom_end _ _ _ _ (Nat.le_refl _)] at hg
      have HG : Hid (k = Rn.good f k) := hg
      clear hg cN cB
      go_wp2_with fail
      refine (cE wr).mono ?_
      rintro e w1 ⟨rfl, rfl⟩
      go_wp2_with fail
      go_ret
      exact ⟨by rw [← HG.out]; rfl, hb⟩
end Go.Proofs.YtcnagbkdckipnaaGreatDoor
/-
  What lexis.Words answers; what lies in memory while it reads.
-/
namespace Go.Proofs.YtcnagbkdckipnaaGreatDoor
open Go.RowKit Go.Lib
namespace Lx
/-- the byte that is wrong, and why -/
def flt (f : Nat → Nat) (n : Nat) : Option (Nat × Int) := if V f n 0 = true then (words f n).2.map (fun a => (a, 104)) else some (Rn.good f n, 103)
/-- a fault lies there -/
def FaultAt (w : World) (d a : Nat) (f : Nat → Nat) (n : Nat) (why : Int) : Prop :=
  w.heap[d]? = some (.cells #[.int .i64 (a : Nat), .int .i64 ((Rn.plc f n a).1 : Nat), .int .i64 ((Rn.plc f n a).2.1 : Nat), .int .i64 ((Rn.plc f n a).2.2 : Nat), .int .i64 why] 72 (0, 0))
/-- what Words answers -/
inductive WordsE (f : Nat → Nat) (n : Nat) (w : World) : Ending → World → Prop
  | bad (a : Nat) (why : Int) (d : Nat) (w' : World) (h : flt f n = some (a, why)) (hd : w.heap.size ≤ d) (hF : FaultAt w' d a f n why) (hb : Below w.heap.size w w') : WordsE f n w (.returned (.tuple #[.slice none 0 0, .iface 41 (.pointer (some ⟨d, 0, none⟩))])) w'
  | ok (v : Value) (w' : World) (h : flt f n = none) (hv : V f n 0 = true) (hr : w'.ownsRow w.heap.size 86 7 v (words f n).1.length (wdls f n (words f n).1)) (hb : Below w.heap.size w w') : WordsE f n w (.returned (.tuple #[v, .nilIface])) w'
theorem plA_info : (Tryz.prog.info? 31).map (·.size) = some 4 := by kernel_rfl
theorem plA_one (p : Nat × Nat × Nat × Nat) : (plA p).all (·.oneCell') = true := by simp [plA, Value.oneCell']
theorem setAll_pl (p q : Nat × Nat × Nat × Nat) : setAll (plA p) 0 (plA q).toList = plA q := by kernel_rfl
theorem setAll_wd (k : Nat) (tx : ByteArray) (nm : Nat) (p q : Nat × Nat × Nat × Nat) : setAll (wdC k tx nm p) 3 (plA q).toList = wdC k tx nm q := by kernel_rfl
/-- where Words stands between two words -/
structure Wst (f : Nat → Nat) (n : Nat) (w : World) (Pb : Nat) (at_ d fuel : Nat) (acc : List (Nat × Wd)) (v4 : Value) (wr : World) : Prop where
  row : wr.ownsRow (Pb + 1) 86 7 v4 acc.length (wdls f n acc)
  pl : wr.heap[Pb]? = some (.cells (plA (d, Rn.plc f n d)) 31 (0, 0))
  rd : Fd.Run f n 0 d
  ra : Fd.Run f n 0 at_
  da : d ≤ at_
  an : at_ ≤ n
  fu : n ≤ at_ + fuel
  e1 : acc ++ (wds f n fuel at_).1 = (words f n).1
  e2 : (wds f n fuel at_).2 = (words f n).2
  sz : acc.length ≤ at_
  bl : Below w.heap.size w wr
  lo : w.heap.size ≤ Pb
theorem row_at {w w' : World} {B : Nat} {e : TypeId} {size : Nat} {v : Value} {n : Nat} {ys : List Value} (h : w.ownsRow B e size v n ys) (hk : ∀ g, v.ownBlock = some g → w'.heap[g]? = w.heap[g]?) : w'.ownsRow B e size v n ys := by
  refine ⟨h.1, ?_⟩
  rcases h.2 with h1 | ⟨g, cap, cur, hv, hb, hg, rest⟩
  · exact .inl h1
  · exact .inr ⟨g, cap, cur, hv, hb, (hk g (by rw [hv]; rfl)).trans hg, rest⟩
theorem row_base {w : World} {B B' : Nat} {e : TypeId} {size : Nat} {v : Value} {n : Nat} {ys : List Value} (h : w.ownsRow B e size v n ys) (hB : B' ≤ B) : w.ownsRow B' e size v n ys := by
  refine ⟨h.1, ?_⟩
  rcases h.2 with h1 | ⟨g, cap, cur, hv, hb, rest⟩
  · exact .inl h1
  · exact .inr ⟨g, cap, cur, hv, Nat.le_trans hB hb, rest⟩
theorem row_keep {w w' : World} {B : Nat} {e : TypeId} {k : Nat} {u : Value} {n : Nat} {ys : List Value} (ho : w.ownsRow B e k u n ys) (h : ∀ q, B ≤ q → q < w.heap.size → w'.heap[q]? = w.heap[q]?) : w'.ownsRow B e k u n ys :=
  row_at ho fun q hq => h q (ho.lt q hq).1 (ho.lt q hq).2
end Lx
end Go.Proofs.YtcnagbkdckipnaaGreatDoor
