import Derived.Test.YtcnagbkdckipnaaGreatDoorLxPcG
import Derived.Lib.ItoaNum
import Derived.Shelf.Strconv.Itoa3
import Derived.Test.YtcnagbkdckipnaaGreatDoorProg
import Derived.Test.YtcnagbkdckipnaaGreatDoorLxWord
import Derived.Lib.ConvBytes
import Derived.Shelf.Strings.BuilderRune
import Derived.Shelf.Strings.BuilderK
import Derived.Test.YtcnagbkdckipnaaGreatDoorChTab
import Derived.Lib.IndexAny
import Derived.Lib.AppendIntMem
/-
  The mathematics of LexisPrints: words that are printed, and read again.
-/
namespace Go.Proofs.YtcnagbkdckipnaaGreatDoor
open Go.RowKit Go.Lib
namespace Lx
open Rn
open _root_.Go.Proofs.YtcnagbkdckipnaaGreatDoor.Fd
/-- the quote that a text stands in -/
def quo (tx : ByteArray) : UInt8 := if (34 : UInt8) ∈ tx.data.toList then 39 else 34
/-- a word as it is written -/
def pt (x : Int × ByteArray × Int) : ByteArray :=
  if x.1 = 2 then ⟨(Lib.itoa x.2.2).toArray⟩ else if x.1 = 1 then ⟨#[quo x.2.1]⟩ ++ x.2.1 ++ ⟨#[quo x.2.1]⟩ else x.2.1
/-- the first words as they are written -/
def pr (L : Nat → Int × ByteArray × Int) : Nat → ByteArray
  | 0 => ⟨#[]⟩
  | i + 1 => if i = 0 then pt (L i) else pr L i ++ ⟨#[32]⟩ ++ pt (L i)
def tsz (L : Nat → Int × ByteArray × Int) : Nat → Nat
  | 0 => 0
  | i + 1 => tsz L i + (pt (L i)).size + 1
theorem pr_size (L : Nat → Int × ByteArray × Int) : ∀ i, (pr L i).size ≤ tsz L i
  | 0 => Nat.le_refl _
  | i + 1 => by
    have := pr_size L i
    unfold pr tsz
    split
    · omega
    · rw [ByteArray.size_append, ByteArray.size_append]
      show (pr L i).size + 1 + _ ≤ _
      omega
theorem pt_num (tx : ByteArray) (nm : Int) : pt (((2 : Nat) : Int), tx, nm) = ⟨(itoa nm).toArray⟩ := if_pos rfl
theorem pt_text (tx : ByteArray) (nm : Int) : pt (((1 : Nat) : Int), tx, nm) = ⟨#[quo tx]⟩ ++ tx ++ ⟨#[quo tx]⟩ := rfl
theorem pt_else (k : Int) (tx : ByteArray) (nm : Int) (h2 : k ≠ 2) (h1 : k ≠ 1) : pt (k, tx, nm) = tx := (if_neg h2).trans (if_neg h1)
theorem tsz_shift (L : Nat → Int × ByteArray × Int) : ∀ i, tsz L (i + 1) = (pt (L 0)).size + 1 + tsz (fun j => L (j + 1)) i
  | 0 => by simp [tsz]
  | i + 1 => by
    rw [tsz, tsz_shift L i, tsz]
    omega
theorem tsz_le (L : Nat → Int × ByteArray × Int) (M : Nat) : ∀ i, (∀ j, j < i → (pt (L j)).size ≤ M) → tsz L i ≤ i * (M + 1)
  | 0, _ => Nat.zero_le _
  | i + 1, h => by
    have := tsz_le L M i (fun j hj => h j (by omega))
    have h2 := h i (by omega)
    rw [tsz, Nat.succ_mul]
    omega
def key (x : Nat × Wd) : Int × ByteArray × Int := (x.2.k, x.2.tx, x.2.nm)
theorem nDigits_le : ∀ (k u : Nat), u < 10 ^ (k + 1) → nDigits u ≤ k + 1
  | 0, u, h => by rw [nDigits_small (by simpa using h)]; omega
  | k + 1, u, h => by
    by_cases c : u < 10
    · rw [nDigits_small c]; omega
    · rw [nDigits_big c]
      have := nDigits_le k (u / 10) (by rw [Nat.pow_succ] at h; omega)
      omega
theorem itoa_size (n : Int) (h0 : -9223372036854775808 ≤ n) (h1 : n ≤ 9223372036854775807) : (itoa n).length ≤ 20 := by
  unfold itoa
  split
  · rw [List.length_cons, decDigits_length]
    have := nDigits_le 18 n.natAbs (by show n.natAbs < 10 ^ 19; have : (10 : Nat) ^ 19 = 10000000000000000000 := by decide
                                       omega)
    omega
  · rw [decDigits_length]
    have := nDigits_le 18 n.toNat (by show n.toNat < 10 ^ 19; have : (10 : Nat) ^ 19 = 10000000000000000000 := by decide
                                      omega)
    omega
theorem pt_size (x : Int × ByteArray × Int) (h0 : -9223372036854775808 ≤ x.2.2) (h1 : x.2.2 ≤ 9223372036854775807) : (pt x).size ≤ x.2.1.size + 20 := by
  unfold pt
  split
  · have := itoa_size _ h0 h1
    show (itoa x.2.2).toArray.size ≤ _
    simp
    omega
  · split
    · rw [ByteArray.size_append, ByteArray.size_append]
      show 1 + _ + 1 ≤ _
      omega
    · omega

theorem one_word {g : Nat → Nat} {m : Nat} (hg : ∀ j, g j < 256) (hm : 0 < m) (hb : ¬ bl (g 0)) (hr : Run g m 0 m) (ho : (rd g m).ok = true) (hw : (rd g m).wd = m) : flt g m = none ∧ (words g m).1 = [(0, rd g m)] := by
  have h0 : lead g m 1 = 0 := lead1_of hg (fun j hj => by omega) (Nat.zero_le _) (fun _ => hb)
  have e : words g m = ([(0, rd g m)], none) := by
    unfold words
    rw [h0]
    have h1 : (rd (off g 0) (m - 0)).ok = true := by rw [off_zero, Nat.sub_zero]; exact ho
    have h2 : ¬ nxt g m 0 < m := by unfold nxt; rw [off_zero, Nat.sub_zero, hw]; omega
    obtain ⟨k, hk⟩ : ∃ k, m = k + 1 := ⟨m - 1, by omega⟩
    have h3 := wds_ok (k := k) hm h1
    rw [wds_end _ _ _ _ h2, off_zero, Nat.sub_zero, ← hk] at h3
    exact h3
  have hv : V g m 0 = true := (vd_run g m).2 hr
  unfold flt
  rw [if_pos hv, e]
  exact ⟨rfl, rfl⟩

/-- a word that was read somewhere -/
def Rdd (x : Wd) : Prop := ∃ f n, (∀ j, f j < 256) ∧ 0 < n ∧ Run f n 0 n ∧ rd f n = x ∧ x.ok = true
/-- it is read again from what is written -/
def Back (k : Nat) (tx : ByteArray) (nm : Nat) : Prop := ∃ g m, (∀ j, g j < 256) ∧ arr g m = pt (k, tx, nm) ∧ flt g m = none ∧ (words g m).1.map key = [((k : Int), tx, (nm : Int))]
theorem back_of {g : Nat → Nat} {m : Nat} {x : Wd} (hg : ∀ j, g j < 256) (hm : 0 < m) (hb : ¬ bl (g 0)) (hr : Run g m 0 m) (hx : rd g m = x) (ho : x.ok = true) (hw : x.wd = m) (ha : arr g m = pt (x.k, x.tx, x.nm)) : Back x.k x.tx x.nm := by
  obtain ⟨h1, h2⟩ := one_word hg hm hb hr (by rw [hx]; exact ho) (by rw [hx]; exact hw)
  exact ⟨g, m, hg, ha, h1, by rw [h2, hx]; rfl⟩

/-! numbers -/
def dgF (l : List UInt8) : Nat → Nat := fun j => (l[j]?.getD 48).toNat
theorem dgF_lt (l : List UInt8) (j : Nat) : dgF l j < 256 := (l[j]?.getD 48).toNat_lt
theorem dgF_arr (l : List UInt8) : arr (dgF l) l.length = ⟨l.toArray⟩ := by
  apply ByteArray.ext
  apply Array.ext
  · simp [arr]
  · intro i h1 h2
    simp [arr, dgF]
theorem ofNat_toNat {v : Nat} (h : v < 256) : (UInt8.ofNat v).toNat = v := by simp; omega
theorem dg_range (u : Nat) : ∀ x ∈ decDigits u, 48 ≤ x.toNat ∧ x.toNat ≤ 57 := by
  induction u using Nat.strongRecOn with
  | _ u ih =>
    intro x hx
    rw [decDigits] at hx
    by_cases h : u < 10
    · rw [dif_pos h] at hx
      simp only [List.mem_singleton] at hx
      subst hx
      rw [ofNat_toNat (by omega)]
      omega
    · rw [dif_neg h] at hx
      rcases List.mem_append.1 hx with hx | hx
      · exact ih (u / 10) (by omega) x hx
      · simp only [List.mem_singleton] at hx
        subst hx
        rw [ofNat_toNat (by omega)]
        omega
theorem dgF_range (u j : Nat) : 48 ≤ dgF (decDigits u) j ∧ dgF (decDigits u) j ≤ 57 := by
  unfold dgF
  by_cases h : j < (decDigits u).length
  · rw [List.getElem?_eq_getElem h]
    exact dg_range u _ (List.getElem_mem h)
  · rw [List.getElem?_eq_none (by omega)]
    exact ⟨by decide, by decide⟩
def vl (f : Nat → Nat) : Nat → Nat → Nat → Nat
  | 0, _, a => a
  | k + 1, p, a => vl f k (p + 1) (a * 10 + (f p - 48))
theorem vl_ge (f : Nat → Nat) : ∀ (k p a : Nat), a ≤ vl f k p a
  | 0, _, a => Nat.le_refl _
  | k + 1, p, a => by
    have := vl_ge f k (p + 1) (a * 10 + (f p - 48))
    unfold vl
    omega
theorem numF_vl (f : Nat → Nat) : ∀ (k p a : Nat), vl f k p a ≤ 1000000 → numF f k p a = vl f k p a
  | 0, _, _, _ => rfl
  | k + 1, p, a, h => by
    unfold vl at h ⊢
    have := vl_ge f k (p + 1) (a * 10 + (f p - 48))
    unfold numF
    rw [if_neg (by omega)]
    exact numF_vl f k _ _ h
theorem vl_snoc (f : Nat → Nat) : ∀ (k p a : Nat), vl f (k + 1) p a = vl f k p a * 10 + (f (p + k) - 48)
  | 0, p, a => rfl
  | k + 1, p, a => by
    rw [vl, vl_snoc f k (p + 1), vl, show p + 1 + k = p + (k + 1) by omega]
theorem vl_ext {f F : Nat → Nat} : ∀ (k p a : Nat), (∀ j, j < k → F (p + j) = f (p + j)) → vl F k p a = vl f k p a
  | 0, _, _, _ => rfl
  | k + 1, p, a, h => by
    have e := h 0 (by omega)
    rw [Nat.add_zero] at e
    unfold vl
    rw [e]
    exact vl_ext k _ _ (fun j hj => by have := h (j + 1) (by omega); rwa [show p + (j + 1) = p + 1 + j by omega] at this)
theorem vl_dg (u : Nat) : vl (dgF (decDigits u)) (decDigits u).length 0 0 = u := by
  induction u using Nat.strongRecOn with
  | _ u ih =>
    by_cases h : u < 10
    · have e : decDigits u = [UInt8.ofNat (48 + u)] := decDigits_one h
      rw [e]
      show 0 * 10 + ((UInt8.ofNat (48 + u)).toNat - 48) = u
      rw [ofNat_toNat (by omega)]
      omega
    · have e : decDigits u = decDigits (u / 10) ++ [UInt8.ofNat (48 + u % 10)] := by rw [decDigits, dif_neg h]
      have hl : (decDigits u).length = (decDigits (u / 10)).length + 1 := by rw [e]; simp
      rw [hl, vl_snoc, Nat.zero_add]
      have e2 : dgF (decDigits u) (decDigits (u / 10)).length = 48 + u % 10 := by
        unfold dgF
        rw [e, List.getElem?_append_right (Nat.le_refl _), Nat.sub_self]
        show (UInt8.ofNat (48 + u % 10)).toNat = _
        rw [ofNat_toNat (by omega)]
      have e3 := vl_ext (F := dgF (decDigits u)) (f := dgF (decDigits (u / 10))) (decDigits (u / 10)).length 0 0 (fun j hj => by
        unfold dgF
        rw [Nat.zero_add, e, List.getElem?_append_left hj])
      rw [e2, e3, ih (u / 10) (by omega)]
      omega
theorem lead_all {g : Nat → Nat} {m : Nat} {c : Int} (h : ∀ j, j < m → Ch.isT Ch.tab c (g j) = true ∧ g j < 128) : ∀ (k p : Nat), p ≤ m → m ≤ p + k → leadF g m c k p = m
  | 0, p, _, _ => rfl
  | k + 1, p, h1, h2 => by
    by_cases c1 : p < m
    · obtain ⟨a, b⟩ := h p c1
      have e : dec (off g p) (m - p) = (g p, 1) := dec_low (f := off g p) (by simpa [off] using b)
      rw [leadF_step _ _ _ _ _ c1, e]
      show (if Ch.isT Ch.tab c (g p) = true then _ else _) = _
      rw [if_pos a]
      exact lead_all h k (p + 1) (by omega) (by omega)
    · rw [leadF_end _ _ _ _ _ c1]
theorem dig_not : ∀ v : Nat, 48 ≤ v ∧ v ≤ 57 → Ch.isT Ch.tab 2 v = false ∧ ¬ bl v := by
  intro v h
  have : v = 48 ∨ v = 49 ∨ v = 50 ∨ v = 51 ∨ v = 52 ∨ v = 53 ∨ v = 54 ∨ v = 55 ∨ v = 56 ∨ v = 57 := by omega
  unfold bl
  rcases this with rfl | rfl | rfl | rfl | rfl | rfl | rfl | rfl | rfl | rfl <;> exact ⟨by decide, by decide⟩
theorem lead_no {g : Nat → Nat} {m : Nat} {c : Int} (hg : ∀ j, g j < 256) (hm : 0 < m) (hl : g 0 < 128) (hc : Ch.isT Ch.tab c (g 0) = false) : ¬ 0 < lead g m c := by
  rw [lead_pos hg hm, dec_low hl]
  show ¬ Ch.isT Ch.tab c (g 0) = true
  rw [hc]; simp
theorem run_low_all {g : Nat → Nat} {m : Nat} (h : ∀ j, j < m → g j < 128) : ∀ k, k ≤ m → Run g m 0 k
  | 0, _ => .refl _
  | k + 1, hk => (run_low_all h k (by omega)).trans (run_one (h k (by omega)) (by omega))
theorem back_num (u : Nat) (hu : u ≤ 1000000) : Back 2 ⟨#[]⟩ u := by
  have hlen : 0 < (decDigits u).length := by rw [decDigits_length]; exact nDigits_pos u
  have hd := dgF_range u
  obtain ⟨a1, a2⟩ := dig_not _ (hd 0)
  have h4 : lead (dgF (decDigits u)) (decDigits u).length 4 = (decDigits u).length := lead_all (fun j _ => ⟨(c4_is _).2 (by have := hd j; omega), by have := hd j; omega⟩) _ 0 (Nat.zero_le _) (by omega)
  have hn : num (dgF (decDigits u)) (decDigits u).length = u := by
    unfold num
    rw [numF_vl _ _ _ _ (by rw [vl_dg]; exact hu), vl_dg]
  refine back_of (x := ⟨2, ⟨#[]⟩, u, (decDigits u).length, true⟩) (fun j => dgF_lt _ j) hlen a2 (run_low_all (fun j _ => by have := hd j; omega) _ (Nat.le_refl _)) ?_ rfl rfl ?_
  · unfold rd
    rw [if_neg (lead_no (fun j => dgF_lt _ j) hlen (by have := hd 0; omega) a1), if_pos (by rw [h4]; exact hlen)]
    unfold rdNum
    rw [h4, hn, if_neg (by omega), Nat.sub_self, if_neg (by show ¬ 0 < 0; omega)]
  · rw [dgF_arr]
    show _ = pt (((2 : Nat) : Int), ⟨#[]⟩, (u : Int))
    rw [pt_num]
    unfold itoa
    rw [if_neg (by omega)]
    rfl

/-! names -/
theorem dec_cut {f : Nat → Nat} {n k : Nat} (hf : ∀ j, f j < 256) (hw : whole f n = true) (h1 : fs f n ≤ k) (h2 : k ≤ n) : dec f k = dec f n := by
  have hl := whole_lt hw
  have hd := whole_down hw h1 h2
  have e := (whole_up hd h2).2
  rw [dec_whole f k hf (by omega), dec_whole f n hf (by omega), if_pos hd, if_pos hw, e]
theorem leadF_cut {f : Nat → Nat} {n : Nat} {c : Int} (hf : ∀ j, f j < 256) : ∀ (K p K' : Nat), Run f n p n → p ≤ n → n ≤ p + K → leadF f n c K p ≤ p + K' → leadF f (leadF f n c K p) c K' p = leadF f n c K p
  | 0, p, K', _, h1, h2, _ => by
    obtain rfl : p = n := by omega
    show leadF f p c K' p = p
    rw [leadF_end _ _ _ _ _ (by omega)]
  | K + 1, p, K', hr, h1, h2, h3 => by
    by_cases c1 : p < n
    · have hw := run_whole hr c1
      have hl := whole_lt hw
      have hd : (dec (off f p) (n - p)).2 = fs (off f p) (n - p) := by rw [dec_whole (off f p) (n - p) (fun _ => hf _) (by omega), if_pos hw]
      rw [leadF_step _ _ _ _ _ c1] at h3 ⊢
      by_cases t : Ch.isT Ch.tab c (dec (off f p) (n - p)).1 = true
      · rw [if_pos t] at h3 ⊢
        rw [hd] at h3 ⊢
        have q := leadF_le (n := n) (c := c) hf K (p + fs (off f p) (n - p)) (by omega)
        obtain ⟨k, rfl⟩ : ∃ k, K' = k + 1 := ⟨K' - 1, by omega⟩
        rw [leadF_step _ _ _ _ _ (by omega), dec_cut (f := off f p) (n := n - p) (fun _ => hf _) hw (by omega) (by omega), if_pos t, hd]
        exact leadF_cut hf K _ k (run_step hr c1) (by omega) (by omega) (by omega)
      · rw [if_neg t]
        rw [leadF_end _ _ _ _ _ (by omega)]
    · rw [leadF_end _ _ _ _ _ c1, leadF_end _ _ _ _ _ c1]
theorem back_name {f : Nat → Nat} {n : Nat} (hf : ∀ j, f j < 256) (hn : 0 < n) (hr : Run f n 0 n) (h : 0 < lead f n 2) : Back 0 (arr f (lead f n 3)) 0 := by
  have h3 := lead23 hf hn h
  have hle := lead_le (f := f) (n := n) (c := 3) hf
  have hw := run_whole hr hn
  rw [off_zero, Nat.sub_zero] at hw
  have hfs : fs f n ≤ lead f n 3 := by
    have r3 := lead_run (c := 3) hf hr
    obtain ⟨L, hL⟩ : ∃ L, lead f n 3 = L := ⟨_, rfl⟩
    rw [hL] at r3 h3 ⊢
    cases r3 with
    | refl => omega
    | step _ r => have := r.le; rw [off_zero, Nat.sub_zero, Nat.zero_add] at this; exact this
  have e3 : lead f (lead f n 3) 3 = lead f n 3 := leadF_cut hf n 0 _ hr (Nat.zero_le _) (by omega) (by show lead f n 3 ≤ _; omega)
  have ed : dec f (lead f n 3) = dec f n := dec_cut hf hw hfs hle
  have e2 : 0 < lead f (lead f n 3) 2 := (lead_pos hf h3).2 (by rw [ed]; exact (lead_pos hf hn).1 h)
  refine back_of (g := f) (m := lead f n 3) (x := ⟨0, arr f (lead f n 3), 0, lead f n 3, true⟩) hf h3 ?_ ((lead_run hf hr).down (Nat.le_refl _) hle) ?_ rfl rfl ?_
  · intro hb
    have := (lead_pos hf hn).1 h
    rw [dec_low (bl_low hb)] at this
    have k := (c_blank hb).1
    rw [show ((f 0, 1) : Nat × Nat).1 = f 0 from rfl, k] at this
    cases this
  · unfold rd
    rw [if_pos e2, e3]
  · exact (pt_else _ _ _ (by show ((0 : Nat) : Int) ≠ 2; decide) (by show ((0 : Nat) : Int) ≠ 1; decide)).symm

/-! signs -/
def sgF (s : List Nat) : Nat → Nat := fun j => s[j]?.getD 0
theorem back_sign : ∀ s ∈ sgs, Back 3 (bt s) 0 := by
  have key : ∀ s ∈ sgs, (∀ j, sgF s j < 256) ∧ 0 < s.length ∧ ¬ bl (sgF s 0) ∧ V (sgF s) s.length 0 = true ∧ rd (sgF s) s.length = ⟨3, bt s, 0, s.length, true⟩ ∧ arr (sgF s) s.length = bt s := by
    have h1 : ∀ s ∈ sgs, (∀ c ∈ s, c < 256) := by decide
    have h2 : ∀ s ∈ sgs, 0 < s.length ∧ ¬ bl (sgF s 0) ∧ V (sgF s) s.length 0 = true := by unfold bl; decide
    intro s hs
    refine ⟨fun j => ?_, (h2 s hs).1, (h2 s hs).2.1, (h2 s hs).2.2, ?_⟩
    · unfold sgF
      by_cases hj : j < s.length
      · rw [List.getElem?_eq_getElem hj]; exact h1 s hs _ (List.getElem_mem hj)
      · rw [List.getElem?_eq_none (by omega)]; decide
    · simp only [sgs, List.mem_cons, List.not_mem_nil, or_false] at hs
      rcases hs with rfl | rfl | rfl | rfl | rfl | rfl | rfl | rfl | rfl | rfl | rfl | rfl | rfl | rfl | rfl <;> exact ⟨by kernel_rfl, by kernel_rfl⟩
  intro s hs
  obtain ⟨a1, a2, a3, a4, a5, a6⟩ := key s hs
  refine back_of (g := sgF s) (m := s.length) (x := ⟨3, bt s, 0, s.length, true⟩) a1 a2 a3 ((vd_run _ _).1 a4) a5 rfl rfl ?_
  rw [a6]
  exact (pt_else _ _ _ (by show ((3 : Nat) : Int) ≠ 2; decide) (by show ((3 : Nat) : Int) ≠ 1; decide)).symm
theorem rdSgn_in {f : Nat → Nat} {n : Nat} : ∀ (l : List (List Nat)), (rdSgn f n l).ok = true → ∃ s ∈ l, rdSgn f n l = ⟨3, bt s, 0, s.length, true⟩
  | [], h => by simp [rdSgn] at h
  | s :: l, h => by
    unfold rdSgn at h ⊢
    split
    · exact ⟨s, by simp, rfl⟩
    · next c =>
      rw [if_neg c] at h
      obtain ⟨t, ht, e⟩ := rdSgn_in l h
      exact ⟨t, by simp [ht], e⟩

/-! texts -/
theorem back_text {f : Nat → Nat} {n : Nat} (hf : ∀ j, f j < 256) (hr : Run f n 0 n) (h0 : f 0 = 34 ∨ f 0 = 39) {k : Nat} (h : k < n - 1) (i1 : ∀ j, j < k → f (1 + j) ≠ f 0) (i3 : f (1 + k) = f 0) : Back 1 (arr (off f 1) k) 0 := by
  have hmem : (34 : UInt8) ∈ (arr (off f 1) k).data.toList ↔ ∃ j, j < k ∧ f (1 + j) = 34 := by
    rw [List.mem_iff_getElem]
    have hs : (arr (off f 1) k).data.toList.length = k := by simp [arr]
    constructor
    · rintro ⟨j, hj, e⟩
      have hj' : j < k := by omega
      refine ⟨j, hj', ?_⟩
      simp only [arr, Array.getElem_toList, Array.getElem_ofFn] at e
      have := congrArg UInt8.toNat e
      have hlt := hf (1 + j)
      simp [off] at this
      omega
    · rintro ⟨j, hj, e⟩
      refine ⟨j, by omega, ?_⟩
      simp only [arr, Array.getElem_toList, Array.getElem_ofFn, off, e]
      rfl
  obtain ⟨q, hq, hqv, hqn⟩ : ∃ q : Nat, quo (arr (off f 1) k) = q.toUInt8 ∧ (q = 34 ∨ q = 39) ∧ ∀ j, j < k → f (1 + j) ≠ q := by
    unfold quo
    by_cases c : (34 : UInt8) ∈ (arr (off f 1) k).data.toList
    · rw [if_pos c]
      obtain ⟨j, hj, e⟩ := hmem.1 c
      clear hmem c
      have := i1 j hj
      have e0 : f 0 = 39 := by omega
      exact ⟨39, rfl, .inr rfl, fun j hj => by have := i1 j hj; omega⟩
    · rw [if_neg c]
      exact ⟨34, rfl, .inl rfl, fun j hj e => c (hmem.2 ⟨j, hj, e⟩)⟩
  clear hmem
  obtain ⟨g, hg⟩ : ∃ g : Nat → Nat, g = fun j => if j = 0 then q else if j ≤ k then f j else q := ⟨_, rfl⟩
  have g0 : g 0 = q := by rw [hg]; rfl
  have gj : ∀ j, j < k → g (1 + j) = f (1 + j) := fun j hj => by rw [hg]; show (if 1 + j = 0 then q else if 1 + j ≤ k then f (1 + j) else q) = _; rw [if_neg (by omega), if_pos (by omega)]
  have gk : g (1 + k) = q := by rw [hg]; show (if 1 + k = 0 then q else if 1 + k ≤ k then f (1 + k) else q) = _; rw [if_neg (by omega), if_neg (by omega)]
  have glt : ∀ j, g j < 256 := fun j => by
    rw [hg]
    show (if j = 0 then q else if j ≤ k then f j else q) < 256
    split
    · omega
    · split
      · exact hf j
      · omega
  have eidx : idx (off g 1) (k + 2 - 1) (g 0) = k := by
    rw [g0]
    exact idx_of (fun j hj => by show g (1 + j) ≠ q; rw [gj j hj]; exact hqn j hj) (by omega) (fun _ => gk)
  have earr : arr (off g 1) k = arr (off f 1) k := arr_ext (fun j hj => gj j hj)
  have r1 : Run g (k + 2) 0 1 := run_one (by omega) (by omega)
  have r2 : Run f n 1 (1 + k) := by
    have x1 : Run f n 0 1 := run_one (by omega) (by omega)
    have x2 : Run f n 0 (1 + k) := run_low (f := f) (n := n) (j := 1 + k) (by omega) (by omega) hr (by omega) (by omega)
    have x3 := run_rest hr x1
    exact run_low (f := f) (n := n) (j := 1 + k) (by omega) (by omega) x3 (by omega) (by omega)
  have r3 : Run (off f 1) k 0 k := (run_unshift (d := 1) r2 0 k rfl rfl).down (Nat.le_refl _) (by omega)
  have r4 : Run (off g 1) (k + 1) 0 k := (r3.congr (fun j hj => (gj j hj).symm)).up (by omega)
  have r5 : Run g (k + 2) 1 (1 + k) := run_shift (F := g) (N := k + 2) (d := 1) r4 (by omega)
  have r6 : Run g (k + 2) (1 + k) (1 + k + 1) := run_one (by omega) (by omega)
  have nn : Ch.isT Ch.tab 2 (q : Nat) = false ∧ Ch.isT Ch.tab 4 (q : Nat) = false ∧ ¬ bl q := by
    unfold bl
    rcases hqv with rfl | rfl <;> exact ⟨by decide, by decide, by decide⟩
  refine back_of (g := g) (m := k + 2) (x := ⟨1, arr (off f 1) k, 0, k + 2, true⟩) glt (by omega) (by rw [g0]; exact nn.2.2) ?_ ?_ rfl rfl ?_
  · have := (r1.trans r5).trans r6
    rwa [show 1 + k + 1 = k + 2 by omega] at this
  · unfold rd
    rw [if_neg (lead_no glt (by omega) (by omega) (by rw [g0]; exact nn.1)), if_neg (lead_no glt (by omega) (by omega) (by rw [g0]; exact nn.2.1)), if_pos (by rw [g0]; exact hqv)]
    unfold rdTxt
    rw [eidx, if_pos (by omega), earr]
  · show _ = pt (((1 : Nat) : Int), arr (off f 1) k, ((0 : Nat) : Int))
    rw [pt_text, hq]
    apply ByteArray.ext
    apply Array.ext
    · simp [arr]; omega
    · intro i h1 h2
      have hi : i < k + 2 := by simpa [arr] using h1
      simp only [arr, ByteArray.data_append, Array.getElem_append, Array.getElem_ofFn, Array.size_append, Array.size_ofFn]
      by_cases c0 : i = 0
      · subst c0; simp [g0]
      · by_cases c1 : i < 1 + k
        · have := gj (i - 1) (by omega)
          rw [show 1 + (i - 1) = i by omega] at this
          simp [c0, c1, this, off, show 1 + (i - 1) = i by omega]
        · obtain rfl : i = 1 + k := by omega
          simp [gk]

theorem back_any {x : Wd} (h : Rdd x) : Back x.k x.tx x.nm := by
  obtain ⟨f, n, hf, hn, hr, rfl, ho⟩ := h
  unfold rd at ho ⊢
  split
  · next h => exact back_name hf hn hr h
  · next h =>
    rw [if_neg h] at ho
    split
    · next h4 =>
      rw [if_pos h4] at ho
      unfold rdNum at ho ⊢
      split
      · next c => rw [if_pos c] at ho; cases ho
      · next c =>
        rw [if_neg c] at ho
        split
        · next c2 => rw [if_pos c2] at ho; cases ho
        · exact back_num _ (by show num f (lead f n 4) ≤ _; omega)
    · next h4 =>
      rw [if_neg h4] at ho
      split
      · next h5 =>
        rw [if_pos h5] at ho
        unfold rdTxt at ho ⊢
        split
        · next c =>
          obtain ⟨_, i1, i2⟩ := idx_spec (off f 1) (n - 1) (f 0)
          exact back_text hf hr h5 c i1 (i2 c)
        · next c => rw [if_neg c] at ho; cases ho
      · next h5 =>
        rw [if_neg h5] at ho
        obtain ⟨s, hs, e⟩ := rdSgn_in sgs ho
        rw [e]
        exact back_sign s hs
/-- what is written is not much longer than what was read -/
theorem rdd_size0 {x : Wd} (h : Rdd x) : (pt (x.k, x.tx, x.nm)).size + 1 ≤ 8 * x.wd ∧ x.tx.size ≤ x.wd ∧ x.nm ≤ 1000000 := by
  obtain ⟨f, n, hf, hn, hr, rfl, ho⟩ := h
  have hp := (rd_spec hf hn).2.1 ho
  have key : (rd f n).k = 2 ∧ (rd f n).nm ≤ 1000000 ∧ (rd f n).tx.size = 0 ∨ (rd f n).k = 1 ∧ (rd f n).tx.size + 2 = (rd f n).wd ∧ (rd f n).nm = 0 ∨ ((rd f n).k = 0 ∨ (rd f n).k = 3) ∧ (rd f n).tx.size = (rd f n).wd ∧ (rd f n).nm = 0 := by
    unfold rd at ho ⊢
    split
    · exact .inr (.inr ⟨.inl rfl, arr_size _ _, rfl⟩)
    · next h =>
      rw [if_neg h] at ho
      split
      · next h4 =>
        rw [if_pos h4] at ho
        unfold rdNum at ho ⊢
        split
        · next c => rw [if_pos c] at ho; cases ho
        · next c =>
          rw [if_neg c] at ho
          split
          · next c2 => rw [if_pos c2] at ho; cases ho
          · exact .inl ⟨rfl, (by show num f (lead f n 4) ≤ _; omega), rfl⟩
      · next h4 =>
        rw [if_neg h4] at ho
        split
        · next h5 =>
          rw [if_pos h5] at ho
          unfold rdTxt at ho ⊢
          split
          · exact .inr (.inl ⟨rfl, (by show (arr _ _).size + 2 = _; rw [arr_size]), rfl⟩)
          · next c => rw [if_neg c] at ho; cases ho
        · next h5 =>
          rw [if_neg h5] at ho
          obtain ⟨s, hs, e⟩ := rdSgn_in sgs ho
          rw [e]
          exact .inr (.inr ⟨.inr rfl, (by show (s.map Nat.toUInt8).toArray.size = _; simp), rfl⟩)
  generalize rd f n = x at hp key
  refine ⟨?_, by omega, by omega⟩
  unfold pt
  rcases key with ⟨k1, k2, _⟩ | ⟨k1, k2, _⟩ | ⟨k1, k2, _⟩
  · rw [if_pos (by show (x.k : Int) = 2; omega)]
    have e : (itoa (x.nm : Int)).length ≤ 7 := by
      unfold itoa
      rw [if_neg (by omega), decDigits_length]
      exact nDigits_le 6 _ (by simp; omega)
    show (itoa (x.nm : Int)).toArray.size + 1 ≤ _
    simp
    omega
  · rw [if_neg (by show ¬ (x.k : Int) = 2; omega), if_pos (by show (x.k : Int) = 1; omega), ByteArray.size_append, ByteArray.size_append]
    show 1 + x.tx.size + 1 + 1 ≤ _
    omega
  · rw [if_neg (by show ¬ (x.k : Int) = 2; omega), if_neg (by show ¬ (x.k : Int) = 1; omega)]
    show x.tx.size + 1 ≤ _
    omega
theorem rdd_size {x : Wd} (h : Rdd x) : (pt (x.k, x.tx, x.nm)).size + 1 ≤ 8 * x.wd := (rdd_size0 h).1
theorem rdd_facts {x : Wd} (h : Rdd x) : x.tx.size ≤ x.wd ∧ x.nm ≤ 1000000 := (rdd_size0 h).2
theorem wds_wd {f : Nat → Nat} {n : Nat} (hf : ∀ j, f j < 256) : ∀ (k p : Nat), p ≤ n → ∀ x ∈ (wds f n k p).1, x.2.wd ≤ n
  | 0, p, _, x, hx => by simp [wds] at hx
  | k + 1, p, hp, x, hx => by
    by_cases h : p < n
    · cases ho : (rd (off f p) (n - p)).ok
      · rw [wds_bad h ho] at hx; simp at hx
      · rw [wds_ok h ho] at hx
        obtain ⟨a1, a2, a3, a4⟩ := nxt_spec hf h ho
        rcases List.mem_cons.1 hx with rfl | hx
        · show (rd (off f p) (n - p)).wd ≤ n; omega
        · exact wds_wd hf k _ a3 x hx
    · rw [wds_end _ _ _ _ h] at hx; simp at hx
theorem wds_rdd {f : Nat → Nat} {n : Nat} (hf : ∀ j, f j < 256) : ∀ (k p : Nat), p ≤ n → Run f n p n → ∀ x ∈ (wds f n k p).1, Rdd x.2
  | 0, p, _, _, x, hx => by simp [wds] at hx
  | k + 1, p, hp, hr, x, hx => by
    by_cases h : p < n
    · cases ho : (rd (off f p) (n - p)).ok
      · rw [wds_bad h ho] at hx; simp at hx
      · rw [wds_ok h ho] at hx
        obtain ⟨a1, a2, a3, a4⟩ := nxt_spec hf h ho
        rcases List.mem_cons.1 hx with rfl | hx
        · exact ⟨off f p, n - p, fun _ => hf _, by omega, run_unshift (d := p) hr 0 _ rfl (by omega), rfl, ho⟩
        · exact wds_rdd hf k _ a3 ((a4 hr).diff hr (by rw [Nat.sub_self]; exact whole_none _)) x hx
    · rw [wds_end _ _ _ _ h] at hx; simp at hx
/-- the words of a list by their number -/
def nth (l : List (Nat × Wd)) : Nat → Int × ByteArray × Int := fun i => (l[i]?.map key).getD (0, ⟨#[]⟩, 0)
theorem wds_tsz {f : Nat → Nat} {n : Nat} (hf : ∀ j, f j < 256) : ∀ (k p : Nat), p ≤ n → Run f n p n → tsz (nth (wds f n k p).1) (wds f n k p).1.length ≤ 8 * (n - p)
  | 0, p, _, _ => by simp [wds, tsz]
  | k + 1, p, hp, hr => by
    by_cases h : p < n
    · cases ho : (rd (off f p) (n - p)).ok
      · rw [wds_bad h ho]; simp [tsz]
      · rw [wds_ok h ho]
        obtain ⟨a1, a2, a3, a4⟩ := nxt_spec hf h ho
        have ih := wds_tsz hf k _ a3 ((a4 hr).diff hr (by rw [Nat.sub_self]; exact whole_none _))
        have hs := rdd_size (x := rd (off f p) (n - p)) ⟨off f p, n - p, fun _ => hf _, by omega, run_unshift (d := p) hr 0 _ rfl (by omega), rfl, ho⟩
        rw [List.length_cons, tsz_shift]
        have e1 : nth ((p, rd (off f p) (n - p)) :: (wds f n k (nxt f n p)).1) 0 = (((rd (off f p) (n - p)).k : Int), (rd (off f p) (n - p)).tx, ((rd (off f p) (n - p)).nm : Int)) := rfl
        have e2 : (fun j => nth ((p, rd (off f p) (n - p)) :: (wds f n k (nxt f n p)).1) (j + 1)) = nth (wds f n k (nxt f n p)).1 := rfl
        rw [e1, e2]
        omega
    · rw [wds_end _ _ _ _ h]; simp [tsz]
/-- what the printed words are read as -/
theorem pr_back {l : List (Nat × Wd)} (h : ∀ x ∈ l, Rdd x.2) : ∀ i, i ≤ l.length → ∃ g m, (∀ j, g j < 256) ∧ arr g m = pr (nth l) i ∧ flt g m = none ∧ (words g m).1.map key = (l.take i).map key
  | 0, _ => ⟨fun _ => 0, 0, fun _ => by show 0 < 256; omega, rfl, rfl, rfl⟩
  | i + 1, hi => by
    have hx : l[i]? = some l[i] := List.getElem?_eq_getElem (by omega)
    have hb := back_any (h l[i] (List.getElem_mem (by omega)))
    have en : nth l i = ((l[i].2.k : Int), l[i].2.tx, (l[i].2.nm : Int)) := by unfold nth; rw [hx]; rfl
    obtain ⟨g, m, hg, ha, hfl, hw⟩ := hb
    have et : (l.take (i + 1)).map key = (l.take i).map key ++ [((l[i].2.k : Int), l[i].2.tx, (l[i].2.nm : Int))] := by
      rw [List.take_add_one, hx, List.map_append]
      rfl
    unfold pr
    by_cases c : i = 0
    · rw [if_pos c, en]
      refine ⟨g, m, hg, ha, hfl, ?_⟩
      rw [hw, et]
      subst c
      rfl
    · rw [if_neg c, en]
      obtain ⟨F, N, hF, hA, hFl, hW⟩ := pr_back h i (by omega)
      have hC := cat_of (f := F) (g := g) (m := N) (l := m) (k := 0) (gs := ⟨#[32]⟩) hF hg rfl
      obtain ⟨q1, q2⟩ := hC.good hFl hfl
      refine ⟨_, _, hC.hF, ?_, q1, ?_⟩
      · rw [← cat_arr, hA, ha]
      · rw [q2, List.map_append, et, hW, ← hw]
        congr 1
        rw [List.map_map]
        rfl
end Lx
end Go.Proofs.YtcnagbkdckipnaaGreatDoor
/-
  Contracts of the kit's shelf, laid at this seat's program in plain words (by the kit's lay-plain.mjs).
-/
namespace Go.Proofs
open Go.Shelf
def Tryz.lays171_ren : Go.Shelf.Ren := ⟨fun | 171 => 140 | 243 => 157 | 246 => 169 | 283 => 174 | 284 => 175 | 285 => 176 | 286 => 177 | 129 => 181 | 317 => 180 | 318 => 182 | 319 => 183 | 320 => 184 | 337 => 185 | 338 => 186 | n => n, fun | 3 => 3 | 9 => 9 | 2 => 2 | 4 => 4 | 171 => 242 | 0 => 0 | 53 => 182 | 37 => 22 | 5 => 5 | 173 => 245 | 212 => 249 | 51 => 233 | 20 => 20 | 213 => 250 | 46 => 145 | 232 => 253 | 233 => 254 | n => n, fun | 17 => 9 | 18 => 10 | 19 => 11 | n => n⟩
theorem Tryz.lays171 : Go.Proofs.LaysM.n171 Tryz.prog Tryz.lays171_ren := {
  mixed := by kernel_rfl
  f129 := Tryz.func181.trans (congrArg some (by kernel_rfl))
  f171 := Tryz.func140.trans (congrArg some (by kernel_rfl))
  f243 := Tryz.func157.trans (congrArg some (by kernel_rfl))
  f246 := Tryz.func169.trans (congrArg some (by kernel_rfl))
  f283 := Tryz.func174.trans (congrArg some (by kernel_rfl))
  f284 := Tryz.func175.trans (congrArg some (by kernel_rfl))
  f285 := Tryz.func176.trans (congrArg some (by kernel_rfl))
  f286 := Tryz.func177.trans (congrArg some (by kernel_rfl))
  f317 := Tryz.func180.trans (congrArg some (by kernel_rfl))
  f318 := Tryz.func182.trans (congrArg some (by kernel_rfl))
  f319 := Tryz.func183.trans (congrArg some (by kernel_rfl))
  f320 := Tryz.func184.trans (congrArg some (by kernel_rfl))
  f337 := Tryz.func185.trans (congrArg some (by kernel_rfl))
  f338 := Tryz.func186.trans (congrArg some (by kernel_rfl))
  t0 := Tryz.underlying0
  a0 := Tryz.isAgg0
  z0 := Tryz.sizeOf0
  v0 := Tryz.zeroValue0
  t2 := Tryz.underlying2
  a2 := Tryz.isAgg2
  z2 := Tryz.sizeOf2
  v2 := Tryz.zeroValue2
  t3 := Tryz.underlying3
  a3 := Tryz.isAgg3
  z3 := Tryz.sizeOf3
  v3 := Tryz.zeroValue3
  t4 := Tryz.underlying4
  a4 := Tryz.isAgg4
  z4 := Tryz.sizeOf4
  v4 := Tryz.zeroValue4
  t5 := Tryz.underlying5
  a5 := Tryz.isAgg5
  z5 := Tryz.sizeOf5
  v5 := Tryz.zeroValue5
  t9 := Tryz.underlying9
  a9 := Tryz.isAgg9
  z9 := Tryz.sizeOf9
  v9 := Tryz.zeroValue9
  t20 := Tryz.underlying20
  a20 := Tryz.isAgg20
  z20 := Tryz.sizeOf20
  v20 := Tryz.zeroValue20
  t37 := Tryz.underlying22
  a37 := Tryz.isAgg22
  z37 := Tryz.sizeOf22
  v37 := Tryz.zeroValue22
  t46 := Tryz.underlying145
  a46 := Tryz.isAgg145
  z46 := Tryz.sizeOf145
  v46 := Tryz.zeroValue145
  t51 := Tryz.underlying233
  a51 := Tryz.isAgg233
  z51 := Tryz.sizeOf233
  v51 := Tryz.zeroValue233
  t53 := Tryz.underlying182
  a53 := Tryz.isAgg182
  z53 := Tryz.sizeOf182
  v53 := Tryz.zeroValue182
  t171 := Tryz.underlying242
  a171 := Tryz.isAgg242
  z171 := Tryz.sizeOf242
  v171 := Tryz.zeroValue242
  t173 := Tryz.underlying245
  a173 := Tryz.isAgg245
  z173 := Tryz.sizeOf245
  v173 := Tryz.zeroValue245
  t212 := Tryz.underlying249
  a212 := Tryz.isAgg249
  z212 := Tryz.sizeOf249
  v212 := Tryz.zeroValue249
  t213 := Tryz.underlying250
  a213 := Tryz.isAgg250
  z213 := Tryz.sizeOf250
  t232 := Tryz.underlying253
  a232 := Tryz.isAgg253
  z232 := Tryz.sizeOf253
  v232 := Tryz.zeroValue253
  t233 := Tryz.underlying254
  a233 := Tryz.isAgg254
  z233 := Tryz.sizeOf254
  v233 := Tryz.zeroValue254
  g17 := by kernel_rfl
  g18 := by kernel_rfl
  g19 := by kernel_rfl
  i0 := by kernel_rfl
  i2 := by kernel_rfl
  i3 := by kernel_rfl
  i4 := by kernel_rfl
  i5 := by kernel_rfl
  i9 := by kernel_rfl
  i20 := by kernel_rfl
  i37 := by kernel_rfl
  i46 := by kernel_rfl
  i51 := by kernel_rfl
  i53 := by kernel_rfl
  i171 := by kernel_rfl
  i173 := by kernel_rfl
  i212 := by kernel_rfl
  i232 := by kernel_rfl
  i233 := by kernel_rfl
  m17 := by kernel_rfl
  m18 := by kernel_rfl
  m19 := by kernel_rfl }
open Go.RowKit Go.Sort Go.Lib in
theorem Tryz.strconv_Itoa (n : Int) (h0 : -9223372036854775808 ≤ n) (h1 : n ≤ 9223372036854775807) (w : World) (htab : Lib.TabIs Tryz.prog w "internal/strconv.uint64pow10" .u64 Lib.pow10Tab) :
    Calls Tryz.prog 140 #[.int .i64 n] w fun e w' => e = .returned (.string ⟨(Lib.itoa n).toArray⟩) ∧ ∃ k os, w' = grow (w.drewN k) os := Any.strconv_Itoa Tryz.lays171 n h0 h1 w htab
end Go.Proofs
/-
  WALKS over (*strings.Builder).copyCheck and WriteRune (over this program; the shelf's own proofs are of another body of copyCheck), and over runes.pieceWidth.
-/
namespace Go.Proofs.YtcnagbkdckipnaaGreatDoor
open Go.RowKit Go.Lib

theorem sizeBuilder : (Tryz.prog.info? 115).map (·.size) = some 2 := by kernel_rfl
theorem liesBuilder : liesAt Tryz.prog Tryz.prog.depth 115 (2 / Tryz.prog.cellsOf 115) 0 115 1 = true := by kernel_rfl

set_option maxHeartbeats 1000000 in
set_option maxRecDepth 100000 in
theorem copyCheck_used (b : Nat) (w : World) (h0 : w.cell? ⟨b, 0, none⟩ = some (.pointer (some ⟨b, 0, none⟩))) :
    Calls Tryz.prog 114 #[.pointer (some ⟨b, 0, none⟩)] w fun e w' => e = .returned (.tuple #[]) ∧ w' = w := by
  obtain ⟨j, hj, _⟩ := Option.map_eq_some_iff.1 sizeBuilder
  go_enter Tryz.func114, Tryz.ntmps114
  go_wp2
  rw [Lib.run_neq_ptr_same w _ Tryz.underlying113 hj]
  go_wp2
  go_end0
  exact ⟨rfl, rfl⟩

set_option maxHeartbeats 1000000 in
set_option maxRecDepth 100000 in
theorem copyCheck_fresh (b : Nat) (w : World) (h0 : w.cell? ⟨b, 0, none⟩ = some (.pointer none)) (hsh : w.shape? b = some (115, 2)) (hfz : w.frozen? ⟨b, 0, none⟩ = false) :
    Calls Tryz.prog 114 #[.pointer (some ⟨b, 0, none⟩)] w fun e w' => e = .returned (.tuple #[]) ∧ w' = w.setCell ⟨b, 0, none⟩ (.pointer (some ⟨b, 0, none⟩)) := by
  obtain ⟨j, hj, hjs⟩ := Option.map_eq_some_iff.1 sizeBuilder
  go_enter Tryz.func114, Tryz.ntmps114
  go_wp2
  rw [Lib.run_to_unsafe w ⟨b, 0, none⟩ Tryz.underlying113 Tryz.underlying122 hj (by rw [hjs]; decide) hsh (Nat.zero_lt_succ 1)]
  simp only [Result.andThen]
  rw [Oper.upon_value]
  go_wp2
  rw [run_callFunc_extern Tryz.func129 (by kernel_rfl) (by kernel_rfl) (by kernel_rfl) (e := Extern.AbiNoEscape.same) (by kernel_rfl)]
  rw [Lib.run_noEscape]
  simp only [Result.andThen]
  rw [Oper.upon_value]
  go_wp2
  rw [Lib.run_from_unsafe w ⟨b, 0, none⟩ Tryz.underlying122 Tryz.underlying113 hj hsh liesBuilder]
  simp only [Result.andThen]
  rw [Oper.upon_value]
  go_wp2
  go_end0
  exact ⟨rfl, rfl⟩

theorem copyCheck_k (B b : Nat) (bs : List Value) (w : World) (h : Lib.IsBuilderF 115 5 B b bs w) :
    Calls Tryz.prog 114 #[.pointer (some ⟨b, 0, none⟩)] w fun e w' => e = .returned (.tuple #[]) ∧ (Lib.BuilderAtF 115 5 B b (.pointer (some ⟨b, 0, none⟩)) bs w' ∧ Below B w w' ∧ Lib.OthersKept 5 (some b) w w') := by
  rcases h with h | h
  · refine (copyCheck_fresh b w h.cell0 h.shape h.frozen0).mono ?_
    rintro e w' ⟨rfl, rfl⟩
    exact ⟨rfl, h.used _, (Below.refl B w).setCell (p := ⟨b, 0, none⟩) h.1 _, (Lib.OthersKept.refl _ _ w).setCell ⟨b, 0, none⟩ rfl _⟩
  · refine (copyCheck_used b w h.cell0).mono ?_
    rintro e w' ⟨rfl, rfl⟩
    exact ⟨rfl, h, Below.refl B _, Lib.OthersKept.refl _ _ _⟩

namespace Rn
/-- how many bytes the U+FFFD stands for that range gives at the front -/
def pw (f : Nat → Nat) (n : Nat) : Nat := if whole f n then fs f n else max 1 (fk f n)
theorem arr_extract (f : Nat → Nat) (n a b : Nat) (ha : a ≤ b) (hb : b ≤ n) : (arr f n).extract a b = arr (off f a) (b - a) := by
  have e : ((arr f n).extract a b).data = (arr (off f a) (b - a)).data := by
    rw [ByteArray.data_extract]
    apply Array.ext
    · simp [arr]; omega
    · intro i h1 h2
      simp [arr, off]
  exact congrArg ByteArray.mk e
theorem whole_le {f : Nat → Nat} {m n : Nat} (h : m ≤ n) (hw : whole f n = false) : whole f m = false := by
  by_cases h0 : m = 0
  · subst h0; simp [whole, fs]
  have e0 : fs f n = size (f 0) := by unfold fs; rw [if_neg (by omega)]
  have e1 : fs f m = size (f 0) := by unfold fs; rw [if_neg (by omega)]
  simp only [whole, decide_eq_false_iff_not, e0, e1] at hw ⊢
  intro ⟨c1, c2⟩
  have e2 := fk_min f h c1
  have a1 := fk_le_fs f n
  omega
theorem fk_three {f : Nat → Nat} {n : Nat} (hw : whole f n = false) : fk f (min n 3) = fk f n := by
  have a1 := fk_le_fs f n
  have a2 := fs_le f n
  have a3 := fk_le f n
  by_cases h0 : n = 0
  · subst h0; rfl
  have e0 : fs f n = size (f 0) := by unfold fs; rw [if_neg (by omega)]
  by_cases hs : size (f 0) = 0
  · rw [fk_zero _ _ hs, fk_zero _ _ hs]
  have e2 := fk_min f (m := min n 3) (n := n) (by omega) (by omega)
  simp only [whole, decide_eq_false_iff_not] at hw
  omega
end Rn

theorem ret_int {k : IntKind} {a b : Int} (h : a = b) : Ending.returned (.int k a) = .returned (.int k b) := by rw [h]
theorem below_bytesWorld (w : World) (e : TypeId) (s : ByteArray) : Below w.heap.size w (Lib.bytesWorld w e s) :=
  ⟨rfl, rfl, rfl, by rw [Lib.bytesWorld_size]; omega, fun k hk => Lib.bytesWorld_at_old w e s k hk⟩
theorem bytes_bytesWorld (w : World) (e : TypeId) (f : Nat → Nat) (m : Nat) (hf : ∀ j, f j < 256) : Bytes (Lib.bytesWorld w e (Rn.arr f m)) w.heap.size 0 m f := by
  intro j hj
  have h := Lib.bytesWorld_cell w e (Rn.arr f m) j (by rw [Rn.arr_size]; exact hj)
  rw [Nat.zero_add, h]
  have e1 : (((Rn.arr f m).data.toList.getD j 0).toNat : Nat) = f j := by
    have := hf j
    simp [Rn.arr, List.getD, hj]
    omega
  rw [e1]

end Go.Proofs.YtcnagbkdckipnaaGreatDoor
/-
  WALKS over (*strings.Builder).WriteString and WriteByte (over this program).
-/
namespace Go.Proofs.YtcnagbkdckipnaaGreatDoor
open Go.RowKit Go.Lib

theorem infoB8 : (Tryz.prog.info? 5).map (fun i => (i.zero, i.size, i.bytes)) = some (some (.int .u8 0), 1, 1) := by kernel_rfl

set_option maxHeartbeats 2000000 in
set_option maxRecDepth 100000 in
theorem writeString_k (B b : Nat) (bs : List Value) (s : ByteArray) (w : World) (h : Lib.IsBuilderF 115 5 B b bs w) (hlen : bs.length + s.size ≤ 140737488355328) (hBw : B ≤ w.heap.size) :
    Calls Tryz.prog 116 #[.pointer (some ⟨b, 0, none⟩), .string s] w fun e w' => e = .returned (.tuple #[.int .i64 s.size, .nilIface]) ∧ (Lib.BuilderAtF 115 5 B b (.pointer (some ⟨b, 0, none⟩)) (bs ++ Lib.strCells s) w' ∧ Below B w w' ∧ Lib.OthersKept 5 (some b) w w') := by
  obtain ⟨i0, hi, hz0, hz1, hz2⟩ := info_parts infoB8
  go_enter Tryz.func116, Tryz.ntmps116
  go_wp2_with fail
  refine (copyCheck_k B b bs _ h).mono ?_
  rintro e w1 ⟨rfl, h1, hb1, hk1⟩
  obtain ⟨hB, v, hbk, hown, hne⟩ := h1
  have c0 : w1.cell? ⟨b, 0, none⟩ = some (.pointer (some ⟨b, 0, none⟩)) := by rw [Lib.cell_of_heap hbk]; rfl
  have c1 : w1.cell? ⟨b, 1, none⟩ = some v := by rw [Lib.cell_of_heap hbk]; rfl
  go_wp2_with (at_builtin; refine Lib.wpList_append_own_stringF _ rfl _ _ 22 9 rfl B 5 i0 Tryz.underlying22 Tryz.underlying9 hi hz0 hz1 hz2 _ _ _ rfl hown s rfl ?c3 ?c4 ?c5 ?_)
  case c3 => unfold maxLen; omega
  case c4 => omega
  case c5 => have := hb1.size; omega
  intro v' w2 hown' hgrow _
  have hlt : b < w1.heap.size := by
    rcases Nat.lt_or_ge b w1.heap.size with h' | h'
    · exact h'
    · simp [Array.getElem?_eq_none h'] at hbk
  have hb2 : w2.heap[b]? = some (.cells #[.pointer (some ⟨b, 0, none⟩), v] 115 (0, 0)) := by
    rw [hgrow.block b hlt (fun e => hne e.symm)]
    exact hbk
  have d0 : w2.cell? ⟨b, 0, none⟩ = some (.pointer (some ⟨b, 0, none⟩)) := by rw [Lib.cell_of_heap hb2]; rfl
  have d1 : w2.cell? ⟨b, 1, none⟩ = some v := by rw [Lib.cell_of_heap hb2]; rfl
  have f1 : w2.frozen? ⟨b, 1, none⟩ = false := Lib.frozen_of_heap hb2 1
  obtain ⟨ao, n', cap, rfl⟩ : ∃ ao n' cap, v' = .slice ao n' cap := by
    rcases hown'.2 with ⟨hv, _⟩ | ⟨g, cap, cur, fz, hv, _⟩
    · exact ⟨_, _, _, hv⟩
    · exact ⟨_, _, _, hv⟩
  go_wp2
  go_ret2
  refine ⟨rfl, ?_, ?_, (hk1.grown hgrow (Lib.ownsRowF_kind hown)).setCell ⟨b, 1, none⟩ rfl _⟩
  · exact Lib.BuilderAtF.put (T := 115) (e := 5) hB hb2 (bs' := bs ++ Lib.strCells s) (by simpa [Lib.strCells_length] using hown') (by decide)
  · exact (hb1.grown hgrow (by have := hb1.size; omega) (fun k hk => (hown.lt k hk).1)).setCell (p := ⟨b, 1, none⟩) hB _
end Go.Proofs.YtcnagbkdckipnaaGreatDoor
/-
  WALKS over (*strings.Builder).WriteByte, lexis.inQuotes, printWord and Print; words in memory.
-/
namespace Go.Proofs.YtcnagbkdckipnaaGreatDoor
open Go.RowKit Go.Lib
namespace Lx
/-- a word that lies in memory: its kind, text, number, place -/
structure Wx where
  k : Int
  tx : ByteArray
  nm : Int
  p0 : Int
  p1 : Int
  p2 : Int
  p3 : Int
def Wx.cs (x : Wx) : Array Value := #[.int .i64 x.k, .string x.tx, .int .i64 x.nm, .int .i64 x.p0, .int .i64 x.p1, .int .i64 x.p2, .int .i64 x.p3]
def Wx.key (x : Wx) : Int × ByteArray × Int := (x.k, x.tx, x.nm)
/-- words one behind the other -/
def WRow (W : World) (v : Value) (n : Nat) (X : Nat → Wx) : Prop :=
  ∃ p cap, v = .slice p n cap ∧ n ≤ cap ∧ cap ≤ 9223372036854775807 ∧ (0 < n → ∃ b o, p = some ⟨b, o, none⟩ ∧ ∀ i j u, i < n → (X i).cs[j]? = some u → W.cell? ⟨b, o + i * 7 + j, none⟩ = some u)
theorem WRow.below {W W' : World} {B : Nat} {v : Value} {n : Nat} {X : Nat → Wx} (h : WRow W v n X) (hb : Below B W W') (hB : W.heap.size ≤ B) : WRow W' v n X := by
  obtain ⟨p, cap, e, c1, c2, c3⟩ := h
  refine ⟨p, cap, e, c1, c2, fun h0 => ?_⟩
  obtain ⟨b, o, e2, c4⟩ := c3 h0
  exact ⟨b, o, e2, fun i j u h1 h2 => (hb.cell (p := ⟨b, o + i * 7 + j, none⟩) (Nat.lt_of_lt_of_le (block_lt_of_cell (c4 i j u h1 h2)) hB)).trans (c4 i j u h1 h2)⟩
/-- the table that Itoa looks into -/
abbrev P10 (w : World) : Prop := Lib.TabIs Tryz.prog w "internal/strconv.uint64pow10" .u64 Lib.pow10Tab
theorem contains_eq (tx : ByteArray) : decide (0 ≤ Lib.indexByte tx.data.toList 34) = decide ((34 : UInt8) ∈ tx.data.toList) := by
  rw [← Lib.contains_iff_indexByte, List.contains_eq_mem]
end Lx
set_option maxHeartbeats 2000000 in
theorem lxWriteByte (B b : Nat) (bs : List Value) (c : Int) (w : World) (h : Lib.IsBuilderF 115 5 B b bs w) (hlen : bs.length + 1 ≤ 140737488355328) (hBw : B ≤ w.heap.size) :
    Calls Tryz.prog 87 #[.pointer (some ⟨b, 0, none⟩), .int .u8 c] w fun e w' => e = .returned .nilIface ∧ (Lib.BuilderAtF 115 5 B b (.pointer (some ⟨b, 0, none⟩)) (bs ++ [.int .u8 c]) w' ∧ Below B w w' ∧ Lib.OthersKept 5 (some b) w w') := by
  obtain ⟨i0, hi, hz0, hz1, hz2⟩ := info_parts infoB8
  go_enter Tryz.func87, Tryz.ntmps87
  go_wp2_with fail
  refine (copyCheck_k B b bs _ h).mono ?_
  rintro e w1 ⟨rfl, h1, hb1, hk1⟩
  obtain ⟨hB, v, hbk, hown, hne⟩ := h1
  have c0 : w1.cell? ⟨b, 0, none⟩ = some (.pointer (some ⟨b, 0, none⟩)) := by rw [Lib.cell_of_heap hbk]; rfl
  have c1 : w1.cell? ⟨b, 1, none⟩ = some v := by rw [Lib.cell_of_heap hbk]; rfl
  go_wp2_with (at_builtin; refine wpList_append_ownF _ rfl _ _ 22 rfl B 5 i0 (.int .u8 0) 1 1 Tryz.underlying22 hi hz0 hz1 hz2 rfl (by decide) _ _ _ rfl (hown.alloc _) ⟨w1.heap.size, 0, none⟩ 1 1 [.int .u8 c] rfl rfl ?c1 ?c2 ?c3 ?c4 ?c5 ?_)
  case c1 =>
    intro j u hj
    match j, hj with
    | 0, hj => simp at hj; subst hj; simp [Addr.add]
  case c2 => intro u hu; simp at hu; subst hu; rfl
  case c3 => unfold maxLen; omega
  case c4 => omega
  case c5 => have := hb1.size; simp; omega
  intro v' w2 hown' hgrow _
  have hlt : b < w1.heap.size := by
    rcases Nat.lt_or_ge b w1.heap.size with h' | h'
    · exact h'
    · simp [Array.getElem?_eq_none h'] at hbk
  have hb2 : w2.heap[b]? = some (.cells #[.pointer (some ⟨b, 0, none⟩), v] 115 (0, 0)) := by
    rw [hgrow.block b (by simp; omega) (fun e => hne e.symm), Lib.alloc_old w1 _ b hlt]
    exact hbk
  have d0 : w2.cell? ⟨b, 0, none⟩ = some (.pointer (some ⟨b, 0, none⟩)) := by rw [Lib.cell_of_heap hb2]; rfl
  have d1 : w2.cell? ⟨b, 1, none⟩ = some v := by rw [Lib.cell_of_heap hb2]; rfl
  have f1 : w2.frozen? ⟨b, 1, none⟩ = false := Lib.frozen_of_heap hb2 1
  obtain ⟨g, cap, rfl⟩ : ∃ g cap, v' = .slice (some ⟨g, 0, none⟩) (bs.length + 1) cap := by
    rcases hown'.2 with ⟨_, h0⟩ | ⟨g, cap, cur, fz, hv, _⟩
    · omega
    · exact ⟨g, cap, hv⟩
  go_wp2
  go_ret
  refine ⟨rfl, ?_, ?_, ((hk1.alloc _).grown hgrow (Lib.ownsRowF_kind (hown.alloc _))).setCell ⟨b, 1, none⟩ rfl _⟩
  · exact Lib.BuilderAtF.put (T := 115) (e := 5) hB hb2 (bs' := bs ++ [.int .u8 c]) (by simpa using hown') (by decide)
  · exact ((hb1.alloc (by have := hb1.size; omega) _).grown hgrow (by have := hb1.size; simp; omega) (fun k hk => (hown.lt k hk).1)).setCell (p := ⟨b, 1, none⟩) hB _

theorem lxInQuotes (tx : ByteArray) (w : World) (hs : tx.size ≤ 1099511627776) :
    Calls Tryz.prog 173 #[.string tx] w fun e w' => e = .returned (.string ((⟨#[Lx.quo tx]⟩ : ByteArray) ++ tx ++ ⟨#[Lx.quo tx]⟩)) ∧ w' = w := by
  have c := Tryz.strings_Contains_one tx 34 w
  rw [Lx.contains_eq] at c
  unfold Lx.quo
  by_cases h : (34 : UInt8) ∈ tx.data.toList
  · rw [decide_eq_true h] at c
    rw [if_pos h]
    clear h
    go_enter Tryz.func173, Tryz.ntmps173
    go_wp2_with fail
    refine c.mono ?_
    rintro e w' ⟨rfl, rfl⟩
    clear c
    go_wp2
    go_ret
    exact ⟨rfl, rfl⟩
  · rw [decide_eq_false h] at c
    rw [if_neg h]
    clear h
    go_enter Tryz.func173, Tryz.ntmps173
    go_wp2_with fail
    refine c.mono ?_
    rintro e w' ⟨rfl, rfl⟩
    clear c
    go_wp2
    go_ret
    exact ⟨rfl, rfl⟩
set_option maxRecDepth 100000 in
set_option maxHeartbeats 1000000 in
theorem lxPrintWord (x : Lx.Wx) (w : World) (hT : Lx.P10 w) (hs : x.tx.size ≤ 1099511627776) (h0 : -9223372036854775808 ≤ x.nm) (h1 : x.nm ≤ 9223372036854775807) :
    Calls Tryz.prog 168 #[.agg x.cs] w fun e w' => e = .returned (.string (Lx.pt x.key)) ∧ Below w.heap.size w w' := by
  obtain ⟨k, tx, nm, p0, p1, p2, p3⟩ := x
  dsimp only at hs h0 h1
  show Calls Tryz.prog 168 #[.agg #[.int .i64 k, .string tx, .int .i64 nm, .int .i64 p0, .int .i64 p1, .int .i64 p2, .int .i64 p3]] w _
  have hb := (Below.refl w.heap.size w).alloc (Nat.le_refl _) (.cells #[.int .i64 k, .string tx, .int .i64 nm, .int .i64 p0, .int .i64 p1, .int .i64 p2, .int .i64 p3] 86)
  have cI := Tryz.strconv_Itoa nm h0 h1 _ (Lib.tabIs_alloc hT (.cells #[.int .i64 k, .string tx, .int .i64 nm, .int .i64 p0, .int .i64 p1, .int .i64 p2, .int .i64 p3] 86))
  have cQ := lxInQuotes tx (w.alloc (.cells #[.int .i64 k, .string tx, .int .i64 nm, .int .i64 p0, .int .i64 p1, .int .i64 p2, .int .i64 p3] 86)) hs
  unfold Lx.pt Lx.Wx.key
  dsimp only
  have HB := hide' hb
  clear hb hT hs h0 h1
  by_cases h2 : k = 2
  · rw [if_pos h2]
    have g2 : (k == 2) = true := by simpa using h2
    clear h2 cQ
    go_enter Tryz.func168, Tryz.ntmps168
    go_wp2_with fail
    refine cI.mono ?_
    rintro e w' ⟨rfl, kk, os, rfl⟩
    clear cI
    go_wp2
    go_ret
    exact ⟨rfl, HB.out.trans (Lib.below_grow _ _ HB.out.size kk os)⟩
  · rw [if_neg h2]
    have g2 : (k == 2) = false := by simpa using h2
    clear h2 cI
    by_cases h3 : k = 1
    · rw [if_pos h3]
      have g3 : (k == 1) = true := by simpa using h3
      clear h3
      go_enter Tryz.func168, Tryz.ntmps168
      go_wp2_with fail
      refine cQ.mono ?_
      rintro e w' ⟨rfl, rfl⟩
      clear cQ
      go_wp2
      go_ret
      exact ⟨rfl, HB.out⟩
    · rw [if_neg h3]
      have g3 : (k == 1) = false := by simpa using h3
      clear h3 cQ
      go_enter Tryz.func168, Tryz.ntmps168
      go_wp2
      go_ret
      exact ⟨rfl, HB.out⟩
end Go.Proofs.YtcnagbkdckipnaaGreatDoor
