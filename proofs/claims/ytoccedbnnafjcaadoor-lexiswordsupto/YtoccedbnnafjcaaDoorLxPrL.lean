import Derived.Test.YtoccedbnnafjcaaDoorLxWords
import Derived.Test.YtoccedbnnafjcaaDoorChArg
import Derived.Lib.SlBytesConst
import Derived.Laws.OwnMore
import Derived.Test.YtoccedbnnafjcaaDoorLxPrK
import Derived.Laws.AppendOwnNone
/-
  WALKS over utf8.Valid and lexis.Words where there are no bytes; Words at any slice that came in.
-/
namespace Go.Proofs.YtoccedbnnafjcaaDoor
open Go.RowKit Go.Lib
set_option maxRecDepth 1000000 in
set_option maxHeartbeats 8000000 in
theorem valid_none (pa : Option Addr) (cap : Nat) (w : World) (hm : cap ≤ maxLen) :
    Calls Tryd.prog 17 #[.slice pa 0 cap] w fun e w' => e = .returned (.bool true) ∧ w' = w := by
  have hcap : cap ≤ 9223372036854775807 := by unfold maxLen at hm; omega
  have i0 : (0 : Int) ≤ cap := by omega
  clear hm
  cases pa with
  | none =>
    go_enter Tryd.func17, Tryd.ntmps17
    go_wp2
    go_loopw [0] (fun v wx => (∃ p, v = .slice p 0 0) ∧ wx = w) (fun _ _ => 0)
    case atStart => exact ⟨⟨_, rfl⟩, rfl⟩
    case round =>
      obtain ⟨⟨p, rfl⟩, rfl⟩ := hrel
      go_wp2
      go_ret
      exact ⟨rfl, rfl⟩
  | some ad =>
    go_enter Tryd.func17, Tryd.ntmps17
    go_wp2
    go_loopw [0] (fun v wx => (∃ p, v = .slice p 0 0) ∧ wx = w) (fun _ _ => 0)
    case atStart => exact ⟨⟨_, rfl⟩, rfl⟩
    case round =>
      obtain ⟨⟨p, rfl⟩, rfl⟩ := hrel
      go_wp2
      go_ret
      exact ⟨rfl, rfl⟩
namespace Lx
theorem words_zero (f : Nat → Nat) : words f 0 = ([], none) := rfl
theorem flt_zero (f : Nat → Nat) : flt f 0 = none := rfl
theorem lead_zero (f : Nat → Nat) (c : Int) : lead f 0 c = 0 := rfl
end Lx
set_option maxRecDepth 100000 in
set_option maxHeartbeats 4000000 in
theorem words_none (f : Nat → Nat) (v : Value) (w : World) (hf : ∀ j, f j < 256) (hS : Spans w) (hv : ArgS w f 0 v) :
    Calls Tryd.prog 8 #[v] w fun e w' => Lx.WordsE f 0 w e w' := by
  obtain ⟨pa, cap, rfl, hcap⟩ : ∃ pa cap, v = .slice pa 0 cap ∧ cap ≤ maxLen := by
    cases hv with
    | nil hn => exact ⟨none, 0, rfl, Nat.zero_le _⟩
    | some ad cap h1 h2 hc hp => exact ⟨_, cap, rfl, h2⟩
  have cV := valid_none pa cap w hcap
  have hcv := hv.text hf
  have hbp := (Below.refl w.heap.size w).alloc (Nat.le_refl _) (.cells #[.int .i64 0, .int .i64 0, .int .i64 1, .int .i64 1] 30)
  have cL := leading_any f 0 1 _ hf (by omega) (hS.below hbp (Nat.le_refl _))
  rw [Lx.lead_zero] at cL
  have hsz := Rn.arr_size f 0
  clear hv hS
  go_enter Tryd.func8, Tryd.ntmps8
  go_wp2_with fail
  refine cV.mono ?_
  rintro e w1 ⟨rfl, rfl⟩
  clear cV
  go_wp2_with fail
  refine cL.mono ?_
  rintro e w2 ⟨rfl, hb2⟩
  have hb3 := hide' (hbp.trans (hb2.mono hbp.size))
  clear cL hb2 hcv hbp
  go_wp2_with fail
  go_loopw [4, 7] (fun v4 v7 wr => v4 = .slice none 0 0 ∧ v7 = .int .i64 0 ∧ wr = w2) (fun _ _ _ => 0)
  case atStart => exact ⟨rfl, rfl, rfl⟩
  case round =>
    obtain ⟨rfl, rfl, rfl⟩ := hrel
    go_wp2_with fail
    refine bodyPost_ret (v := .tuple #[.slice none 0 0, .nilIface]) (by simp [results, Tryd.results8, go_sem]) rfl ?_
    exact .ok _ _ (Lx.flt_zero f) rfl (World.ownsRow_nil _ _ _ _) hb3.out
/-- Words of a slice that came in -/
theorem words_arg (f : Nat → Nat) (n : Nat) (v : Value) (w : World) (hT : Lib.Utf8Tabs 1 2 w) (hS : Spans w) (hG : Signs w) (hf : ∀ j, f j < 256) (hbig : n ≤ 1099511627776) (hv : ArgS w f n v) :
    Calls Tryd.prog 8 #[v] w fun e w' => Lx.WordsE f n w e w' := by
  by_cases h0 : n = 0
  · subst h0
    exact words_none f v w hf hS hv
  · cases hv with
    | nil hn => exact absurd hn h0
    | some ad cap h1 h2 hc hp =>
      obtain ⟨b, o, rfl⟩ := hp (by omega)
      exact words_any f n b o cap w hT hS hG hf h1 h2 hbig (fun j hj => by have := hc j hj; rwa [show (Addr.add ⟨b, o, none⟩ j) = ⟨b, o + j, none⟩ from by simp [Addr.add]] at this)
end Go.Proofs.YtoccedbnnafjcaaDoor
/-
  THE WALK over gimletlaw10.awake.
-/
namespace Go.Proofs.YtoccedbnnafjcaaDoor
open Go.RowKit Go.Lib
namespace Lx
/-- the bytes of awake -/
def awB : List Nat := [47, 47, 97, 91, 64, 120, 45, 49, 61, 39, 121, 39, 93, 62, 48, 48, 55]
def awF : Nat → Nat := fun j => awB.getD j 0
theorem awF_lt (j : Nat) : awF j < 256 := by
  unfold awF
  by_cases h : j < 17
  · have : ∀ j, j < 17 → awB.getD j 0 < 256 := by decide
    exact this j h
  · rw [List.getD_eq_getElem?_getD, List.getElem?_eq_none (by show 17 ≤ j; omega)]
    decide
theorem aw_flt : flt awF 17 = none := by kernel_rfl
theorem aw_len : (words awF 17).1.length = 10 := by kernel_rfl
theorem aw_1 : (wdls awF 17 (words awF 17).1)[1]? = some (.string ⟨#[47, 47]⟩) := by kernel_rfl
theorem aw_29 : (wdls awF 17 (words awF 17).1)[29]? = some (.string ⟨#[120, 45, 49]⟩) := by kernel_rfl
theorem aw_42 : (wdls awF 17 (words awF 17).1)[42]? = some (.int .i64 1) := by kernel_rfl
theorem aw_43 : (wdls awF 17 (words awF 17).1)[43]? = some (.string ⟨#[121]⟩) := by kernel_rfl
theorem aw_45 : (wdls awF 17 (words awF 17).1)[45]? = some (.int .i64 9) := by kernel_rfl
theorem aw_65 : (wdls awF 17 (words awF 17).1)[65]? = some (.int .i64 7) := by kernel_rfl
theorem row_shape {w : World} {B : Nat} {e : TypeId} {size : Nat} {v : Value} {n : Nat} {xs : List Value} (h : w.ownsRow B e size v n xs) (hn : 0 < n) : ∃ g cap, v = .slice (some ⟨g, 0, none⟩) n cap ∧ n ≤ cap ∧ cap ≤ maxLen ∧ B ≤ g ∧ ∀ j u, xs[j]? = some u → w.cell? ⟨g, j, none⟩ = some u := by
  obtain ⟨k, rfl⟩ : ∃ k, n = k + 1 := ⟨n - 1, by omega⟩
  rcases h.2 with ⟨e1, e2⟩ | ⟨g, cap, cur, e1, hb, hg, hc, hm, hs⟩
  · omega
  · subst e1
    refine ⟨g, cap, rfl, by omega, by omega, hb, fun j u hj => ?_⟩
    have := h.cells (g := g) rfl j u hj
    rwa [show ((⟨g, 0, none⟩ : Addr).add j) = ⟨g, j, none⟩ from by simp [Addr.add]; exact fun h => h.symm] at this
end Lx
set_option maxRecDepth 100000 in
set_option maxHeartbeats 4000000 in
theorem lxAwake_any (w : World) (hT : Lib.Utf8Tabs 1 2 w) (hS : Spans w) (hG : Signs w) :
    Calls Tryd.prog 7 #[] w fun e w' => e = .returned (.bool true) ∧ Below w.heap.size w w' := by
  have kc := Lib.run_convert_bytes_const (P := Tryd.prog) w 22 5 #[.int .u8 47, .int .u8 47, .int .u8 97, .int .u8 91, .int .u8 64, .int .u8 120, .int .u8 45, .int .u8 49, .int .u8 61, .int .u8 39, .int .u8 121, .int .u8 39, .int .u8 93, .int .u8 62, .int .u8 48, .int .u8 48, .int .u8 55] 17 17 Tryd.underlying22 Tryd.underlying5
  have hb : Below w.heap.size w (w.alloc (.cells #[.int .u8 47, .int .u8 47, .int .u8 97, .int .u8 91, .int .u8 64, .int .u8 120, .int .u8 45, .int .u8 49, .int .u8 61, .int .u8 39, .int .u8 121, .int .u8 39, .int .u8 93, .int .u8 62, .int .u8 48, .int .u8 48, .int .u8 55] 5 (17, 18))) := (Below.refl _ _).alloc (Nat.le_refl _) _
  have hby : Bytes (w.alloc (.cells #[.int .u8 47, .int .u8 47, .int .u8 97, .int .u8 91, .int .u8 64, .int .u8 120, .int .u8 45, .int .u8 49, .int .u8 61, .int .u8 39, .int .u8 121, .int .u8 39, .int .u8 93, .int .u8 62, .int .u8 48, .int .u8 48, .int .u8 55] 5 (17, 18))) w.heap.size 0 17 Lx.awF := by
    intro j hj
    rw [Nat.zero_add, Lib.cell_of_heap (Lx.heap_new w _)]
    have : ∀ j, j < 17 → (#[.int .u8 47, .int .u8 47, .int .u8 97, .int .u8 91, .int .u8 64, .int .u8 120, .int .u8 45, .int .u8 49, .int .u8 61, .int .u8 39, .int .u8 121, .int .u8 39, .int .u8 93, .int .u8 62, .int .u8 48, .int .u8 48, .int .u8 55] : Array Value)[j]? = some (.int .u8 (Lx.awF j : Nat)) := by
      intro j hj
      match j, hj with
      | 0, _ => rfl
      | 1, _ => rfl
      | 2, _ => rfl
      | 3, _ => rfl
      | 4, _ => rfl
      | 5, _ => rfl
      | 6, _ => rfl
      | 7, _ => rfl
      | 8, _ => rfl
      | 9, _ => rfl
      | 10, _ => rfl
      | 11, _ => rfl
      | 12, _ => rfl
      | 13, _ => rfl
      | 14, _ => rfl
      | 15, _ => rfl
      | 16, _ => rfl
      | (k + 17), h => omega
    exact this j hj
  have cW := words_any Lx.awF 17 w.heap.size 0 17 _ (tabs_below hT hb (Nat.le_refl _)) (hS.below hb (Nat.le_refl _)) (hG.below hb (Nat.le_refl _)) Lx.awF_lt (Nat.le_refl _) (by decide) (by decide) hby
  have HW := hide' cW
  have HB := hide' hb
  clear cW hb hby hT hS hG
  go_enter Tryd.func7, Tryd.ntmps7
  go_wp2_with fail
  refine HW.out.mono ?_
  intro e w1 hE
  cases hE with
  | bad a why d _ h => rw [Lx.aw_flt] at h; cases h
  | ok v _ _ _ hr hbl =>
    rw [Lx.aw_len] at hr
    obtain ⟨g, cap, rfl, hc1, hc2, _, hcell⟩ := Lx.row_shape hr (by omega)
    have hb2 := hide' (HB.out.trans (hbl.mono HB.out.size))
    have c1 := hcell 1 _ Lx.aw_1
    have c29 := hcell 29 _ Lx.aw_29
    have c42 := hcell 42 _ Lx.aw_42
    have c43 := hcell 43 _ Lx.aw_43
    have c45 := hcell 45 _ Lx.aw_45
    have c65 := hcell 65 _ Lx.aw_65
    have hc3 : cap ≤ 9223372036854775807 := by unfold maxLen at hc2; omega
    clear hr hbl hcell HW HB hc2 kc
    go_wp2
    go_ret
    exact ⟨rfl, hb2.out⟩
end Go.Proofs.YtoccedbnnafjcaaDoor
/-
  THE WALK over gimletlaw10.LexisPrints.
-/
namespace Go.Proofs.YtoccedbnnafjcaaDoor
open Go.RowKit Go.Lib
namespace Lx
/-- the cells of words -/
def wxs (X : Nat → Wx) (n : Nat) : List Value := (List.range n).flatMap fun i => (X i).cs.toList
theorem wxs_succ (X : Nat → Wx) (n : Nat) : wxs X (n + 1) = wxs X n ++ (X n).cs.toList := by simp [wxs, List.range_succ]
theorem wxs_length (X : Nat → Wx) : ∀ n, (wxs X n).length = n * 7
  | 0 => rfl
  | n + 1 => by
    rw [wxs_succ, List.length_append, wxs_length X n]
    show n * 7 + 7 = _
    omega
theorem wxs_get (X : Nat → Wx) : ∀ (n i j : Nat), i < n → j < 7 → (wxs X n)[i * 7 + j]? = (X i).cs[j]?
  | 0, i, j, h, _ => by omega
  | n + 1, i, j, h, hj => by
    rw [wxs_succ]
    by_cases c : i < n
    · rw [List.getElem?_append_left (by rw [wxs_length]; omega), wxs_get X n i j c hj]
    · obtain rfl : i = n := by omega
      rw [List.getElem?_append_right (by rw [wxs_length]; omega), wxs_length, show i * 7 + j - i * 7 = j by omega, Array.getElem?_toList]
theorem wxs_one (X : Nat → Wx) (n : Nat) : ∀ u ∈ wxs X n, u.oneCell' = true := by
  intro u hu
  simp only [wxs, List.mem_flatMap] at hu
  obtain ⟨i, _, hu⟩ := hu
  simp [Wx.cs] at hu
  rcases hu with rfl | rfl | rfl | rfl | rfl | rfl | rfl <;> rfl
theorem WRow.own {W : World} {B n : Nat} {v : Value} {X : Nat → Wx} (h : W.ownsRow B 43 7 v n (wxs X n)) : WRow W v n X := by
  by_cases h0 : 0 < n
  · obtain ⟨g, cap, rfl, c1, c2, _, c4⟩ := row_shape h h0
    refine ⟨_, cap, rfl, c1, by unfold maxLen at c2; omega, fun _ => ⟨g, 0, rfl, fun i j u h1 h2 => ?_⟩⟩
    have hj : j < 7 := by
      have := (Array.getElem?_eq_some_iff.1 h2).1
      exact this
    rw [Nat.zero_add]
    exact c4 _ u (by rw [wxs_get X n i j h1 hj]; exact h2)
  · rcases h.2 with ⟨e1, e2⟩ | ⟨g, cap, cur, e1, _, _, c1, c2, _⟩
    · exact ⟨none, 0, by rw [e1, e2], by omega, by omega, fun h => absurd h h0⟩
    · exact ⟨_, cap, e1, c1, by unfold maxLen at c2; omega, fun h => absurd h h0⟩
/-- a word of a query, as it lies in memory -/
def wxOf (f : Nat → Nat) (n : Nat) (x : Nat × Wd) : Wx := ⟨x.2.k, x.2.tx, x.2.nm, x.1, (Rn.plc f n x.1).1, (Rn.plc f n x.1).2.1, (Rn.plc f n x.1).2.2⟩
def wxL (f : Nat → Nat) (n : Nat) (l : List (Nat × Wd)) : Nat → Wx := fun i => (l[i]?.map (wxOf f n)).getD ⟨0, ⟨#[]⟩, 0, 0, 0, 0, 0⟩
theorem wxL_key (f : Nat → Nat) (n : Nat) (l : List (Nat × Wd)) : (fun i => (wxL f n l i).key) = nth l := by
  funext i
  unfold wxL nth
  cases l[i]? <;> rfl
theorem wdls_wxs (f : Nat → Nat) (n : Nat) (l : List (Nat × Wd)) : wdls f n l = wxs (wxL f n l) l.length := by
  have hlen : ∀ m : List (Nat × Wd), (wdls f n m).length = m.length * 7 := by
    intro m
    induction m with
    | nil => rfl
    | cons x m ih =>
      have e : wdls f n (x :: m) = wdl f n x ++ wdls f n m := by simp [wdls]
      rw [e, List.length_append, wdl_length, ih, List.length_cons]
      omega
  apply List.ext_getElem?
  intro t
  by_cases h : t / 7 < l.length
  · have e : t / 7 * 7 + t % 7 = t := by omega
    have hx : l[t / 7]? = some l[t / 7] := List.getElem?_eq_getElem h
    have h1 := wdls_get f n l (t / 7) l[t / 7] (t % 7) hx (by omega)
    have h2 := wxs_get (wxL f n l) l.length (t / 7) (t % 7) h (by omega)
    rw [e] at h1 h2
    rw [h1, h2]
    unfold wxL
    rw [hx]
    show (wdC _ _ _ _).toList[t % 7]? = _
    rw [Array.getElem?_toList]
    rfl
  · rw [List.getElem?_eq_none (by rw [hlen]; omega), List.getElem?_eq_none (by rw [wxs_length]; omega)]
/-- words that came in -/
def WArg (W : World) (v : Value) (n : Nat) (X : Nat → Wx) : Prop := WRow W v n X ∧ (v = .slice none 0 0 ∨ ∃ ad cap, v = .slice (some ad) n cap)
theorem WArg.below {W W' : World} {B : Nat} {v : Value} {n : Nat} {X : Nat → Wx} (h : WArg W v n X) (hb : Below B W W') (hB : W.heap.size ≤ B) : WArg W' v n X := ⟨h.1.below hb hB, h.2⟩
theorem owns_noneW (w : World) : (w.alloc (.cells #[] 43)).ownsRow w.heap.size 43 7 (.slice (some ⟨w.heap.size, 0, none⟩) 0 0) 0 [] :=
  ⟨rfl, .inr ⟨w.heap.size, 0, #[], rfl, Nat.le_refl _, (by show (w.heap.push _)[w.heap.size]? = _; simp), Nat.le_refl _, by decide, rfl, rfl⟩⟩
/-- a copy of words that came in -/
theorem append_words {w : World} {ops : Array Oper} {rest : List Oper} {o : Oper} {a : Act} {Q : Exit → Act → World → Prop} (hgd : o.guard = none) (s x : Operand)
    (ho : o.op = .call { callee := .builtin .append, args := #[s, x], argTypes := #[24, 24] }) (base : Nat) (v vx : Value) (m : Nat) (X : Nat → Wx) (hs : a.eval s = v) (hown : w.ownsRow base 43 7 v 0 [])
    (hx : a.eval x = vx) (hA : WArg w vx m X) (hb : m ≤ 1099511627776) (hbase : base ≤ w.heap.size)
    (h : ∀ v' w', w'.ownsRow base 43 7 v' m (wxs X m) → w.grownBy w' v.ownBlock → wpList Tryd.prog ops Q rest (a.put o.dst v') w') : wpList Tryd.prog ops Q (o :: rest) a w := by
  obtain ⟨i0, hi, hz0, hz1, hz2⟩ := info_parts wdInfo3
  obtain ⟨⟨p, cap, e, c1, c2, c3⟩, hA2⟩ := hA
  rcases hA2 with rfl | ⟨ad, cap', rfl⟩
  · obtain rfl : m = 0 := by cases e; rfl
    refine wpList_append_own_none hgd s x 24 ho base 43 i0 7 Tryd.underlying24 hi v 0 [] hs hown hx ?_
    exact h v w hown ⟨rfl, rfl, rfl, Nat.le_refl _, fun _ _ _ => rfl⟩
  · obtain ⟨rfl, rfl⟩ : p = some ad ∧ cap = cap' := by cases e; exact ⟨rfl, rfl⟩
    refine wpList_append_own w hgd s x 24 ho base 43 i0 (.agg wd0) 7 64 Tryd.underlying24 hi hz0 hz1 hz2 rfl (by decide) v 0 [] hs hown ad m cap (wxs X m) hx (wxs_length X m) ?_ (wxs_one X m) (by unfold maxLen; omega) (by omega) hbase (fun v' w' h3 h4 _ => h v' w' (by rw [Nat.zero_add] at h3; exact h3) h4)
    intro j u hu
    have hj : j < m * 7 := by
      have := (List.getElem?_eq_some_iff.1 hu).1
      rwa [wxs_length] at this
    obtain ⟨b, q, e2, c4⟩ := c3 (by omega)
    obtain rfl : ad = ⟨b, q, none⟩ := by cases e2; rfl
    have h1 := wxs_get X m (j / 7) (j % 7) (by omega) (by omega)
    rw [show j / 7 * 7 + j % 7 = j by omega, hu] at h1
    have := c4 (j / 7) (j % 7) u (by omega) h1.symm
    rw [show q + j / 7 * 7 + j % 7 = q + j by omega] at this
    rw [show (Addr.add ⟨b, q, none⟩ j) = ⟨b, q + j, none⟩ from by simp [Addr.add]]
    exact this
/-- string to bytes -/
theorem conv_str (g : Nat → Nat) (m : Nat) (w : World) (hg : ∀ j, g j < 256) (hm : m ≤ 1099511627776) :
    ∃ v W, (convert 9 22 (.string (Rn.arr g m))).run Tryd.prog w = .ok v W ∧ ArgS W g m v ∧ Below w.heap.size w W := by
  have h := Lib.run_convert_string_bytes (P := Tryd.prog) w 9 22 5 (Rn.arr g m) Tryd.underlying9 Tryd.underlying22 Tryd.underlying5
  rw [Rn.arr_size] at h
  refine ⟨_, _, h, .some _ _ (grownCap_ge _ _ _ _) (grownCap_le_maxLen _ _ _ _ (by unfold maxLen; omega)) (fun j hj => ?_) (fun _ => ⟨_, _, rfl⟩), below_bytesWorld w 5 _⟩
  have := bytes_bytesWorld w 5 g m hg j hj
  rw [show (Addr.add ⟨w.heap.size, 0, none⟩ j) = ⟨w.heap.size, 0 + j, none⟩ from by simp [Addr.add]; omega]
  exact this
open _root_.Go.Proofs.YtoccedbnnafjcaaDoor.Fd in
/-- what is known of the words of a query -/
theorem words_facts {f : Nat → Nat} {n : Nat} (hf : ∀ j, f j < 256) (hv : V f n 0 = true) : (∀ x ∈ (words f n).1, Rdd x.2 ∧ x.2.tx.size ≤ n ∧ x.2.nm ≤ 1000000) ∧ tsz (nth (words f n).1) (words f n).1.length ≤ 8 * n := by
  have hr : Run f n 0 n := (vd_run f n).1 hv
  have hl := lead_le (f := f) (n := n) (c := 1) hf
  have hr2 : Run f n (lead f n 1) n := run_rest hr (lead_run hf hr)
  refine ⟨fun x hx => ?_, ?_⟩
  · have h1 := wds_rdd hf n _ hl hr2 x hx
    have h2 := wds_wd hf n _ hl x hx
    have h3 := rdd_facts h1
    exact ⟨h1, by omega, by omega⟩
  · have := wds_tsz hf n _ hl hr2
    unfold words
    omega
end Lx
end Go.Proofs.YtoccedbnnafjcaaDoor
