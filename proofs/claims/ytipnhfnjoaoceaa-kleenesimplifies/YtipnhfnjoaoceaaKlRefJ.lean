/-
  THE WALK over gimletref14.joined (gen_joi.py).
-/
import Derived.Test.YtipnhfnjoaoceaaKlRefP
namespace Go.Proofs.Ytipnhfnjoaoceaa
open Go.RowKit Go.Lib Go.Sort
namespace Kl
/-- an argument's parts, in memory -/
def fltV (op : Int) (x : Fv) : List Fv := if x.op = op then x.ar else [x]
theorem ct_ar (x : Fv) : (ct x).ar = x.ar.map ct := by cases x; rw [ct, ← cts_map]; rfl
theorem fltV_ct (op : Int) (x : Fv) : (fltV op x).map ct = flt op (ct x) := by
  unfold fltV flt
  rw [ct_op]
  split
  · rw [ct_ar]
  · rfl
theorem flatV_ct (op : Int) (R : List Fv) : (R.flatMap (fltV op)).map ct = (R.map ct).flatMap (flt op) := by
  induction R with
  | nil => rfl
  | cons x R ih => rw [List.flatMap_cons, List.map_append, ih, fltV_ct, List.map_cons, List.flatMap_cons]
theorem put_len (f : Fm) : ∀ l : List Fm, (put f l).length ≤ l.length + 1
  | [] => by simp [put]
  | g :: l => by
    have := put_len f l
    unfold put
    split
    · simp
    · split
      · simp
      · simp; omega
theorem srl_len (l : List Fm) : (sr l).length ≤ l.length := by
  have : ∀ a : List Fm, (l.foldl (fun a f => put f a) a).length ≤ a.length + l.length := by
    induction l with
    | nil => intro a; simp
    | cons f l ih => intro a; have h1 := ih (put f a); have h2 := put_len f a; rw [List.foldl_cons, List.length_cons]; omega
  have h := this []
  unfold sr
  simpa using h
theorem sr_snoc (l : List Fm) (x : Fm) : sr (l ++ [x]) = put x (sr l) := by unfold sr; rw [List.foldl_append]; rfl
/-- where joined is behind the parts P -/
structure Jn (w : World) (id st : Int) (P L : List Fv) (a : Value) (wr : World) : Prop where
  row : OR wr a L
  con : L.map ct = sr (lft id (P.map ct))
  non : (P.map ct).any (isC st) = false
  mem : ∀ x ∈ L, x ∈ P
  own : ∀ b, a.ownBlock = some b → w.heap.size ≤ b
  bel : Below w.heap.size w wr
theorem Jn.grow {w : World} {id st : Int} {P L : List Fv} {a : Value} {wr w1 : World} (h : Jn w id st P L a wr) (hb : Below wr.heap.size wr w1) : Jn w id st P L a w1 :=
  ⟨h.row.keep fun b _ hl => hb.block b hl, h.con, h.non, h.mem, h.own, h.bel.trans (hb.mono h.bel.size)⟩
theorem Jn.len {w : World} {id st : Int} {P L : List Fv} {a : Value} {wr : World} (h : Jn w id st P L a wr) : L.length ≤ P.length := by
  have h1 := congrArg List.length h.con
  have h2 := srl_len (lft id (P.map ct))
  have h3 : (lft id (P.map ct)).length ≤ (P.map ct).length := List.length_filter_le _ _
  rw [List.length_map] at h1 h3
  omega
theorem Jn.skip {w : World} {id st : Int} {P L : List Fv} {a : Value} {wr : World} {p : Fv} (h : Jn w id st P L a wr) (h1 : isC st (ct p) = false) (h2 : isC id (ct p) = true) : Jn w id st (P ++ [p]) L a wr :=
  ⟨h.row, by rw [h.con, List.map_append]; unfold lft; rw [List.filter_append]; simp [h2], by rw [List.map_append, List.any_append, h.non]; simp [h1], fun x hx => List.mem_append_left _ (h.mem x hx), h.own, h.bel⟩
theorem Jn.put {w : World} {id st : Int} {P L : List Fv} {a a' : Value} {wr w2 : World} {p : Fv} (h : Jn w id st P L a wr) (h1 : isC st (ct p) = false) (h2 : isC id (ct p) = false) (hr : OR w2 a' (putV p L)) (ho : ∀ b, a'.ownBlock = some b → wr.heap.size ≤ b) (hb : Below wr.heap.size wr w2) : Jn w id st (P ++ [p]) (putV p L) a' w2 := by
  refine ⟨hr, ?_, by rw [List.map_append, List.any_append, h.non]; simp [h1], fun x hx => ?_, fun b hb' => Nat.le_trans h.bel.size (ho b hb'), h.bel.trans (hb.mono h.bel.size)⟩
  · rw [putV_ct, h.con, List.map_append]
    unfold lft
    rw [List.filter_append]
    simp only [List.map_cons, List.map_nil, List.filter_cons, h2, Bool.not_false, if_true, List.filter_nil]
    rw [sr_snoc]
  · rcases putV_mem p L x hx with e | e
    · rw [e]; simp
    · exact List.mem_append_left _ (h.mem x e)
/-- what joined answers -/
def JoR (op id st : Int) (R : List Fv) (w : World) (r : Ending) (w' : World) : Prop :=
  ∃ (y : Fv) (yo yv yn : Int) (yp : Option Addr) (ky yc : Nat), r = .returned (.agg #[.int .i64 yo, .int .i64 yv, .int .i64 yn, .slice yp ky yc]) ∧ Hid (y.enc = [.int .i64 yo, .int .i64 yv, .int .i64 yn, .slice yp ky yc]) ∧ Hid (Ok w' y ∧ ct y = jnM op id st (R.map ct) ∧ (∀ b ∈ fp y, b ∈ fps R ∨ w.heap.size ≤ b) ∧ Below w.heap.size w w')
/-- the result's cell written last -/
theorem fin_res {w W w3 : World} {y : Fv} (hb : Below w.heap.size w W) (hz : W.heap.size = w.heap.size + 1) (h3 : Below W.heap.size W w3) (hy : Ok w3 y) (hf : w.heap.size ∉ fp y) (a b c d : Value) :
    Ok ((((w3.setCell ⟨w.heap.size, 0, none⟩ a).setCell ⟨w.heap.size, 1, none⟩ b).setCell ⟨w.heap.size, 2, none⟩ c).setCell ⟨w.heap.size, 3, none⟩ d) y ∧ Below w.heap.size w ((((w3.setCell ⟨w.heap.size, 0, none⟩ a).setCell ⟨w.heap.size, 1, none⟩ b).setCell ⟨w.heap.size, 2, none⟩ c).setCell ⟨w.heap.size, 3, none⟩ d) := by
  have hc : Chs [w.heap.size] w3 ((((w3.setCell ⟨w.heap.size, 0, none⟩ a).setCell ⟨w.heap.size, 1, none⟩ b).setCell ⟨w.heap.size, 2, none⟩ c).setCell ⟨w.heap.size, 3, none⟩ d) := by
    refine Chs.setc (Chs.setc (Chs.setc (Chs.setc (Chs.of_below (Below.refl _ _)) (.inr ?_) _) (.inr ?_) _) (.inr ?_) _) (.inr ?_) _
    all_goals simp
  refine ⟨hc.ok hy fun b hb' c => ?_, ?_⟩
  · simp at c; subst c; exact hf hb'
  · have h4 : Below w.heap.size w w3 := hb.trans (h3.mono (by omega))
    refine Below.setCell (Below.setCell (Below.setCell (Below.setCell h4 ?_ _) ?_ _) ?_ _) ?_ _
    all_goals exact Nat.le_refl _
/-- a row as a formula's arguments -/
theorem OR.ok {w : World} {p : Option Addr} {c : Nat} {L : List Fv} (h : OR w (.slice p L.length c) L) (he : ∀ x ∈ L, Ok w x) (o v n : Int) : Ok w (.mk o v n p c L) := by
  refine Ok.mk' ?_ ?_ fun hl => ?_
  · rcases h with ⟨e, rfl⟩ | ⟨g, cap, e, hr⟩
    · exact Nat.zero_le _
    · cases e; exact hr.len
  · rcases h with ⟨e, rfl⟩ | ⟨g, cap, e, hr⟩
    · cases e; omega
    · cases e; have := hr.max; unfold maxLen at this; exact this
  · rcases h with ⟨e, rfl⟩ | ⟨g, cap, e, hr⟩
    · simp at hl
    · cases e
      refine ⟨g, 0, rfl, fun i x hx => ⟨?_, he x (List.mem_of_getElem? hx)⟩⟩
      have := hr.rng i (List.getElem?_eq_some_iff.1 hx).1
      rw [nth_some hx] at this
      rw [Nat.zero_add]
      exact this
theorem fps_flt {op : Int} {R : List Fv} {x : Fv} (h : x ∈ R.flatMap (fltV op)) : ∀ b ∈ fp x, b ∈ fps R := fun b hb => by
  obtain ⟨y, hy, hx⟩ := List.mem_flatMap.1 h
  unfold fltV at hx
  split at hx
  · obtain ⟨o, v, n, p, c, l⟩ := y
    exact (fps_mem R b).2 ⟨_, hy, by rw [fp]; exact List.mem_append_right _ ((fps_mem l b).2 ⟨x, hx, hb⟩)⟩
  · simp at hx
    subst hx
    exact (fps_mem R b).2 ⟨x, hy, hb⟩
theorem ok_flt {w : World} {op : Int} {R : List Fv} (h : ∀ x ∈ R, Ok w x) : ∀ x ∈ R.flatMap (fltV op), Ok w x := fun x hx => by
  obtain ⟨y, hy, hx⟩ := List.mem_flatMap.1 hx
  unfold fltV at hx
  split at hx
  · obtain ⟨o, v, n, p, c, l⟩ := y
    obtain ⟨_, _, k⟩ := (h _ hy).row
    obtain ⟨i, hi⟩ := List.getElem?_of_mem hx
    change l[i]? = some x at hi
    obtain ⟨b, o', _, k⟩ := k (by have := (List.getElem?_eq_some_iff.1 hi).1; omega)
    exact (k i x hi).2
  · simp at hx
    subst hx
    exact h x hy
theorem isC_mk (v : Int) (x : Fv) (o va n : Int) (p : Option Addr) (c : Nat) (l : List Fv) (h : x = .mk o va n p c l) : isC v (ct x) = (o == 0 && va == v) := by rw [h, ct]; rfl
theorem flat_pos {op : Int} {R : List Fv} {i : Nat} {x : Fv} (h : R[i]? = some x) : ∃ T, R.flatMap (fltV op) = ((R.take i).flatMap (fltV op) ++ fltV op x) ++ T := by
  refine ⟨(R.drop (i + 1)).flatMap (fltV op), ?_⟩
  conv => lhs; rw [← List.take_append_drop i R]
  rw [List.flatMap_append, drop_some h, List.flatMap_cons, List.append_assoc]
theorem flat_next {op : Int} {R : List Fv} {i : Nat} {x : Fv} (h : R[i]? = some x) : (R.take (i + 1)).flatMap (fltV op) = (R.take i).flatMap (fltV op) ++ fltV op x := by
  rw [take_snoc h, List.flatMap_append]
  simp
end Kl
set_option maxRecDepth 100000 in
set_option maxHeartbeats 8000000 in
theorem klJoinedAnd (v : Value) (R : List Kl.Fv) (w : World) (hv : Kl.Src w v R) (hq : ∀ y ∈ R, Kl.Ok w y) (hn : (R.flatMap (Kl.fltV 2)).length ≤ 1048576) (hl : R.length ≤ 1048576) :
    Calls Try.prog 51 #[.int .i64 2, v] w (Kl.JoR 2 2 0 R w) := by
  have hk : ((2 : Int) = 2 ∧ (2 : Int) = 2 ∧ (0 : Int) = 0) ∨ ((2 : Int) = 3 ∧ (2 : Int) = 0 ∧ (0 : Int) = 2) := by decide
  obtain ⟨pq, cq, rfl, hcl⟩ : ∃ p c, v = .slice p R.length c ∧ ∀ i y, R[i]? = some y → ∃ b o, p = some ⟨b, o, none⟩ ∧ w.rangeAt b (o + i * 4) y.enc := by
    rcases hv with ⟨rfl, rfl⟩ | ⟨b, o, c, rfl, h⟩
    · exact ⟨none, 0, rfl, fun i y h => by simp at h⟩
    · exact ⟨_, c, rfl, fun i y hy => ⟨b, o, rfl, h i y hy⟩⟩
  obtain ⟨k1, hk1⟩ : ∃ k, R.length = k := ⟨_, rfl⟩
  have hF := Kl.ok_flt (op := 2) hq
  obtain ⟨F, hFd⟩ : ∃ F, R.flatMap (Kl.fltV 2) = F := ⟨_, rfl⟩
  rw [hFd] at hn hF
  have HFP : Hid (∀ x ∈ F, ∀ b ∈ Kl.fp x, b ∈ Kl.fps R) := fun x hx => Kl.fps_flt (op := 2) (by rw [hFd]; exact hx)
  have HRL : Hid (∀ b ∈ Kl.fps R, b < w.heap.size) := fun b hb => by
    obtain ⟨x, hx, hb⟩ := (Kl.fps_mem R b).1 hb
    exact (hq x hx).lt x b hb
  have CP := hide' (fun y (hy : y ∈ F) a L w' (hb : Below w.heap.size w w') (hr : Kl.OR w' a L) (hL : ∀ x ∈ L, x ∈ F) (hl : L.length ≤ 1048576) => klPut y a L w' ((hF y hy).below hb) hr.src (fun z hz => (hF z (hL z hz)).below hb) hl)
  have HJM : Hid (∀ L : List Kl.Fv, ((F.map Kl.ct).any (Kl.isC 0) = true → Kl.jnM 2 2 0 (R.map Kl.ct) = Kl.cons 0) ∧ ((F.map Kl.ct).any (Kl.isC 0) = false → L.map Kl.ct = Kl.sr (Kl.lft 2 (F.map Kl.ct)) → Kl.jnM 2 2 0 (R.map Kl.ct) = Kl.fin1 2 2 (L.map Kl.ct))) := fun L => by
    unfold Kl.jnM
    rw [← Kl.flatV_ct, hFd]
    exact ⟨fun h => by rw [if_pos h], fun h e => by rw [if_neg (by rw [h]; simp), e]⟩
  have HRO := hide' hq
  have HFO := hide' hF
  have HN := hide' hn
  have HFD := hide' hFd
  have HCL := hide' hcl
  have K1 := hide' hk1
  rw [hk1]
  rw [hk1] at hl
  obtain ⟨W, hWd⟩ : ∃ W, w.alloc (.cells #[.int .i64 0, .int .i64 0, .int .i64 0, .slice none 0 0] 37) = W := ⟨_, rfl⟩
  have HBW : Hid (Below w.heap.size w W) := by rw [← hWd]; exact (Below.refl _ _).alloc (Nat.le_refl _) _
  have HZ : Hid (W.heap.size = w.heap.size + 1) := by show W.heap.size = _; rw [← hWd]; simp
  have HD : Hid (W.cell? ⟨w.heap.size, 0, none⟩ = some (.int .i64 0) ∧ W.cell? ⟨w.heap.size, 1, none⟩ = some (.int .i64 0) ∧ W.cell? ⟨w.heap.size, 2, none⟩ = some (.int .i64 0) ∧ W.cell? ⟨w.heap.size, 3, none⟩ = some (.slice none 0 0)) := by rw [← hWd]; refine ⟨?_, ?_, ?_, ?_⟩ <;> simp
  have HDF : Hid (∀ o, W.frozen? ⟨w.heap.size, o, none⟩ = false) := fun o => by rw [← hWd]; simp
  have HUP : Hid (∀ w', Below W.heap.size W w' → Below w.heap.size w w') := fun w' h => HBW.out.trans (h.mono HBW.out.size)
  have HRES : Hid (∀ (w3 : World) (y : Kl.Fv), Below W.heap.size W w3 → Kl.Ok w3 y → Kl.ct y = Kl.jnM 2 2 0 (R.map Kl.ct) → (∀ b ∈ Kl.fp y, b ∈ Kl.fps R ∨ W.heap.size ≤ b) → ∀ (yo yv yn : Int) (yp : Option Addr) (ky yc : Nat), y.enc = [.int .i64 yo, .int .i64 yv, .int .i64 yn, .slice yp ky yc] → ∀ a b c d,
      Kl.JoR 2 2 0 R w (.returned (.agg #[.int .i64 yo, .int .i64 yv, .int .i64 yn, .slice yp ky yc])) ((((w3.setCell ⟨w.heap.size, 0, none⟩ a).setCell ⟨w.heap.size, 1, none⟩ b).setCell ⟨w.heap.size, 2, none⟩ c).setCell ⟨w.heap.size, 3, none⟩ d)) := fun w3 y hb hy hc hf yo yv yn yp ky yc he a b c d => by
    have hnf : w.heap.size ∉ Kl.fp y := fun h => by
      rcases hf _ h with k | k
      · exact Nat.lt_irrefl _ (HRL.out _ k)
      · rw [HZ.out] at k; omega
    obtain ⟨r1, r2⟩ := Kl.fin_res HBW.out HZ.out hb hy hnf a b c d
    refine ⟨y, yo, yv, yn, yp, ky, yc, rfl, he, r1, hc, fun b' hb' => ?_, r2⟩
    rcases hf b' hb' with k | k
    · exact .inl k
    · exact .inr (by rw [HZ.out] at k; omega)
  have HDC : Hid (∀ w3, Below W.heap.size W w3 → (w3.cell? ⟨w.heap.size, 0, none⟩ = some (.int .i64 0) ∧ w3.cell? ⟨w.heap.size, 1, none⟩ = some (.int .i64 0) ∧ w3.cell? ⟨w.heap.size, 2, none⟩ = some (.int .i64 0) ∧ w3.cell? ⟨w.heap.size, 3, none⟩ = some (.slice none 0 0)) ∧ (∀ o, w3.frozen? ⟨w.heap.size, o, none⟩ = false) ∧ w.heap.size < w3.heap.size) := fun w3 h => by
    have hlt : w.heap.size < W.heap.size := by rw [HZ.out]; omega
    have e : ∀ o, w3.cell? ⟨w.heap.size, o, none⟩ = W.cell? ⟨w.heap.size, o, none⟩ := fun o => h.cell (p := ⟨w.heap.size, o, none⟩) hlt
    rw [e, e, e, e]
    exact ⟨HD.out, fun o => (h.frozen (p := ⟨w.heap.size, o, none⟩) hlt).trans (HDF.out o), Nat.lt_of_lt_of_le hlt h.size⟩
  have HWd := hide' hWd
  clear hv hq hn hcl hk1 hF hFd hWd hk
  go_enter Try.func51, Try.ntmps51
  go_wp2_with fail
  rw [HWd.out]
  go_loopw [7, 17] (fun a u wr => ∃ (i : Nat) (L : List Kl.Fv), u = .int .i64 i ∧ i ≤ k1 ∧ Hid (Kl.Jn W 2 0 ((R.take i).flatMap (Kl.fltV 2)) L a wr)) (fun _ u _ => k1 - (RowKit.intOf u).toNat)
  case atStart => exact ⟨0, [], rfl, Nat.zero_le _, ⟨.inl ⟨rfl, rfl⟩, rfl, rfl, (fun x hx => by cases hx), (fun b hb => by cases hb), Below.refl _ _⟩⟩
  case round =>
    obtain ⟨wo, hwo⟩ : ∃ x, x = wr := ⟨_, rfl⟩
    subst hwo
    obtain ⟨i, L, rfl, hi, HJ⟩ := hrel
    obtain ⟨pa, ca, hf, la1, la2⟩ := HJ.out.row.form
    subst hf
    obtain ⟨ka, hka⟩ : ∃ k, L.length = k := ⟨_, rfl⟩
    have HKA := hide' hka
    rw [hka] at la1 HJ
    simp only [hka]
    clear hka
    have hzo : w.heap.size < wo.heap.size := (HDC.out _ HJ.out.bel).2.2
    by_cases hlt : i < k1
    · have t1 : (i : Int) < (k1 : Int) := by omega
      obtain ⟨x, hx⟩ := Kl.some_of (l := R) (i := i) (by rw [K1.out]; exact hlt)
      obtain ⟨b, o1, rfl, rx⟩ := HCL.out i x hx
      have HXI := hide' hx
      have hxo := HRO.out x (List.mem_of_getElem? hx)
      obtain ⟨PL, hPL⟩ : ∃ PL, Kl.fltV 2 x = PL := ⟨_, rfl⟩
      obtain ⟨T, hT⟩ := Kl.flat_pos (op := 2) hx
      have hNX := Kl.flat_next (op := 2) hx
      rw [HFD.out, hPL] at hT
      rw [hPL] at hNX
      have HTT := hide' hT
      have HNX := hide' hNX
      obtain ⟨Q0, hQ0⟩ : ∃ Q0, (R.take i).flatMap (Kl.fltV 2) = Q0 := ⟨_, rfl⟩
      rw [hQ0] at HJ HTT HNX
      obtain ⟨xo, xv, xn, xp, xc, xl⟩ := x
      obtain ⟨kx, hkx⟩ : ∃ k, xl.length = k := ⟨_, rfl⟩
      obtain ⟨a0, a1, a2, a3⟩ := Kl.cells4 rx
      have hcr : ∀ {a : Addr} {u : Value}, w.cell? a = some u → wo.cell? a = some u := fun {a u} h => ((HUP.out _ HJ.out.bel).cell (p := a) (block_lt_of_cell h)).trans h
      have q0 := hcr a0
      have q1 := hcr a1
      have q2 := hcr a2
      have q3 := hcr a3
      rw [hkx] at q3
      have hro := hxo.row
      rw [hkx] at hro
      have HRX := hide' hro.2.2
      have HOX := hide' hxo
      have HPL := hide' hPL
      have HKX := hide' hkx
      clear hx rx hxo hro hPL hT hNX hQ0 hkx a0 a1 a2 a3 hcr HCL
      by_cases hop : xo = 2
      · subst hop
        obtain rfl : xl = PL := by have := HPL.out; unfold Kl.fltV at this; rw [if_pos (show (Kl.Fv.mk 2 xv xn xp xc xl).op = 2 from rfl)] at this; exact this
        have hkp : kx ≤ 1048576 := by have h1 := congrArg List.length HTT.out; have h2 := HN.out; have h3 := HKX.out; simp only [List.length_append] at h1; omega
        go_wp2_with fail
        have HPC : Hid (∀ j y, xl[j]? = some y → ∃ b o, xp = some ⟨b, o, none⟩ ∧ wo.rangeAt b (o + j * 4) y.enc) := fun j y hy => by
          obtain ⟨b, o, e, k⟩ := HRX.out (by have := (List.getElem?_eq_some_iff.1 hy).1; rw [HKX.out] at this; omega)
          refine ⟨b, o, e, fun t u hu => ?_⟩
          have := (k j y hy).1 t u hu
          exact ((HUP.out _ HJ.out.bel).cell (p := ⟨b, o + j * 4 + t, none⟩) (block_lt_of_cell this)).trans this
        obtain ⟨wq, hwq⟩ : ∃ wq, (wo.alloc (.cells #[.int .i64 2, .int .i64 xv, .int .i64 xn, .slice xp kx xc] 37)).alloc (.cells #[.int .i64 2, .int .i64 xv, .int .i64 xn, .slice xp kx xc] 37) = wq := ⟨_, rfl⟩
        have hbq : Below wo.heap.size wo wq := by rw [← hwq]; exact ((Below.refl _ _).alloc (Nat.le_refl _) _).alloc (by simp) _
        have HPQ : Hid (∀ j y, xl[j]? = some y → ∃ b o, xp = some ⟨b, o, none⟩ ∧ wq.rangeAt b (o + j * 4) y.enc) := fun j y hy => by
          obtain ⟨b, o, e, k⟩ := HPC.out j y hy
          exact ⟨b, o, e, fun t u hu => (hbq.cell (p := ⟨b, o + j * 4 + t, none⟩) (block_lt_of_cell (k t u hu))).trans (k t u hu)⟩
        have HJ2 := hide' (HJ.out.grow hbq)
        rw [hwq]
        have HKL : Hid (xl.length = kx) := HKX.out
        have hzq : w.heap.size < wq.heap.size := Nat.lt_of_lt_of_le hzo hbq.size
        clear HPC hbq hwq q0 q1 q2 q3 HRX HPL
        go_loopw [7, 31] (fun a u wr => ∃ (j : Nat) (L : List Kl.Fv), u = .int .i64 j ∧ j ≤ kx ∧ Hid (Kl.Jn W 2 0 (Q0 ++ xl.take j) L a wr) ∧ Hid (Below wq.heap.size wq wr)) (fun _ u _ => kx - (RowKit.intOf u).toNat)
        case atStart => exact ⟨0, L, rfl, Nat.zero_le _, by show Kl.Jn _ _ _ _ _ _ _; rw [List.take_zero, List.append_nil]; exact HJ2.out, Below.refl _ _⟩
        case round =>
          clear HJ HJ2 la1 HKA
          obtain ⟨j, L, rfl, hj, HJ, HBQ⟩ := hrel
          obtain ⟨pa, ca, hf, la1, la2⟩ := HJ.out.row.form
          subst hf
          obtain ⟨ka, hka⟩ : ∃ k, L.length = k := ⟨_, rfl⟩
          have HKA := hide' hka
          rw [hka] at la1 HJ
          simp only [hka]
          clear hka
          have hzr : w.heap.size < wr.heap.size := Nat.lt_of_lt_of_le hzq HBQ.out.size
          by_cases hltj : j < kx
          · have t2 : (j : Int) < ((kx : Nat) : Int) := by omega
            obtain ⟨y, hy⟩ := Kl.some_of (l := xl) (i := j) (by rw [HKL.out]; exact hltj)
            obtain ⟨b2, o2, hpp, ry⟩ := HPQ.out j y hy
            have HYF : Hid (y ∈ F) := by show y ∈ F; rw [HTT.out]; exact List.mem_append_left _ (List.mem_append_right _ (List.mem_of_getElem? hy))
            have HTK := hide' (Kl.take_snoc hy)
            have HPF : Hid (∀ z ∈ Q0 ++ xl.take j, z ∈ F) := fun z hz => by
              rw [HTT.out]
              rcases List.mem_append.1 hz with h | h
              · exact List.mem_append_left _ (List.mem_append_left _ h)
              · exact List.mem_append_left _ (List.mem_append_right _ (List.mem_of_mem_take h))
            have HPLN : Hid ((Q0 ++ xl.take j).length ≤ 1048576) := by
              show _ ≤ _
              have h1 := congrArg List.length HTT.out
              have h2 := HN.out
              simp only [List.length_append, List.length_take] at h1 ⊢
              omega
            have CP2 := hide' (CP.out y HYF.out)
            obtain ⟨Y0, hY0⟩ : ∃ Y : Kl.Fv, Y = y := ⟨_, rfl⟩
            rw [← hY0] at HYF HTK
            obtain ⟨yo, yv, yn, yp, yc, yl⟩ := y
            obtain ⟨ky, hky⟩ : ∃ k, yl.length = k := ⟨_, rfl⟩
            have HIC : Hid (∀ v, Kl.isC v (Kl.ct Y0) = (yo == 0 && yv == v)) := fun v => Kl.isC_mk v Y0 yo yv yn yp yc yl hY0
            rw [← hY0] at CP2
            have HYE : Hid (Y0.enc = [.int .i64 yo, .int .i64 yv, .int .i64 yn, .slice yp ky yc]) := by show Y0.enc = _; rw [hY0]; simp only [Kl.Fv.enc, hky]
            obtain ⟨a0, a1, a2, a3⟩ := Kl.cells4 ry
            have hcr : ∀ {a : Addr} {u : Value}, wq.cell? a = some u → wr.cell? a = some u := fun {a u} h => (HBQ.out.cell (p := a) (block_lt_of_cell h)).trans h
            have q0 := hcr a0
            have q1 := hcr a1
            have q2 := hcr a2
            have q3 := hcr a3
            rw [hky] at q3
            simp only [HYE.out] at CP2
            subst hpp
            clear hy ry hcr a0 a1 a2 a3 hky hY0
            by_cases c0 : yo = 0
            · subst c0
              by_cases c1 : yv = 0
              · subst c1
                have HANY : Hid (Kl.jnM 2 2 0 (R.map Kl.ct) = Kl.cons 0) := (HJM.out []).1 (List.any_eq_true.2 ⟨_, List.mem_map.2 ⟨Y0, HYF.out, rfl⟩, by rw [HIC.out]; rfl⟩)
                clear CP CP2
                go_wp2_with fail
                refine (klRefConst 0 _).mono ?_
                rintro r w5 ⟨rfl, hb⟩
                have HB5 := hide' (HJ.out.bel.trans (((((Below.refl wr.heap.size wr).alloc (Nat.le_refl _) _).trans (hb.mono (by simp)))).mono HJ.out.bel.size))
                clear hb
                obtain ⟨⟨d0, d1, d2, d3⟩, d4, hz5⟩ := HDC.out _ HB5.out
                go_wp2_with fail
                refine bodyPost_ret (v := .agg #[.int .i64 0, .int .i64 0, .int .i64 0, .slice none 0 0]) (by simp [results, Try.results51, go_sem, d0, d1, d2, d3]) rfl ?_
                exact HRES.out _ (.mk 0 0 0 none 0 []) HB5.out (Kl.Ok.leaf _ _ _ _) (by rw [HANY.out]; rfl) (by rw [Kl.fp_leaf]; simp) _ _ _ _ _ _ rfl _ _ _ _
              · have b1 : (yv == 0) = false := by simpa using c1
                by_cases c2 : yv = 2
                · subst c2
                  have HJ3 : Hid (Kl.Jn W 2 0 (Q0 ++ xl.take (j + 1)) L (.slice pa ka ca) (wr.alloc (.cells #[.int .i64 0, .int .i64 2, .int .i64 yn, .slice yp ky yc] 37))) := by
                    show Kl.Jn _ _ _ _ _ _ _
                    rw [HTK.out, ← List.append_assoc]
                    exact (HJ.out.skip (by rw [HIC.out]; rfl) (by rw [HIC.out]; rfl)).grow ((Below.refl _ _).alloc (Nat.le_refl _) _)
                  have HBQ3 := hide' (HBQ.out.alloc HBQ.out.size (.cells #[.int .i64 0, .int .i64 2, .int .i64 yn, .slice yp ky yc] 37))
                  clear HJ HBQ CP CP2
                  go_wp2_with fail
                  go_roundw
                  case rel => exact ⟨j + 1, L, by go_num, by omega, HJ3, HBQ3⟩
                  case measure => simp [RowKit.intOf]; omega
                · have b2 : (yv != 2) = true := by simpa using c2
                  have HI1 : Hid (Kl.isC 0 (Kl.ct Y0) = false) := by show _ = _; rw [HIC.out, b1]; rfl
                  have HI2 : Hid (Kl.isC 2 (Kl.ct Y0) = false) := by show _ = _; rw [HIC.out]; simpa using c2
                  clear c1 c2
                  have HBA : Hid (Below wr.heap.size wr (wr.alloc (.cells #[.int .i64 0, .int .i64 yv, .int .i64 yn, .slice yp ky yc] 37))) := (Below.refl _ _).alloc (Nat.le_refl _) _
                  have HJA := hide' (HJ.out.grow HBA.out)
                  have CP3 := hide' (CP2.out (.slice pa ka ca) L _ (HUP.out _ HJA.out.bel) HJA.out.row (fun z hz => HPF.out z (HJA.out.mem z hz)) (Nat.le_trans HJA.out.len HPLN.out))
                  clear CP CP2 HJ
                  go_wp2_with fail
                  refine CP3.out.mono ?_
                  rintro r w5 ⟨p5, c5, rfl, HR5, HO5, HB5⟩
                  obtain ⟨k5, hk5⟩ : ∃ k, (Kl.putV Y0 L).length = k := ⟨_, rfl⟩
                  have HJ3 : Hid (Kl.Jn W 2 0 (Q0 ++ xl.take (j + 1)) (Kl.putV Y0 L) (.slice p5 (Kl.putV Y0 L).length c5) w5) := by
                    show Kl.Jn _ _ _ _ _ _ _
                    rw [HTK.out, ← List.append_assoc]
                    exact HJA.out.put HI1.out HI2.out HR5.out HO5.out HB5.out
                  have HBQ3 := hide' (HBQ.out.trans ((HBA.out.trans (HB5.out.mono HBA.out.size)).mono HBQ.out.size))
                  rw [hk5] at HJ3
                  simp only [hk5]
                  clear HJA HBA HR5 HO5 HB5 CP3 hk5 HBQ
                  go_wp2_with fail
                  go_roundw
                  case rel => exact ⟨j + 1, Kl.putV Y0 L, by go_num, by omega, HJ3, HBQ3⟩
                  case measure => simp [RowKit.intOf]; omega
            · have b0 : (yo == 0) = false := by simpa using c0
              have b0' : (yo != 0) = true := by simpa using c0
              have HI1 : Hid (Kl.isC 0 (Kl.ct Y0) = false) := by show _ = _; rw [HIC.out, b0]; rfl
              have HI2 : Hid (Kl.isC 2 (Kl.ct Y0) = false) := by show _ = _; rw [HIC.out, b0]; rfl
              clear c0
              have HBA : Hid (Below wr.heap.size wr (wr.alloc (.cells #[.int .i64 yo, .int .i64 yv, .int .i64 yn, .slice yp ky yc] 37))) := (Below.refl _ _).alloc (Nat.le_refl _) _
              have HJA := hide' (HJ.out.grow HBA.out)
              have CP3 := hide' (CP2.out (.slice pa ka ca) L _ (HUP.out _ HJA.out.bel) HJA.out.row (fun z hz => HPF.out z (HJA.out.mem z hz)) (Nat.le_trans HJA.out.len HPLN.out))
              clear CP CP2 HJ
              go_wp2_with fail
              refine CP3.out.mono ?_
              rintro r w5 ⟨p5, c5, rfl, HR5, HO5, HB5⟩
              obtain ⟨k5, hk5⟩ : ∃ k, (Kl.putV Y0 L).length = k := ⟨_, rfl⟩
              have HJ3 : Hid (Kl.Jn W 2 0 (Q0 ++ xl.take (j + 1)) (Kl.putV Y0 L) (.slice p5 (Kl.putV Y0 L).length c5) w5) := by
                show Kl.Jn _ _ _ _ _ _ _
                rw [HTK.out, ← List.append_assoc]
                exact HJA.out.put HI1.out HI2.out HR5.out HO5.out HB5.out
              have HBQ3 := hide' (HBQ.out.trans ((HBA.out.trans (HB5.out.mono HBA.out.size)).mono HBQ.out.size))
              rw [hk5] at HJ3
              simp only [hk5]
              clear HJA HBA HR5 HO5 HB5 CP3 hk5 HBQ
              go_wp2_with fail
              go_roundw
              case rel => exact ⟨j + 1, Kl.putV Y0 L, by go_num, by omega, HJ3, HBQ3⟩
              case measure => simp [RowKit.intOf]; omega
          · have t2 : ¬ (j : Int) < ((kx : Nat) : Int) := by omega
            have HJ3 : Hid (Kl.Jn W 2 0 ((R.take (i + 1)).flatMap (Kl.fltV 2)) L (.slice pa ka ca) wr) := by
              show Kl.Jn _ _ _ _ _ _ _
              rw [HNX.out]
              have := HJ.out
              rw [List.take_of_length_le (by rw [HKL.out]; omega)] at this
              exact this
            clear HJ CP
            go_wp2_with fail
            go_roundw
            case rel => exact ⟨i + 1, L, by go_num, by omega, HJ3⟩
            case measure => simp [RowKit.intOf]; omega
      · obtain rfl : [Kl.Fv.mk xo xv xn xp xc xl] = PL := by have := HPL.out; unfold Kl.fltV at this; rw [if_neg (show ¬ (Kl.Fv.mk xo xv xn xp xc xl).op = 2 from hop)] at this; exact this
        have b0 : (xo == 2) = false := by simpa using hop
        go_wp2_with fail
        obtain ⟨wq, hwq⟩ : ∃ wq, (wo.alloc (.cells #[.int .i64 xo, .int .i64 xv, .int .i64 xn, .slice xp kx xc] 37)).alloc (.cells #[.int .i64 xo, .int .i64 xv, .int .i64 xn, .slice xp kx xc] 37) = wq := ⟨_, rfl⟩
        have hbq : Below wo.heap.size wo wq := by rw [← hwq]; exact ((Below.refl _ _).alloc (Nat.le_refl _) _).alloc (by simp) _
        obtain ⟨PL, hPL⟩ : ∃ PL, [Kl.Fv.mk xo xv xn xp xc xl] = PL := ⟨_, rfl⟩
        have HPQ : Hid (∀ j y, PL[j]? = some y → ∃ b o, some (⟨wo.heap.size + 1, 0, none⟩ : Addr) = some ⟨b, o, none⟩ ∧ wq.rangeAt b (o + j * 4) y.enc) := fun j y hy => by
          rw [← hPL] at hy
          match j, hy with
          | 0, hy =>
            simp at hy
            subst hy
            refine ⟨_, _, rfl, fun t u hu => ?_⟩
            rw [← hwq]
            simp only [Kl.Fv.enc, HKX.out] at hu
            match t, hu with
            | 0, hu => simp at hu; subst hu; simp
            | 1, hu => simp at hu; subst hu; simp
            | 2, hu => simp at hu; subst hu; simp
            | 3, hu => simp at hu; subst hu; simp
            | t + 4, hu => simp at hu
        have HJ2 := hide' (HJ.out.grow hbq)
        rw [hwq]
        have HKL : Hid (PL.length = 1) := by show PL.length = 1; rw [← hPL]; rfl
        rw [hPL] at HTT HNX
        have hzq : w.heap.size < wq.heap.size := Nat.lt_of_lt_of_le hzo hbq.size
        clear hPL hbq hwq q0 q1 q2 q3 HRX HPL hop b0
        go_loopw [7, 31] (fun a u wr => ∃ (j : Nat) (L : List Kl.Fv), u = .int .i64 j ∧ j ≤ 1 ∧ Hid (Kl.Jn W 2 0 (Q0 ++ PL.take j) L a wr) ∧ Hid (Below wq.heap.size wq wr)) (fun _ u _ => 1 - (RowKit.intOf u).toNat)
        case atStart => exact ⟨0, L, rfl, Nat.zero_le _, by show Kl.Jn _ _ _ _ _ _ _; rw [List.take_zero, List.append_nil]; exact HJ2.out, Below.refl _ _⟩
        case round =>
          clear HJ HJ2 la1 HKA
          obtain ⟨j, L, rfl, hj, HJ, HBQ⟩ := hrel
          obtain ⟨pa, ca, hf, la1, la2⟩ := HJ.out.row.form
          subst hf
          obtain ⟨ka, hka⟩ : ∃ k, L.length = k := ⟨_, rfl⟩
          have HKA := hide' hka
          rw [hka] at la1 HJ
          simp only [hka]
          clear hka
          have hzr : w.heap.size < wr.heap.size := Nat.lt_of_lt_of_le hzq HBQ.out.size
          by_cases hltj : j < 1
          · have t2 : (j : Int) < ((1 : Nat) : Int) := by omega
            obtain ⟨y, hy⟩ := Kl.some_of (l := PL) (i := j) (by rw [HKL.out]; exact hltj)
            obtain ⟨b2, o2, hpp, ry⟩ := HPQ.out j y hy
            have HYF : Hid (y ∈ F) := by show y ∈ F; rw [HTT.out]; exact List.mem_append_left _ (List.mem_append_right _ (List.mem_of_getElem? hy))
            have HTK := hide' (Kl.take_snoc hy)
            have HPF : Hid (∀ z ∈ Q0 ++ PL.take j, z ∈ F) := fun z hz => by
              rw [HTT.out]
              rcases List.mem_append.1 hz with h | h
              · exact List.mem_append_left _ (List.mem_append_left _ h)
              · exact List.mem_append_left _ (List.mem_append_right _ (List.mem_of_mem_take h))
            have HPLN : Hid ((Q0 ++ PL.take j).length ≤ 1048576) := by
              show _ ≤ _
              have h1 := congrArg List.length HTT.out
              have h2 := HN.out
              simp only [List.length_append, List.length_take] at h1 ⊢
              omega
            have CP2 := hide' (CP.out y HYF.out)
            obtain ⟨Y0, hY0⟩ : ∃ Y : Kl.Fv, Y = y := ⟨_, rfl⟩
            rw [← hY0] at HYF HTK
            obtain ⟨yo, yv, yn, yp, yc, yl⟩ := y
            obtain ⟨ky, hky⟩ : ∃ k, yl.length = k := ⟨_, rfl⟩
            have HIC : Hid (∀ v, Kl.isC v (Kl.ct Y0) = (yo == 0 && yv == v)) := fun v => Kl.isC_mk v Y0 yo yv yn yp yc yl hY0
            rw [← hY0] at CP2
            have HYE : Hid (Y0.enc = [.int .i64 yo, .int .i64 yv, .int .i64 yn, .slice yp ky yc]) := by show Y0.enc = _; rw [hY0]; simp only [Kl.Fv.enc, hky]
            obtain ⟨a0, a1, a2, a3⟩ := Kl.cells4 ry
            have hcr : ∀ {a : Addr} {u : Value}, wq.cell? a = some u → wr.cell? a = some u := fun {a u} h => (HBQ.out.cell (p := a) (block_lt_of_cell h)).trans h
            have q0 := hcr a0
            have q1 := hcr a1
            have q2 := hcr a2
            have q3 := hcr a3
            rw [hky] at q3
            simp only [HYE.out] at CP2
            obtain ⟨rfl, rfl⟩ : wo.heap.size + 1 = b2 ∧ 0 = o2 := by simpa using hpp
            simp only [Nat.zero_add] at q0 q1 q2 q3
            clear hy ry hcr a0 a1 a2 a3 hky hY0
            by_cases c0 : yo = 0
            · subst c0
              by_cases c1 : yv = 0
              · subst c1
                have HANY : Hid (Kl.jnM 2 2 0 (R.map Kl.ct) = Kl.cons 0) := (HJM.out []).1 (List.any_eq_true.2 ⟨_, List.mem_map.2 ⟨Y0, HYF.out, rfl⟩, by rw [HIC.out]; rfl⟩)
                clear CP CP2
                go_wp2_with fail
                refine (klRefConst 0 _).mono ?_
                rintro r w5 ⟨rfl, hb⟩
                have HB5 := hide' (HJ.out.bel.trans (((((Below.refl wr.heap.size wr).alloc (Nat.le_refl _) _).trans (hb.mono (by simp)))).mono HJ.out.bel.size))
                clear hb
                obtain ⟨⟨d0, d1, d2, d3⟩, d4, hz5⟩ := HDC.out _ HB5.out
                go_wp2_with fail
                refine bodyPost_ret (v := .agg #[.int .i64 0, .int .i64 0, .int .i64 0, .slice none 0 0]) (by simp [results, Try.results51, go_sem, d0, d1, d2, d3]) rfl ?_
                exact HRES.out _ (.mk 0 0 0 none 0 []) HB5.out (Kl.Ok.leaf _ _ _ _) (by rw [HANY.out]; rfl) (by rw [Kl.fp_leaf]; simp) _ _ _ _ _ _ rfl _ _ _ _
              · have b1 : (yv == 0) = false := by simpa using c1
                by_cases c2 : yv = 2
                · subst c2
                  have HJ3 : Hid (Kl.Jn W 2 0 (Q0 ++ PL.take (j + 1)) L (.slice pa ka ca) (wr.alloc (.cells #[.int .i64 0, .int .i64 2, .int .i64 yn, .slice yp ky yc] 37))) := by
                    show Kl.Jn _ _ _ _ _ _ _
                    rw [HTK.out, ← List.append_assoc]
                    exact (HJ.out.skip (by rw [HIC.out]; rfl) (by rw [HIC.out]; rfl)).grow ((Below.refl _ _).alloc (Nat.le_refl _) _)
                  have HBQ3 := hide' (HBQ.out.alloc HBQ.out.size (.cells #[.int .i64 0, .int .i64 2, .int .i64 yn, .slice yp ky yc] 37))
                  clear HJ HBQ CP CP2
                  go_wp2_with fail
                  go_roundw
                  case rel => exact ⟨j + 1, L, by go_num, by omega, HJ3, HBQ3⟩
                  case measure => simp [RowKit.intOf]; omega
                · have b2 : (yv != 2) = true := by simpa using c2
                  have HI1 : Hid (Kl.isC 0 (Kl.ct Y0) = false) := by show _ = _; rw [HIC.out, b1]; rfl
                  have HI2 : Hid (Kl.isC 2 (Kl.ct Y0) = false) := by show _ = _; rw [HIC.out]; simpa using c2
                  clear c1 c2
                  have HBA : Hid (Below wr.heap.size wr (wr.alloc (.cells #[.int .i64 0, .int .i64 yv, .int .i64 yn, .slice yp ky yc] 37))) := (Below.refl _ _).alloc (Nat.le_refl _) _
                  have HJA := hide' (HJ.out.grow HBA.out)
                  have CP3 := hide' (CP2.out (.slice pa ka ca) L _ (HUP.out _ HJA.out.bel) HJA.out.row (fun z hz => HPF.out z (HJA.out.mem z hz)) (Nat.le_trans HJA.out.len HPLN.out))
                  clear CP CP2 HJ
                  go_wp2_with fail
                  refine CP3.out.mono ?_
                  rintro r w5 ⟨p5, c5, rfl, HR5, HO5, HB5⟩
                  obtain ⟨k5, hk5⟩ : ∃ k, (Kl.putV Y0 L).length = k := ⟨_, rfl⟩
                  have HJ3 : Hid (Kl.Jn W 2 0 (Q0 ++ PL.take (j + 1)) (Kl.putV Y0 L) (.slice p5 (Kl.putV Y0 L).length c5) w5) := by
                    show Kl.Jn _ _ _ _ _ _ _
                    rw [HTK.out, ← List.append_assoc]
                    exact HJA.out.put HI1.out HI2.out HR5.out HO5.out HB5.out
                  have HBQ3 := hide' (HBQ.out.trans ((HBA.out.trans (HB5.out.mono HBA.out.size)).mono HBQ.out.size))
                  rw [hk5] at HJ3
                  simp only [hk5]
                  clear HJA HBA HR5 HO5 HB5 CP3 hk5 HBQ
                  go_wp2_with fail
                  go_roundw
                  case rel => exact ⟨j + 1, Kl.putV Y0 L, by go_num, by omega, HJ3, HBQ3⟩
                  case measure => simp [RowKit.intOf]; omega
            · have b0 : (yo == 0) = false := by simpa using c0
              have b0' : (yo != 0) = true := by simpa using c0
              have HI1 : Hid (Kl.isC 0 (Kl.ct Y0) = false) := by show _ = _; rw [HIC.out, b0]; rfl
              have HI2 : Hid (Kl.isC 2 (Kl.ct Y0) = false) := by show _ = _; rw [HIC.out, b0]; rfl
              clear c0
              have HBA : Hid (Below wr.heap.size wr (wr.alloc (.cells #[.int .i64 yo, .int .i64 yv, .int .i64 yn, .slice yp ky yc] 37))) := (Below.refl _ _).alloc (Nat.le_refl _) _
              have HJA := hide' (HJ.out.grow HBA.out)
              have CP3 := hide' (CP2.out (.slice pa ka ca) L _ (HUP.out _ HJA.out.bel) HJA.out.row (fun z hz => HPF.out z (HJA.out.mem z hz)) (Nat.le_trans HJA.out.len HPLN.out))
              clear CP CP2 HJ
              go_wp2_with fail
              refine CP3.out.mono ?_
              rintro r w5 ⟨p5, c5, rfl, HR5, HO5, HB5⟩
              obtain ⟨k5, hk5⟩ : ∃ k, (Kl.putV Y0 L).length = k := ⟨_, rfl⟩
              have HJ3 : Hid (Kl.Jn W 2 0 (Q0 ++ PL.take (j + 1)) (Kl.putV Y0 L) (.slice p5 (Kl.putV Y0 L).length c5) w5) := by
                show Kl.Jn _ _ _ _ _ _ _
                rw [HTK.out, ← List.append_assoc]
                exact HJA.out.put HI1.out HI2.out HR5.out HO5.out HB5.out
              have HBQ3 := hide' (HBQ.out.trans ((HBA.out.trans (HB5.out.mono HBA.out.size)).mono HBQ.out.size))
              rw [hk5] at HJ3
              simp only [hk5]
              clear HJA HBA HR5 HO5 HB5 CP3 hk5 HBQ
              go_wp2_with fail
              go_roundw
              case rel => exact ⟨j + 1, Kl.putV Y0 L, by go_num, by omega, HJ3, HBQ3⟩
              case measure => simp [RowKit.intOf]; omega
          · have t2 : ¬ (j : Int) < ((1 : Nat) : Int) := by omega
            have HJ3 : Hid (Kl.Jn W 2 0 ((R.take (i + 1)).flatMap (Kl.fltV 2)) L (.slice pa ka ca) wr) := by
              show Kl.Jn _ _ _ _ _ _ _
              rw [HNX.out]
              have := HJ.out
              rw [List.take_of_length_le (by rw [HKL.out]; omega)] at this
              exact this
            clear HJ CP
            go_wp2_with fail
            go_roundw
            case rel => exact ⟨i + 1, L, by go_num, by omega, HJ3⟩
            case measure => simp [RowKit.intOf]; omega
    · have t1 : ¬ (i : Int) < (k1 : Int) := by omega
      obtain rfl : i = k1 := by omega
      have HP : Hid ((R.take i).flatMap (Kl.fltV 2) = F) := by show _ = F; rw [List.take_of_length_le (by rw [K1.out]; omega)]; exact HFD.out
      rw [HP.out] at HJ
      have HRS : Hid (Kl.jnM 2 2 0 (R.map Kl.ct) = Kl.fin1 2 2 (L.map Kl.ct)) := (HJM.out L).2 HJ.out.non HJ.out.con
      have HLO : Hid (∀ x ∈ L, Kl.Ok wo x) := fun x hx => (HFO.out x (HJ.out.mem x hx)).below (HUP.out _ HJ.out.bel)
      obtain ⟨⟨d0, d1, d2, d3⟩, d4, _⟩ := HDC.out _ HJ.out.bel
      clear HCL CP HJM HFO
      by_cases h0 : ka = 0
      · subst h0
        obtain rfl : L = [] := List.eq_nil_of_length_eq_zero HKA.out
        go_wp2_with fail
        refine (klRefConst 2 _).mono ?_
        rintro r w5 ⟨rfl, hb⟩
        have HB5 := hide' (HJ.out.bel.trans (hb.mono HJ.out.bel.size))
        clear hb d0 d1 d2 d3 d4
        obtain ⟨⟨d0, d1, d2, d3⟩, d4, hz5⟩ := HDC.out _ HB5.out
        go_wp2_with fail
        refine bodyPost_ret (v := .agg #[.int .i64 0, .int .i64 2, .int .i64 0, .slice none 0 0]) (by simp [results, Try.results51, go_sem, d0, d1, d2, d3]) rfl ?_
        exact HRES.out _ (.mk 0 2 0 none 0 []) HB5.out (Kl.Ok.leaf _ _ _ _) (by rw [HRS.out]; rfl) (by rw [Kl.fp_leaf]; simp) _ _ _ _ _ _ rfl _ _ _ _
      · by_cases h1 : ka = 1
        · subst h1
          obtain ⟨y, rfl⟩ : ∃ y, L = [y] := by
            have := HKA.out
            match L, this with
            | [y], _ => exact ⟨y, rfl⟩
          obtain ⟨gb, go, rfl, rr⟩ : ∃ b o, pa = some ⟨b, o, none⟩ ∧ wo.rangeAt b o y.enc := by
            rcases HJ.out.row.src with ⟨_, e⟩ | ⟨b, o, c, e, k⟩
            · cases e
            · cases e
              exact ⟨b, o, rfl, by have := k 0 y rfl; rwa [Nat.zero_mul, Nat.add_zero] at this⟩
          have HYO := hide' (HLO.out y (by simp))
          have HYF : Hid (∀ b ∈ Kl.fp y, b ∈ Kl.fps R) := HFP.out y (HJ.out.mem y (by simp))
          have HYC : Hid (Kl.ct y = Kl.jnM 2 2 0 (R.map Kl.ct)) := by show _ = _; rw [HRS.out]; rfl
          have HBO := hide' HJ.out.bel
          have hgl : gb < wo.heap.size := by obtain ⟨yo, yv, yn, yp, yc, yl⟩ := y; exact block_lt_of_cell (Kl.cells4 rr).1
          have hgne : gb ≠ w.heap.size := fun e => by have := HJ.out.own gb rfl; rw [HZ.out] at this; omega
          clear HJ HRS HLO
          have HY0 := HYO
          have HFIN := hide' (fun yo yv yn yp ky yc he => HRES.out wo y HBO.out HYO.out HYC.out (fun b hb => .inl (HYF.out b hb)) yo yv yn yp ky yc he)
          obtain ⟨yo, yv, yn, yp, yc, yl⟩ := y
          obtain ⟨q0, q1, q2, q3⟩ := Kl.cells4 rr
          obtain ⟨ky, hky⟩ : ∃ k, yl.length = k := ⟨_, rfl⟩
          rw [hky] at q3
          have HFIN2 := hide' (HFIN.out yo yv yn yp ky yc (by simp only [Kl.Fv.enc, hky]))
          clear rr hky HFIN HYO HYF HYC HY0
          go_wp2_with fail
          refine bodyPost_ret (v := .agg #[.int .i64 yo, .int .i64 yv, .int .i64 yn, .slice yp ky yc]) (by simp [results, Try.results51, go_sem, d0, d1, d2, d3]) rfl ?_
          exact HFIN2.out _ _ _ _
        · have c0 : ((ka : Int) == 0) = false := by simp; omega
          have c1 : ((ka : Int) == 1) = false := by simp; omega
          have HYC : Hid (Kl.ct (.mk 2 0 0 pa ca L) = Kl.jnM 2 2 0 (R.map Kl.ct)) := by
            show _ = _
            rw [HRS.out, Kl.ct, Kl.cts_map]
            have hll : 2 ≤ L.length := by rw [HKA.out]; omega
            match L, hll with
            | a :: b :: l, _ => rfl
          have HYO : Hid (Kl.Ok wo (.mk 2 0 0 pa ca L)) := Kl.OR.ok (by rw [HKA.out]; exact HJ.out.row) HLO.out _ _ _
          have HYF : Hid (∀ b ∈ Kl.fp (.mk 2 0 0 pa ca L), b ∈ Kl.fps R ∨ W.heap.size ≤ b) := fun b hb => by
            rw [Kl.fp] at hb
            rcases List.mem_append.1 hb with hb | hb
            · obtain ⟨hl, a, rfl, rfl⟩ := Kl.pb_of hb
              rcases HJ.out.row with ⟨e, _⟩ | ⟨g, cap, e, _⟩
              · cases e
              · cases e; exact .inr (HJ.out.own g rfl)
            · obtain ⟨z, hz, hb⟩ := (Kl.fps_mem L b).1 hb
              exact .inl (HFP.out z (HJ.out.mem z hz) b hb)
          have HFIN2 := hide' (HRES.out wo _ HJ.out.bel HYO.out HYC.out HYF.out 2 0 0 pa ka ca (by simp only [Kl.Fv.enc, HKA.out]))
          clear HJ HRS HLO HYC HYO HYF h0 h1
          go_wp2_with fail
          refine bodyPost_ret (v := .agg #[.int .i64 2, .int .i64 0, .int .i64 0, .slice pa ka ca]) (by simp [results, Try.results51, go_sem, d0, d1, d2, d3]) rfl ?_
          exact HFIN2.out _ _ _ _
set_option maxRecDepth 100000 in
set_option maxHeartbeats 8000000 in
theorem klJoinedOr (v : Value) (R : List Kl.Fv) (w : World) (hv : Kl.Src w v R) (hq : ∀ y ∈ R, Kl.Ok w y) (hn : (R.flatMap (Kl.fltV 3)).length ≤ 1048576) (hl : R.length ≤ 1048576) :
    Calls Try.prog 51 #[.int .i64 3, v] w (Kl.JoR 3 0 2 R w) := by
  have hk : ((3 : Int) = 2 ∧ (0 : Int) = 2 ∧ (2 : Int) = 0) ∨ ((3 : Int) = 3 ∧ (0 : Int) = 0 ∧ (2 : Int) = 2) := by decide
  obtain ⟨pq, cq, rfl, hcl⟩ : ∃ p c, v = .slice p R.length c ∧ ∀ i y, R[i]? = some y → ∃ b o, p = some ⟨b, o, none⟩ ∧ w.rangeAt b (o + i * 4) y.enc := by
    rcases hv with ⟨rfl, rfl⟩ | ⟨b, o, c, rfl, h⟩
    · exact ⟨none, 0, rfl, fun i y h => by simp at h⟩
    · exact ⟨_, c, rfl, fun i y hy => ⟨b, o, rfl, h i y hy⟩⟩
  obtain ⟨k1, hk1⟩ : ∃ k, R.length = k := ⟨_, rfl⟩
  have hF := Kl.ok_flt (op := 3) hq
  obtain ⟨F, hFd⟩ : ∃ F, R.flatMap (Kl.fltV 3) = F := ⟨_, rfl⟩
  rw [hFd] at hn hF
  have HFP : Hid (∀ x ∈ F, ∀ b ∈ Kl.fp x, b ∈ Kl.fps R) := fun x hx => Kl.fps_flt (op := 3) (by rw [hFd]; exact hx)
  have HRL : Hid (∀ b ∈ Kl.fps R, b < w.heap.size) := fun b hb => by
    obtain ⟨x, hx, hb⟩ := (Kl.fps_mem R b).1 hb
    exact (hq x hx).lt x b hb
  have CP := hide' (fun y (hy : y ∈ F) a L w' (hb : Below w.heap.size w w') (hr : Kl.OR w' a L) (hL : ∀ x ∈ L, x ∈ F) (hl : L.length ≤ 1048576) => klPut y a L w' ((hF y hy).below hb) hr.src (fun z hz => (hF z (hL z hz)).below hb) hl)
  have HJM : Hid (∀ L : List Kl.Fv, ((F.map Kl.ct).any (Kl.isC 2) = true → Kl.jnM 3 0 2 (R.map Kl.ct) = Kl.cons 2) ∧ ((F.map Kl.ct).any (Kl.isC 2) = false → L.map Kl.ct = Kl.sr (Kl.lft 0 (F.map Kl.ct)) → Kl.jnM 3 0 2 (R.map Kl.ct) = Kl.fin1 3 0 (L.map Kl.ct))) := fun L => by
    unfold Kl.jnM
    rw [← Kl.flatV_ct, hFd]
    exact ⟨fun h => by rw [if_pos h], fun h e => by rw [if_neg (by rw [h]; simp), e]⟩
  have HRO := hide' hq
  have HFO := hide' hF
  have HN := hide' hn
  have HFD := hide' hFd
  have HCL := hide' hcl
  have K1 := hide' hk1
  rw [hk1]
  rw [hk1] at hl
  obtain ⟨W, hWd⟩ : ∃ W, w.alloc (.cells #[.int .i64 0, .int .i64 0, .int .i64 0, .slice none 0 0] 37) = W := ⟨_, rfl⟩
  have HBW : Hid (Below w.heap.size w W) := by rw [← hWd]; exact (Below.refl _ _).alloc (Nat.le_refl _) _
  have HZ : Hid (W.heap.size = w.heap.size + 1) := by show W.heap.size = _; rw [← hWd]; simp
  have HD : Hid (W.cell? ⟨w.heap.size, 0, none⟩ = some (.int .i64 0) ∧ W.cell? ⟨w.heap.size, 1, none⟩ = some (.int .i64 0) ∧ W.cell? ⟨w.heap.size, 2, none⟩ = some (.int .i64 0) ∧ W.cell? ⟨w.heap.size, 3, none⟩ = some (.slice none 0 0)) := by rw [← hWd]; refine ⟨?_, ?_, ?_, ?_⟩ <;> simp
  have HDF : Hid (∀ o, W.frozen? ⟨w.heap.size, o, none⟩ = false) := fun o => by rw [← hWd]; simp
  have HUP : Hid (∀ w', Below W.heap.size W w' → Below w.heap.size w w') := fun w' h => HBW.out.trans (h.mono HBW.out.size)
  have HRES : Hid (∀ (w3 : World) (y : Kl.Fv), Below W.heap.size W w3 → Kl.Ok w3 y → Kl.ct y = Kl.jnM 3 0 2 (R.map Kl.ct) → (∀ b ∈ Kl.fp y, b ∈ Kl.fps R ∨ W.heap.size ≤ b) → ∀ (yo yv yn : Int) (yp : Option Addr) (ky yc : Nat), y.enc = [.int .i64 yo, .int .i64 yv, .int .i64 yn, .slice yp ky yc] → ∀ a b c d,
      Kl.JoR 3 0 2 R w (.returned (.agg #[.int .i64 yo, .int .i64 yv, .int .i64 yn, .slice yp ky yc])) ((((w3.setCell ⟨w.heap.size, 0, none⟩ a).setCell ⟨w.heap.size, 1, none⟩ b).setCell ⟨w.heap.size, 2, none⟩ c).setCell ⟨w.heap.size, 3, none⟩ d)) := fun w3 y hb hy hc hf yo yv yn yp ky yc he a b c d => by
    have hnf : w.heap.size ∉ Kl.fp y := fun h => by
      rcases hf _ h with k | k
      · exact Nat.lt_irrefl _ (HRL.out _ k)
      · rw [HZ.out] at k; omega
    obtain ⟨r1, r2⟩ := Kl.fin_res HBW.out HZ.out hb hy hnf a b c d
    refine ⟨y, yo, yv, yn, yp, ky, yc, rfl, he, r1, hc, fun b' hb' => ?_, r2⟩
    rcases hf b' hb' with k | k
    · exact .inl k
    · exact .inr (by rw [HZ.out] at k; omega)
  have HDC : Hid (∀ w3, Below W.heap.size W w3 → (w3.cell? ⟨w.heap.size, 0, none⟩ = some (.int .i64 0) ∧ w3.cell? ⟨w.heap.size, 1, none⟩ = some (.int .i64 0) ∧ w3.cell? ⟨w.heap.size, 2, none⟩ = some (.int .i64 0) ∧ w3.cell? ⟨w.heap.size, 3, none⟩ = some (.slice none 0 0)) ∧ (∀ o, w3.frozen? ⟨w.heap.size, o, none⟩ = false) ∧ w.heap.size < w3.heap.size) := fun w3 h => by
    have hlt : w.heap.size < W.heap.size := by rw [HZ.out]; omega
    have e : ∀ o, w3.cell? ⟨w.heap.size, o, none⟩ = W.cell? ⟨w.heap.size, o, none⟩ := fun o => h.cell (p := ⟨w.heap.size, o, none⟩) hlt
    rw [e, e, e, e]
    exact ⟨HD.out, fun o => (h.frozen (p := ⟨w.heap.size, o, none⟩) hlt).trans (HDF.out o), Nat.lt_of_lt_of_le hlt h.size⟩
  have HWd := hide' hWd
  clear hv hq hn hcl hk1 hF hFd hWd hk
  go_enter Try.func51, Try.ntmps51
  go_wp2_with fail
  rw [HWd.out]
  go_loopw [7, 17] (fun a u wr => ∃ (i : Nat) (L : List Kl.Fv), u = .int .i64 i ∧ i ≤ k1 ∧ Hid (Kl.Jn W 0 2 ((R.take i).flatMap (Kl.fltV 3)) L a wr)) (fun _ u _ => k1 - (RowKit.intOf u).toNat)
  case atStart => exact ⟨0, [], rfl, Nat.zero_le _, ⟨.inl ⟨rfl, rfl⟩, rfl, rfl, (fun x hx => by cases hx), (fun b hb => by cases hb), Below.refl _ _⟩⟩
  case round =>
    obtain ⟨wo, hwo⟩ : ∃ x, x = wr := ⟨_, rfl⟩
    subst hwo
    obtain ⟨i, L, rfl, hi, HJ⟩ := hrel
    obtain ⟨pa, ca, hf, la1, la2⟩ := HJ.out.row.form
    subst hf
    obtain ⟨ka, hka⟩ : ∃ k, L.length = k := ⟨_, rfl⟩
    have HKA := hide' hka
    rw [hka] at la1 HJ
    simp only [hka]
    clear hka
    have hzo : w.heap.size < wo.heap.size := (HDC.out _ HJ.out.bel).2.2
    by_cases hlt : i < k1
    · have t1 : (i : Int) < (k1 : Int) := by omega
      obtain ⟨x, hx⟩ := Kl.some_of (l := R) (i := i) (by rw [K1.out]; exact hlt)
      obtain ⟨b, o1, rfl, rx⟩ := HCL.out i x hx
      have HXI := hide' hx
      have hxo := HRO.out x (List.mem_of_getElem? hx)
      obtain ⟨PL, hPL⟩ : ∃ PL, Kl.fltV 3 x = PL := ⟨_, rfl⟩
      obtain ⟨T, hT⟩ := Kl.flat_pos (op := 3) hx
      have hNX := Kl.flat_next (op := 3) hx
      rw [HFD.out, hPL] at hT
      rw [hPL] at hNX
      have HTT := hide' hT
      have HNX := hide' hNX
      obtain ⟨Q0, hQ0⟩ : ∃ Q0, (R.take i).flatMap (Kl.fltV 3) = Q0 := ⟨_, rfl⟩
      rw [hQ0] at HJ HTT HNX
      obtain ⟨xo, xv, xn, xp, xc, xl⟩ := x
      obtain ⟨kx, hkx⟩ : ∃ k, xl.length = k := ⟨_, rfl⟩
      obtain ⟨a0, a1, a2, a3⟩ := Kl.cells4 rx
      have hcr : ∀ {a : Addr} {u : Value}, w.cell? a = some u → wo.cell? a = some u := fun {a u} h => ((HUP.out _ HJ.out.bel).cell (p := a) (block_lt_of_cell h)).trans h
      have q0 := hcr a0
      have q1 := hcr a1
      have q2 := hcr a2
      have q3 := hcr a3
      rw [hkx] at q3
      have hro := hxo.row
      rw [hkx] at hro
      have HRX := hide' hro.2.2
      have HOX := hide' hxo
      have HPL := hide' hPL
      have HKX := hide' hkx
      clear hx rx hxo hro hPL hT hNX hQ0 hkx a0 a1 a2 a3 hcr HCL
      by_cases hop : xo = 3
      · subst hop
        obtain rfl : xl = PL := by have := HPL.out; unfold Kl.fltV at this; rw [if_pos (show (Kl.Fv.mk 3 xv xn xp xc xl).op = 3 from rfl)] at this; exact this
        have hkp : kx ≤ 1048576 := by have h1 := congrArg List.length HTT.out; have h2 := HN.out; have h3 := HKX.out; simp only [List.length_append] at h1; omega
        go_wp2_with fail
        have HPC : Hid (∀ j y, xl[j]? = some y → ∃ b o, xp = some ⟨b, o, none⟩ ∧ wo.rangeAt b (o + j * 4) y.enc) := fun j y hy => by
          obtain ⟨b, o, e, k⟩ := HRX.out (by have := (List.getElem?_eq_some_iff.1 hy).1; rw [HKX.out] at this; omega)
          refine ⟨b, o, e, fun t u hu => ?_⟩
          have := (k j y hy).1 t u hu
          exact ((HUP.out _ HJ.out.bel).cell (p := ⟨b, o + j * 4 + t, none⟩) (block_lt_of_cell this)).trans this
        obtain ⟨wq, hwq⟩ : ∃ wq, (wo.alloc (.cells #[.int .i64 3, .int .i64 xv, .int .i64 xn, .slice xp kx xc] 37)).alloc (.cells #[.int .i64 3, .int .i64 xv, .int .i64 xn, .slice xp kx xc] 37) = wq := ⟨_, rfl⟩
        have hbq : Below wo.heap.size wo wq := by rw [← hwq]; exact ((Below.refl _ _).alloc (Nat.le_refl _) _).alloc (by simp) _
        have HPQ : Hid (∀ j y, xl[j]? = some y → ∃ b o, xp = some ⟨b, o, none⟩ ∧ wq.rangeAt b (o + j * 4) y.enc) := fun j y hy => by
          obtain ⟨b, o, e, k⟩ := HPC.out j y hy
          exact ⟨b, o, e, fun t u hu => (hbq.cell (p := ⟨b, o + j * 4 + t, none⟩) (block_lt_of_cell (k t u hu))).trans (k t u hu)⟩
        have HJ2 := hide' (HJ.out.grow hbq)
        rw [hwq]
        have HKL : Hid (xl.length = kx) := HKX.out
        have hzq : w.heap.size < wq.heap.size := Nat.lt_of_lt_of_le hzo hbq.size
        clear HPC hbq hwq q0 q1 q2 q3 HRX HPL
        go_loopw [7, 31] (fun a u wr => ∃ (j : Nat) (L : List Kl.Fv), u = .int .i64 j ∧ j ≤ kx ∧ Hid (Kl.Jn W 0 2 (Q0 ++ xl.take j) L a wr) ∧ Hid (Below wq.heap.size wq wr)) (fun _ u _ => kx - (RowKit.intOf u).toNat)
        case atStart => exact ⟨0, L, rfl, Nat.zero_le _, by show Kl.Jn _ _ _ _ _ _ _; rw [List.take_zero, List.append_nil]; exact HJ2.out, Below.refl _ _⟩
        case round =>
          clear HJ HJ2 la1 HKA
          obtain ⟨j, L, rfl, hj, HJ, HBQ⟩ := hrel
          obtain ⟨pa, ca, hf, la1, la2⟩ := HJ.out.row.form
          subst hf
          obtain ⟨ka, hka⟩ : ∃ k, L.length = k := ⟨_, rfl⟩
          have HKA := hide' hka
          rw [hka] at la1 HJ
          simp only [hka]
          clear hka
          have hzr : w.heap.size < wr.heap.size := Nat.lt_of_lt_of_le hzq HBQ.out.size
          by_cases hltj : j < kx
          · have t2 : (j : Int) < ((kx : Nat) : Int) := by omega
            obtain ⟨y, hy⟩ := Kl.some_of (l := xl) (i := j) (by rw [HKL.out]; exact hltj)
            obtain ⟨b2, o2, hpp, ry⟩ := HPQ.out j y hy
            have HYF : Hid (y ∈ F) := by show y ∈ F; rw [HTT.out]; exact List.mem_append_left _ (List.mem_append_right _ (List.mem_of_getElem? hy))
            have HTK := hide' (Kl.take_snoc hy)
            have HPF : Hid (∀ z ∈ Q0 ++ xl.take j, z ∈ F) := fun z hz => by
              rw [HTT.out]
              rcases List.mem_append.1 hz with h | h
              · exact List.mem_append_left _ (List.mem_append_left _ h)
              · exact List.mem_append_left _ (List.mem_append_right _ (List.mem_of_mem_take h))
            have HPLN : Hid ((Q0 ++ xl.take j).length ≤ 1048576) := by
              show _ ≤ _
              have h1 := congrArg List.length HTT.out
              have h2 := HN.out
              simp only [List.length_append, List.length_take] at h1 ⊢
              omega
            have CP2 := hide' (CP.out y HYF.out)
            obtain ⟨Y0, hY0⟩ : ∃ Y : Kl.Fv, Y = y := ⟨_, rfl⟩
            rw [← hY0] at HYF HTK
            obtain ⟨yo, yv, yn, yp, yc, yl⟩ := y
            obtain ⟨ky, hky⟩ : ∃ k, yl.length = k := ⟨_, rfl⟩
            have HIC : Hid (∀ v, Kl.isC v (Kl.ct Y0) = (yo == 0 && yv == v)) := fun v => Kl.isC_mk v Y0 yo yv yn yp yc yl hY0
            rw [← hY0] at CP2
            have HYE : Hid (Y0.enc = [.int .i64 yo, .int .i64 yv, .int .i64 yn, .slice yp ky yc]) := by show Y0.enc = _; rw [hY0]; simp only [Kl.Fv.enc, hky]
            obtain ⟨a0, a1, a2, a3⟩ := Kl.cells4 ry
            have hcr : ∀ {a : Addr} {u : Value}, wq.cell? a = some u → wr.cell? a = some u := fun {a u} h => (HBQ.out.cell (p := a) (block_lt_of_cell h)).trans h
            have q0 := hcr a0
            have q1 := hcr a1
            have q2 := hcr a2
            have q3 := hcr a3
            rw [hky] at q3
            simp only [HYE.out] at CP2
            subst hpp
            clear hy ry hcr a0 a1 a2 a3 hky hY0
            by_cases c0 : yo = 0
            · subst c0
              by_cases c1 : yv = 2
              · subst c1
                have HANY : Hid (Kl.jnM 3 0 2 (R.map Kl.ct) = Kl.cons 2) := (HJM.out []).1 (List.any_eq_true.2 ⟨_, List.mem_map.2 ⟨Y0, HYF.out, rfl⟩, by rw [HIC.out]; rfl⟩)
                clear CP CP2
                go_wp2_with fail
                refine (klRefConst 2 _).mono ?_
                rintro r w5 ⟨rfl, hb⟩
                have HB5 := hide' (HJ.out.bel.trans (((((Below.refl wr.heap.size wr).alloc (Nat.le_refl _) _).trans (hb.mono (by simp)))).mono HJ.out.bel.size))
                clear hb
                obtain ⟨⟨d0, d1, d2, d3⟩, d4, hz5⟩ := HDC.out _ HB5.out
                go_wp2_with fail
                refine bodyPost_ret (v := .agg #[.int .i64 0, .int .i64 2, .int .i64 0, .slice none 0 0]) (by simp [results, Try.results51, go_sem, d0, d1, d2, d3]) rfl ?_
                exact HRES.out _ (.mk 0 2 0 none 0 []) HB5.out (Kl.Ok.leaf _ _ _ _) (by rw [HANY.out]; rfl) (by rw [Kl.fp_leaf]; simp) _ _ _ _ _ _ rfl _ _ _ _
              · have b1 : (yv == 2) = false := by simpa using c1
                by_cases c2 : yv = 0
                · subst c2
                  have HJ3 : Hid (Kl.Jn W 0 2 (Q0 ++ xl.take (j + 1)) L (.slice pa ka ca) (wr.alloc (.cells #[.int .i64 0, .int .i64 0, .int .i64 yn, .slice yp ky yc] 37))) := by
                    show Kl.Jn _ _ _ _ _ _ _
                    rw [HTK.out, ← List.append_assoc]
                    exact (HJ.out.skip (by rw [HIC.out]; rfl) (by rw [HIC.out]; rfl)).grow ((Below.refl _ _).alloc (Nat.le_refl _) _)
                  have HBQ3 := hide' (HBQ.out.alloc HBQ.out.size (.cells #[.int .i64 0, .int .i64 0, .int .i64 yn, .slice yp ky yc] 37))
                  clear HJ HBQ CP CP2
                  go_wp2_with fail
                  go_roundw
                  case rel => exact ⟨j + 1, L, by go_num, by omega, HJ3, HBQ3⟩
                  case measure => simp [RowKit.intOf]; omega
                · have b2 : (yv != 0) = true := by simpa using c2
                  have HI1 : Hid (Kl.isC 2 (Kl.ct Y0) = false) := by show _ = _; rw [HIC.out, b1]; rfl
                  have HI2 : Hid (Kl.isC 0 (Kl.ct Y0) = false) := by show _ = _; rw [HIC.out]; simpa using c2
                  clear c1 c2
                  have HBA : Hid (Below wr.heap.size wr (wr.alloc (.cells #[.int .i64 0, .int .i64 yv, .int .i64 yn, .slice yp ky yc] 37))) := (Below.refl _ _).alloc (Nat.le_refl _) _
                  have HJA := hide' (HJ.out.grow HBA.out)
                  have CP3 := hide' (CP2.out (.slice pa ka ca) L _ (HUP.out _ HJA.out.bel) HJA.out.row (fun z hz => HPF.out z (HJA.out.mem z hz)) (Nat.le_trans HJA.out.len HPLN.out))
                  clear CP CP2 HJ
                  go_wp2_with fail
                  refine CP3.out.mono ?_
                  rintro r w5 ⟨p5, c5, rfl, HR5, HO5, HB5⟩
                  obtain ⟨k5, hk5⟩ : ∃ k, (Kl.putV Y0 L).length = k := ⟨_, rfl⟩
                  have HJ3 : Hid (Kl.Jn W 0 2 (Q0 ++ xl.take (j + 1)) (Kl.putV Y0 L) (.slice p5 (Kl.putV Y0 L).length c5) w5) := by
                    show Kl.Jn _ _ _ _ _ _ _
                    rw [HTK.out, ← List.append_assoc]
                    exact HJA.out.put HI1.out HI2.out HR5.out HO5.out HB5.out
                  have HBQ3 := hide' (HBQ.out.trans ((HBA.out.trans (HB5.out.mono HBA.out.size)).mono HBQ.out.size))
                  rw [hk5] at HJ3
                  simp only [hk5]
                  clear HJA HBA HR5 HO5 HB5 CP3 hk5 HBQ
                  go_wp2_with fail
                  go_roundw
                  case rel => exact ⟨j + 1, Kl.putV Y0 L, by go_num, by omega, HJ3, HBQ3⟩
                  case measure => simp [RowKit.intOf]; omega
            · have b0 : (yo == 0) = false := by simpa using c0
              have b0' : (yo != 0) = true := by simpa using c0
              have HI1 : Hid (Kl.isC 2 (Kl.ct Y0) = false) := by show _ = _; rw [HIC.out, b0]; rfl
              have HI2 : Hid (Kl.isC 0 (Kl.ct Y0) = false) := by show _ = _; rw [HIC.out, b0]; rfl
              clear c0
              have HBA : Hid (Below wr.heap.size wr (wr.alloc (.cells #[.int .i64 yo, .int .i64 yv, .int .i64 yn, .slice yp ky yc] 37))) := (Below.refl _ _).alloc (Nat.le_refl _) _
              have HJA := hide' (HJ.out.grow HBA.out)
              have CP3 := hide' (CP2.out (.slice pa ka ca) L _ (HUP.out _ HJA.out.bel) HJA.out.row (fun z hz => HPF.out z (HJA.out.mem z hz)) (Nat.le_trans HJA.out.len HPLN.out))
              clear CP CP2 HJ
              go_wp2_with fail
              refine CP3.out.mono ?_
              rintro r w5 ⟨p5, c5, rfl, HR5, HO5, HB5⟩
              obtain ⟨k5, hk5⟩ : ∃ k, (Kl.putV Y0 L).length = k := ⟨_, rfl⟩
              have HJ3 : Hid (Kl.Jn W 0 2 (Q0 ++ xl.take (j + 1)) (Kl.putV Y0 L) (.slice p5 (Kl.putV Y0 L).length c5) w5) := by
                show Kl.Jn _ _ _ _ _ _ _
                rw [HTK.out, ← List.append_assoc]
                exact HJA.out.put HI1.out HI2.out HR5.out HO5.out HB5.out
              have HBQ3 := hide' (HBQ.out.trans ((HBA.out.trans (HB5.out.mono HBA.out.size)).mono HBQ.out.size))
              rw [hk5] at HJ3
              simp only [hk5]
              clear HJA HBA HR5 HO5 HB5 CP3 hk5 HBQ
              go_wp2_with fail
              go_roundw
              case rel => exact ⟨j + 1, Kl.putV Y0 L, by go_num, by omega, HJ3, HBQ3⟩
              case measure => simp [RowKit.intOf]; omega
          · have t2 : ¬ (j : Int) < ((kx : Nat) : Int) := by omega
            have HJ3 : Hid (Kl.Jn W 0 2 ((R.take (i + 1)).flatMap (Kl.fltV 3)) L (.slice pa ka ca) wr) := by
              show Kl.Jn _ _ _ _ _ _ _
              rw [HNX.out]
              have := HJ.out
              rw [List.take_of_length_le (by rw [HKL.out]; omega)] at this
              exact this
            clear HJ CP
            go_wp2_with fail
            go_roundw
            case rel => exact ⟨i + 1, L, by go_num, by omega, HJ3⟩
            case measure => simp [RowKit.intOf]; omega
      · obtain rfl : [Kl.Fv.mk xo xv xn xp xc xl] = PL := by have := HPL.out; unfold Kl.fltV at this; rw [if_neg (show ¬ (Kl.Fv.mk xo xv xn xp xc xl).op = 3 from hop)] at this; exact this
        have b0 : (xo == 3) = false := by simpa using hop
        go_wp2_with fail
        obtain ⟨wq, hwq⟩ : ∃ wq, (wo.alloc (.cells #[.int .i64 xo, .int .i64 xv, .int .i64 xn, .slice xp kx xc] 37)).alloc (.cells #[.int .i64 xo, .int .i64 xv, .int .i64 xn, .slice xp kx xc] 37) = wq := ⟨_, rfl⟩
        have hbq : Below wo.heap.size wo wq := by rw [← hwq]; exact ((Below.refl _ _).alloc (Nat.le_refl _) _).alloc (by simp) _
        obtain ⟨PL, hPL⟩ : ∃ PL, [Kl.Fv.mk xo xv xn xp xc xl] = PL := ⟨_, rfl⟩
        have HPQ : Hid (∀ j y, PL[j]? = some y → ∃ b o, some (⟨wo.heap.size + 1, 0, none⟩ : Addr) = some ⟨b, o, none⟩ ∧ wq.rangeAt b (o + j * 4) y.enc) := fun j y hy => by
          rw [← hPL] at hy
          match j, hy with
          | 0, hy =>
            simp at hy
            subst hy
            refine ⟨_, _, rfl, fun t u hu => ?_⟩
            rw [← hwq]
            simp only [Kl.Fv.enc, HKX.out] at hu
            match t, hu with
            | 0, hu => simp at hu; subst hu; simp
            | 1, hu => simp at hu; subst hu; simp
            | 2, hu => simp at hu; subst hu; simp
            | 3, hu => simp at hu; subst hu; simp
            | t + 4, hu => simp at hu
        have HJ2 := hide' (HJ.out.grow hbq)
        rw [hwq]
        have HKL : Hid (PL.length = 1) := by show PL.length = 1; rw [← hPL]; rfl
        rw [hPL] at HTT HNX
        have hzq : w.heap.size < wq.heap.size := Nat.lt_of_lt_of_le hzo hbq.size
        clear hPL hbq hwq q0 q1 q2 q3 HRX HPL hop b0
        go_loopw [7, 31] (fun a u wr => ∃ (j : Nat) (L : List Kl.Fv), u = .int .i64 j ∧ j ≤ 1 ∧ Hid (Kl.Jn W 0 2 (Q0 ++ PL.take j) L a wr) ∧ Hid (Below wq.heap.size wq wr)) (fun _ u _ => 1 - (RowKit.intOf u).toNat)
        case atStart => exact ⟨0, L, rfl, Nat.zero_le _, by show Kl.Jn _ _ _ _ _ _ _; rw [List.take_zero, List.append_nil]; exact HJ2.out, Below.refl _ _⟩
        case round =>
          clear HJ HJ2 la1 HKA
          obtain ⟨j, L, rfl, hj, HJ, HBQ⟩ := hrel
          obtain ⟨pa, ca, hf, la1, la2⟩ := HJ.out.row.form
          subst hf
          obtain ⟨ka, hka⟩ : ∃ k, L.length = k := ⟨_, rfl⟩
          have HKA := hide' hka
          rw [hka] at la1 HJ
          simp only [hka]
          clear hka
          have hzr : w.heap.size < wr.heap.size := Nat.lt_of_lt_of_le hzq HBQ.out.size
          by_cases hltj : j < 1
          · have t2 : (j : Int) < ((1 : Nat) : Int) := by omega
            obtain ⟨y, hy⟩ := Kl.some_of (l := PL) (i := j) (by rw [HKL.out]; exact hltj)
            obtain ⟨b2, o2, hpp, ry⟩ := HPQ.out j y hy
            have HYF : Hid (y ∈ F) := by show y ∈ F; rw [HTT.out]; exact List.mem_append_left _ (List.mem_append_right _ (List.mem_of_getElem? hy))
            have HTK := hide' (Kl.take_snoc hy)
            have HPF : Hid (∀ z ∈ Q0 ++ PL.take j, z ∈ F) := fun z hz => by
              rw [HTT.out]
              rcases List.mem_append.1 hz with h | h
              · exact List.mem_append_left _ (List.mem_append_left _ h)
              · exact List.mem_append_left _ (List.mem_append_right _ (List.mem_of_mem_take h))
            have HPLN : Hid ((Q0 ++ PL.take j).length ≤ 1048576) := by
              show _ ≤ _
              have h1 := congrArg List.length HTT.out
              have h2 := HN.out
              simp only [List.length_append, List.length_take] at h1 ⊢
              omega
            have CP2 := hide' (CP.out y HYF.out)
            obtain ⟨Y0, hY0⟩ : ∃ Y : Kl.Fv, Y = y := ⟨_, rfl⟩
            rw [← hY0] at HYF HTK
            obtain ⟨yo, yv, yn, yp, yc, yl⟩ := y
            obtain ⟨ky, hky⟩ : ∃ k, yl.length = k := ⟨_, rfl⟩
            have HIC : Hid (∀ v, Kl.isC v (Kl.ct Y0) = (yo == 0 && yv == v)) := fun v => Kl.isC_mk v Y0 yo yv yn yp yc yl hY0
            rw [← hY0] at CP2
            have HYE : Hid (Y0.enc = [.int .i64 yo, .int .i64 yv, .int .i64 yn, .slice yp ky yc]) := by show Y0.enc = _; rw [hY0]; simp only [Kl.Fv.enc, hky]
            obtain ⟨a0, a1, a2, a3⟩ := Kl.cells4 ry
            have hcr : ∀ {a : Addr} {u : Value}, wq.cell? a = some u → wr.cell? a = some u := fun {a u} h => (HBQ.out.cell (p := a) (block_lt_of_cell h)).trans h
            have q0 := hcr a0
            have q1 := hcr a1
            have q2 := hcr a2
            have q3 := hcr a3
            rw [hky] at q3
            simp only [HYE.out] at CP2
            obtain ⟨rfl, rfl⟩ : wo.heap.size + 1 = b2 ∧ 0 = o2 := by simpa using hpp
            simp only [Nat.zero_add] at q0 q1 q2 q3
            clear hy ry hcr a0 a1 a2 a3 hky hY0
            by_cases c0 : yo = 0
            · subst c0
              by_cases c1 : yv = 2
              · subst c1
                have HANY : Hid (Kl.jnM 3 0 2 (R.map Kl.ct) = Kl.cons 2) := (HJM.out []).1 (List.any_eq_true.2 ⟨_, List.mem_map.2 ⟨Y0, HYF.out, rfl⟩, by rw [HIC.out]; rfl⟩)
                clear CP CP2
                go_wp2_with fail
                refine (klRefConst 2 _).mono ?_
                rintro r w5 ⟨rfl, hb⟩
                have HB5 := hide' (HJ.out.bel.trans (((((Below.refl wr.heap.size wr).alloc (Nat.le_refl _) _).trans (hb.mono (by simp)))).mono HJ.out.bel.size))
                clear hb
                obtain ⟨⟨d0, d1, d2, d3⟩, d4, hz5⟩ := HDC.out _ HB5.out
                go_wp2_with fail
                refine bodyPost_ret (v := .agg #[.int .i64 0, .int .i64 2, .int .i64 0, .slice none 0 0]) (by simp [results, Try.results51, go_sem, d0, d1, d2, d3]) rfl ?_
                exact HRES.out _ (.mk 0 2 0 none 0 []) HB5.out (Kl.Ok.leaf _ _ _ _) (by rw [HANY.out]; rfl) (by rw [Kl.fp_leaf]; simp) _ _ _ _ _ _ rfl _ _ _ _
              · have b1 : (yv == 2) = false := by simpa using c1
                by_cases c2 : yv = 0
                · subst c2
                  have HJ3 : Hid (Kl.Jn W 0 2 (Q0 ++ PL.take (j + 1)) L (.slice pa ka ca) (wr.alloc (.cells #[.int .i64 0, .int .i64 0, .int .i64 yn, .slice yp ky yc] 37))) := by
                    show Kl.Jn _ _ _ _ _ _ _
                    rw [HTK.out, ← List.append_assoc]
                    exact (HJ.out.skip (by rw [HIC.out]; rfl) (by rw [HIC.out]; rfl)).grow ((Below.refl _ _).alloc (Nat.le_refl _) _)
                  have HBQ3 := hide' (HBQ.out.alloc HBQ.out.size (.cells #[.int .i64 0, .int .i64 0, .int .i64 yn, .slice yp ky yc] 37))
                  clear HJ HBQ CP CP2
                  go_wp2_with fail
                  go_roundw
                  case rel => exact ⟨j + 1, L, by go_num, by omega, HJ3, HBQ3⟩
                  case measure => simp [RowKit.intOf]; omega
                · have b2 : (yv != 0) = true := by simpa using c2
                  have HI1 : Hid (Kl.isC 2 (Kl.ct Y0) = false) := by show _ = _; rw [HIC.out, b1]; rfl
                  have HI2 : Hid (Kl.isC 0 (Kl.ct Y0) = false) := by show _ = _; rw [HIC.out]; simpa using c2
                  clear c1 c2
                  have HBA : Hid (Below wr.heap.size wr (wr.alloc (.cells #[.int .i64 0, .int .i64 yv, .int .i64 yn, .slice yp ky yc] 37))) := (Below.refl _ _).alloc (Nat.le_refl _) _
                  have HJA := hide' (HJ.out.grow HBA.out)
                  have CP3 := hide' (CP2.out (.slice pa ka ca) L _ (HUP.out _ HJA.out.bel) HJA.out.row (fun z hz => HPF.out z (HJA.out.mem z hz)) (Nat.le_trans HJA.out.len HPLN.out))
                  clear CP CP2 HJ
                  go_wp2_with fail
                  refine CP3.out.mono ?_
                  rintro r w5 ⟨p5, c5, rfl, HR5, HO5, HB5⟩
                  obtain ⟨k5, hk5⟩ : ∃ k, (Kl.putV Y0 L).length = k := ⟨_, rfl⟩
                  have HJ3 : Hid (Kl.Jn W 0 2 (Q0 ++ PL.take (j + 1)) (Kl.putV Y0 L) (.slice p5 (Kl.putV Y0 L).length c5) w5) := by
                    show Kl.Jn _ _ _ _ _ _ _
                    rw [HTK.out, ← List.append_assoc]
                    exact HJA.out.put HI1.out HI2.out HR5.out HO5.out HB5.out
                  have HBQ3 := hide' (HBQ.out.trans ((HBA.out.trans (HB5.out.mono HBA.out.size)).mono HBQ.out.size))
                  rw [hk5] at HJ3
                  simp only [hk5]
                  clear HJA HBA HR5 HO5 HB5 CP3 hk5 HBQ
                  go_wp2_with fail
                  go_roundw
                  case rel => exact ⟨j + 1, Kl.putV Y0 L, by go_num, by omega, HJ3, HBQ3⟩
                  case measure => simp [RowKit.intOf]; omega
            · have b0 : (yo == 0) = false := by simpa using c0
              have b0' : (yo != 0) = true := by simpa using c0
              have HI1 : Hid (Kl.isC 2 (Kl.ct Y0) = false) := by show _ = _; rw [HIC.out, b0]; rfl
              have HI2 : Hid (Kl.isC 0 (Kl.ct Y0) = false) := by show _ = _; rw [HIC.out, b0]; rfl
              clear c0
              have HBA : Hid (Below wr.heap.size wr (wr.alloc (.cells #[.int .i64 yo, .int .i64 yv, .int .i64 yn, .slice yp ky yc] 37))) := (Below.refl _ _).alloc (Nat.le_refl _) _
              have HJA := hide' (HJ.out.grow HBA.out)
              have CP3 := hide' (CP2.out (.slice pa ka ca) L _ (HUP.out _ HJA.out.bel) HJA.out.row (fun z hz => HPF.out z (HJA.out.mem z hz)) (Nat.le_trans HJA.out.len HPLN.out))
              clear CP CP2 HJ
              go_wp2_with fail
              refine CP3.out.mono ?_
              rintro r w5 ⟨p5, c5, rfl, HR5, HO5, HB5⟩
              obtain ⟨k5, hk5⟩ : ∃ k, (Kl.putV Y0 L).length = k := ⟨_, rfl⟩
              have HJ3 : Hid (Kl.Jn W 0 2 (Q0 ++ PL.take (j + 1)) (Kl.putV Y0 L) (.slice p5 (Kl.putV Y0 L).length c5) w5) := by
                show Kl.Jn _ _ _ _ _ _ _
                rw [HTK.out, ← List.append_assoc]
                exact HJA.out.put HI1.out HI2.out HR5.out HO5.out HB5.out
              have HBQ3 := hide' (HBQ.out.trans ((HBA.out.trans (HB5.out.mono HBA.out.size)).mono HBQ.out.size))
              rw [hk5] at HJ3
              simp only [hk5]
              clear HJA HBA HR5 HO5 HB5 CP3 hk5 HBQ
              go_wp2_with fail
              go_roundw
              case rel => exact ⟨j + 1, Kl.putV Y0 L, by go_num, by omega, HJ3, HBQ3⟩
              case measure => simp [RowKit.intOf]; omega
          · have t2 : ¬ (j : Int) < ((1 : Nat) : Int) := by omega
            have HJ3 : Hid (Kl.Jn W 0 2 ((R.take (i + 1)).flatMap (Kl.fltV 3)) L (.slice pa ka ca) wr) := by
              show Kl.Jn _ _ _ _ _ _ _
              rw [HNX.out]
              have := HJ.out
              rw [List.take_of_length_le (by rw [HKL.out]; omega)] at this
              exact this
            clear HJ CP
            go_wp2_with fail
            go_roundw
            case rel => exact ⟨i + 1, L, by go_num, by omega, HJ3⟩
            case measure => simp [RowKit.intOf]; omega
    · have t1 : ¬ (i : Int) < (k1 : Int) := by omega
      obtain rfl : i = k1 := by omega
      have HP : Hid ((R.take i).flatMap (Kl.fltV 3) = F) := by show _ = F; rw [List.take_of_length_le (by rw [K1.out]; omega)]; exact HFD.out
      rw [HP.out] at HJ
      have HRS : Hid (Kl.jnM 3 0 2 (R.map Kl.ct) = Kl.fin1 3 0 (L.map Kl.ct)) := (HJM.out L).2 HJ.out.non HJ.out.con
      have HLO : Hid (∀ x ∈ L, Kl.Ok wo x) := fun x hx => (HFO.out x (HJ.out.mem x hx)).below (HUP.out _ HJ.out.bel)
      obtain ⟨⟨d0, d1, d2, d3⟩, d4, _⟩ := HDC.out _ HJ.out.bel
      clear HCL CP HJM HFO
      by_cases h0 : ka = 0
      · subst h0
        obtain rfl : L = [] := List.eq_nil_of_length_eq_zero HKA.out
        go_wp2_with fail
        refine (klRefConst 0 _).mono ?_
        rintro r w5 ⟨rfl, hb⟩
        have HB5 := hide' (HJ.out.bel.trans (hb.mono HJ.out.bel.size))
        clear hb d0 d1 d2 d3 d4
        obtain ⟨⟨d0, d1, d2, d3⟩, d4, hz5⟩ := HDC.out _ HB5.out
        go_wp2_with fail
        refine bodyPost_ret (v := .agg #[.int .i64 0, .int .i64 0, .int .i64 0, .slice none 0 0]) (by simp [results, Try.results51, go_sem, d0, d1, d2, d3]) rfl ?_
        exact HRES.out _ (.mk 0 0 0 none 0 []) HB5.out (Kl.Ok.leaf _ _ _ _) (by rw [HRS.out]; rfl) (by rw [Kl.fp_leaf]; simp) _ _ _ _ _ _ rfl _ _ _ _
      · by_cases h1 : ka = 1
        · subst h1
          obtain ⟨y, rfl⟩ : ∃ y, L = [y] := by
            have := HKA.out
            match L, this with
            | [y], _ => exact ⟨y, rfl⟩
          obtain ⟨gb, go, rfl, rr⟩ : ∃ b o, pa = some ⟨b, o, none⟩ ∧ wo.rangeAt b o y.enc := by
            rcases HJ.out.row.src with ⟨_, e⟩ | ⟨b, o, c, e, k⟩
            · cases e
            · cases e
              exact ⟨b, o, rfl, by have := k 0 y rfl; rwa [Nat.zero_mul, Nat.add_zero] at this⟩
          have HYO := hide' (HLO.out y (by simp))
          have HYF : Hid (∀ b ∈ Kl.fp y, b ∈ Kl.fps R) := HFP.out y (HJ.out.mem y (by simp))
          have HYC : Hid (Kl.ct y = Kl.jnM 3 0 2 (R.map Kl.ct)) := by show _ = _; rw [HRS.out]; rfl
          have HBO := hide' HJ.out.bel
          have hgl : gb < wo.heap.size := by obtain ⟨yo, yv, yn, yp, yc, yl⟩ := y; exact block_lt_of_cell (Kl.cells4 rr).1
          have hgne : gb ≠ w.heap.size := fun e => by have := HJ.out.own gb rfl; rw [HZ.out] at this; omega
          clear HJ HRS HLO
          have HY0 := HYO
          have HFIN := hide' (fun yo yv yn yp ky yc he => HRES.out wo y HBO.out HYO.out HYC.out (fun b hb => .inl (HYF.out b hb)) yo yv yn yp ky yc he)
          obtain ⟨yo, yv, yn, yp, yc, yl⟩ := y
          obtain ⟨q0, q1, q2, q3⟩ := Kl.cells4 rr
          obtain ⟨ky, hky⟩ : ∃ k, yl.length = k := ⟨_, rfl⟩
          rw [hky] at q3
          have HFIN2 := hide' (HFIN.out yo yv yn yp ky yc (by simp only [Kl.Fv.enc, hky]))
          clear rr hky HFIN HYO HYF HYC HY0
          go_wp2_with fail
          refine bodyPost_ret (v := .agg #[.int .i64 yo, .int .i64 yv, .int .i64 yn, .slice yp ky yc]) (by simp [results, Try.results51, go_sem, d0, d1, d2, d3]) rfl ?_
          exact HFIN2.out _ _ _ _
        · have c0 : ((ka : Int) == 0) = false := by simp; omega
          have c1 : ((ka : Int) == 1) = false := by simp; omega
          have HYC : Hid (Kl.ct (.mk 3 0 0 pa ca L) = Kl.jnM 3 0 2 (R.map Kl.ct)) := by
            show _ = _
            rw [HRS.out, Kl.ct, Kl.cts_map]
            have hll : 2 ≤ L.length := by rw [HKA.out]; omega
            match L, hll with
            | a :: b :: l, _ => rfl
          have HYO : Hid (Kl.Ok wo (.mk 3 0 0 pa ca L)) := Kl.OR.ok (by rw [HKA.out]; exact HJ.out.row) HLO.out _ _ _
          have HYF : Hid (∀ b ∈ Kl.fp (.mk 3 0 0 pa ca L), b ∈ Kl.fps R ∨ W.heap.size ≤ b) := fun b hb => by
            rw [Kl.fp] at hb
            rcases List.mem_append.1 hb with hb | hb
            · obtain ⟨hl, a, rfl, rfl⟩ := Kl.pb_of hb
              rcases HJ.out.row with ⟨e, _⟩ | ⟨g, cap, e, _⟩
              · cases e
              · cases e; exact .inr (HJ.out.own g rfl)
            · obtain ⟨z, hz, hb⟩ := (Kl.fps_mem L b).1 hb
              exact .inl (HFP.out z (HJ.out.mem z hz) b hb)
          have HFIN2 := hide' (HRES.out wo _ HJ.out.bel HYO.out HYC.out HYF.out 3 0 0 pa ka ca (by simp only [Kl.Fv.enc, HKA.out]))
          clear HJ HRS HLO HYC HYO HYF h0 h1
          go_wp2_with fail
          refine bodyPost_ret (v := .agg #[.int .i64 3, .int .i64 0, .int .i64 0, .slice pa ka ca]) (by simp [results, Try.results51, go_sem, d0, d1, d2, d3]) rfl ?_
          exact HFIN2.out _ _ _ _
end Go.Proofs.Ytipnhfnjoaoceaa
