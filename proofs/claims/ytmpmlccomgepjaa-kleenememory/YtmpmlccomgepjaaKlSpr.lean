/-
  THE WALK over (join).spread.
-/
import Derived.Test.YtmpmlccomgepjaaKlSprM
namespace Go.Proofs.Ytmpmlccomgepjaa
open Go.RowKit Go.Lib Go.Sort
namespace Kl
/-- what spread answers -/
def SprE (w : World) (op : Int) (l : List Fv) (r : Ending) (w' : World) : Prop := ∃ v A, r = .returned v ∧ Sp w op l l.length A v w'
theorem Sp.lo {w : World} {op : Int} {l : List Fv} {i : Nat} {A : List Fv} {v : Value} {wr : World} (h : Sp w op l i A v wr) (dj : Dj l) {x : Fv} (hx : l[i]? = some x) (hl : Lo w x) : Lo wr x :=
  hl.keep h.ch fun _ hb hc => dj.take hx hc hb
theorem Sp.len {w : World} {op : Int} {l : List Fv} {i : Nat} {A : List Fv} {v : Value} {wr : World} (h : Sp w op l i A v wr) (hs : szs (l.map ct) ≤ 1048576) : A.length ≤ 1048576 := by
  have h1 := szs_len (A.map ct)
  rw [h.con] at h1
  have h2 := spread_sz op ((l.take i).map ct)
  have h3 : szs ((l.take i).map ct) ≤ szs (l.map ct) := by
    conv => rhs; rw [← List.take_append_drop i l, List.map_append, szs_app]
    omega
  rw [← h.con, List.length_map] at h1
  rw [← h.con] at h2
  omega
theorem Sp.apart {w : World} {op : Int} {l : List Fv} {i : Nat} {A : List Fv} {v : Value} {wr : World} (h : Sp w op l i A v wr) (dj : Dj l) {x : Fv} (hx : l[i]? = some x) (hl : ∀ b ∈ fp x, b < w.heap.size) {b : Nat} (hb : b ∈ fps A ∨ v.ownBlock = some b) : b ∉ fp x := fun hc => by
  rcases h.inn b hb with k | k
  · exact dj.take hx k hc
  · have := hl b hc; omega
theorem Sp.row' {w : World} {op : Int} {l : List Fv} {i : Nat} {A : List Fv} {v : Value} {wr : World} (h : Sp w op l i A v wr) (dj : Dj l) {x : Fv} (hx : l[i]? = some x) (hl : ∀ b ∈ fp x, b < w.heap.size) {w1 : World} (hc : Chs (fp x) wr w1) :
    OR w1 v A ∧ ∀ z ∈ A, Ok w1 z ∧ ∀ g, v.ownBlock = some g → g ∉ fp z :=
  ⟨h.row.keep fun b hb hlt => hc.block b hlt (h.apart dj hx hl (.inr hb)), fun z hz => ⟨hc.ok (h.els z hz).1 fun b hb => h.apart dj hx hl (.inl ((fps_mem A b).2 ⟨z, hz, hb⟩)), (h.els z hz).2⟩⟩
theorem Sp.dp' {w : World} {op : Int} {l : List Fv} {i : Nat} {A : List Fv} {v : Value} {wr : World} (h : Sp w op l i A v wr) (dj : Dj l) {x : Fv} (hx : l[i]? = some x) (hl : ∀ b ∈ fp x, b < w.heap.size) {w1 : World} (hc : Chs (fp x) wr w1) : ∀ z ∈ A, Dp w1 z :=
  fun z hz => hc.dp (h.dps z hz) fun b hb => h.apart dj hx hl (.inl ((fps_mem A b).2 ⟨z, hz, hb⟩))
theorem ct_op (x : Fv) : (ct x).op = x.op := by cases x; rw [ct_mk]; rfl
theorem Sp.ordr {w : World} {op : Int} {l : List Fv} {i : Nat} {A : List Fv} {v : Value} {wr : World} (h : Sp w op l i A v wr) (dj : Dj l) {x : Fv} (hx : l[i]? = some x) (hl : ∀ b ∈ fp x, b < w.heap.size) (hop : x.op ≠ op) {w1 : World} (hc : Chs (fp x) wr w1) {y : Fv} (hy : Lo w1 y) (hcy : ct y = ord (ct x)) (hfy : ∀ b ∈ fp y, b ∈ fp x) {v' : Value} {w2 : World}
    (ap : OR w2 v' (A ++ [y])) (gb : w1.grownBy w2 v.ownBlock) (hat : v'.ownBlock = v.ownBlock ∨ v'.ownBlock = some w1.heap.size) : Sp w op l (i + 1) (A ++ [y]) v' w2 := by
  refine h.app hx hc (v0 := v) (fun z hz => ?_) (fun b hb => ?_) ?_ ap gb hat (fun hal z hz => ?_) (fun z hz => ?_) (h.dj.append (Dj.one y) fun b hb hc => h.apart dj hx hl (.inl hb) (hfy b (by simpa [fps] using hc)))
  · rcases List.mem_append.1 hz with hz | hz
    · exact (h.row' dj hx hl hc).2 z hz
    · simp at hz
      rw [hz]
      exact ⟨hy.ok, fun g hg hb => h.apart dj hx hl (.inr hg) (hfy g hb)⟩
  · rcases hb with hb | hb
    · obtain ⟨z, hz, hb⟩ := (fps_mem _ b).1 hb
      rcases List.mem_append.1 hz with hz | hz
      · exact .inl (.inl ((fps_mem A b).2 ⟨z, hz, hb⟩))
      · simp at hz; rw [hz] at hb; exact .inr (hfy b hb)
    · exact .inl (.inr hb)
  · unfold sprd
    rw [ct_op, if_pos hop, List.map_append, ← hcy]
    rfl
  · rcases List.mem_append.1 hz with hz | hz
    · exact (h.low (fun y hy => hal y (by rw [take_snoc hx]; exact List.mem_append_left _ hy)) z hz).keep hc fun b hb => h.apart dj hx hl (.inl ((fps_mem A b).2 ⟨z, hz, hb⟩))
    · simp at hz; rw [hz]; exact hy
  · rcases List.mem_append.1 hz with hz | hz
    · exact h.dp' dj hx hl hc z hz
    · simp at hz; rw [hz]; exact hy.dp
theorem Sp.more {w : World} {op : Int} {l : List Fv} {i : Nat} {A : List Fv} {v : Value} {wr : World} (h : Sp w op l i A v wr) (dj : Dj l) {xv xn : Int} {gx xc : Nat} {M : List Fv} (hx : l[i]? = some (.mk op xv xn (some ⟨gx, 0, none⟩) xc M)) (hl : ∀ b ∈ fp (.mk op xv xn (some ⟨gx, 0, none⟩) xc M), b < w.heap.size) (hM : 0 < M.length) {w1 : World} (hc : Chs (fp (.mk op xv xn (some ⟨gx, 0, none⟩) xc M)) wr w1) (hr : LoR w1 gx xc M) {v' : Value} {w2 : World} :
    (M.length ≤ A.length → OR w2 v' (A ++ M) → w1.grownBy w2 v.ownBlock → (v'.ownBlock = v.ownBlock ∨ v'.ownBlock = some w1.heap.size) → Sp w op l (i + 1) (A ++ M) v' w2) ∧
    (A.length < M.length → OR w2 v' (M ++ A) → w1.grownBy w2 (some gx) → (v'.ownBlock = some gx ∨ v'.ownBlock = some w1.heap.size) → Sp w op l (i + 1) (M ++ A) v' w2) := by
  have hg := fp_row op xv xn gx xc hM
  have hin : ∀ z ∈ M, ∀ b ∈ fp z, b ∈ fp (.mk op xv xn (some ⟨gx, 0, none⟩) xc M) := fun z hz b hb => fp_in op xv xn _ xc ((fps_mem M b).2 ⟨z, hz, hb⟩)
  obtain ⟨_, hA⟩ := h.row' dj hx hl hc
  have hinn : ∀ b, b ∈ fps A ∨ b ∈ fps M → (b ∈ fps A ∨ v.ownBlock = some b) ∨ b ∈ fp (.mk op xv xn (some ⟨gx, 0, none⟩) xc M) := fun b hb => by
    rcases hb with hb | hb
    · exact .inl (.inl hb)
    · obtain ⟨z, hz, hb⟩ := (fps_mem M b).1 hb
      exact .inr (hin z hz b hb)
  have hfa : ∀ X Y : List Fv, ∀ b, b ∈ fps (X ++ Y) → b ∈ fps X ∨ b ∈ fps Y := fun X Y b hb => by
    obtain ⟨z, hz, hb⟩ := (fps_mem _ b).1 hb
    rcases List.mem_append.1 hz with hz | hz
    · exact .inl ((fps_mem X b).2 ⟨z, hz, hb⟩)
    · exact .inr ((fps_mem Y b).2 ⟨z, hz, hb⟩)
  have hdA := h.dp' dj hx hl hc
  have hap : ∀ b ∈ fps A, b ∉ fps M := fun b hb hc => by
    obtain ⟨z, hz, hc⟩ := (fps_mem M b).1 hc
    exact h.apart dj hx hl (.inl hb) (hin z hz b hc)
  refine ⟨fun hlen ap gb hat => ?_, fun hlen ap gb hat => ?_⟩
  · refine h.app hx hc (v0 := v) (fun z hz => ?_) (fun b hb => ?_) ?_ ap gb hat (fun hal => absurd rfl (hal (.mk op xv xn (some ⟨gx, 0, none⟩) xc M) (by rw [take_snoc hx]; simp))) (fun z hz => (List.mem_append.1 hz).elim (hdA z) (hr.3 z)) (h.dj.append hr.4 hap)
    · rcases List.mem_append.1 hz with hz | hz
      · exact hA z hz
      · exact ⟨(hr.2 z hz).1, fun g hg hb => h.apart dj hx hl (.inr hg) (hin z hz g hb)⟩
    · rcases hb with hb | hb
      · exact hinn b (hfa A M b hb)
      · exact .inl (.inr hb)
    · unfold sprd
      rw [ct_mk, if_neg (by simp [Fm.op]), if_neg (by simp only [Fm.ar, List.length_map]; omega), List.map_append]
      rfl
  · refine h.app hx hc (v0 := .slice (some ⟨gx, 0, none⟩) M.length xc) (fun z hz => ?_) (fun b hb => ?_) ?_ ap gb hat (fun hal => absurd rfl (hal (.mk op xv xn (some ⟨gx, 0, none⟩) xc M) (by rw [take_snoc hx]; simp))) (fun z hz => (List.mem_append.1 hz).elim (hr.3 z) (hdA z)) (hr.4.append h.dj fun b hb hc => hap b hc hb)
    · rcases List.mem_append.1 hz with hz | hz
      · exact ⟨(hr.2 z hz).1, fun g hg => by cases hg; exact (hr.2 z hz).2⟩
      · exact ⟨(hA z hz).1, fun g hgg hb => by cases hgg; exact h.apart dj hx hl (.inl ((fps_mem A gx).2 ⟨z, hz, hb⟩)) hg⟩
    · rcases hb with hb | hb
      · exact hinn b (Or.symm (hfa M A b hb))
      · cases hb; exact .inr hg
    · unfold sprd
      rw [ct_mk, if_neg (by simp [Fm.op]), if_pos (by simp only [Fm.ar, List.length_map]; omega), List.map_append]
      rfl
end Kl
set_option maxRecDepth 100000 in
set_option maxHeartbeats 4000000 in
theorem klSpread (op id st : Int) (gp c : Nat) (l : List Kl.Fv) (w : World) (hrow : Kl.Rw w gp c l.length (Kl.nth l)) (hlo : ∀ x ∈ l, Kl.Lo w x) (dj : Kl.Dj l) (hgp : gp ∉ Kl.fps l) (hs : Kl.szs (l.map Kl.ct) ≤ 1048576) (ho : op = 2 ∨ op = 3) :
    Calls Try.prog 70 #[.agg #[.int .i64 op, .int .i64 id, .int .i64 st], .slice (some ⟨gp, 0, none⟩) l.length c] w fun r w' => Kl.SprE (w.alloc (.cells #[.int .i64 op, .int .i64 id, .int .i64 st] 61)) op l r w' := by
  have l1 := hrow.len
  have l2 : c ≤ 9223372036854775807 := by have := hrow.max; unfold maxLen at this; exact this
  have hgw := hrow.lt
  have hlt : ∀ b ∈ Kl.fps l, b < w.heap.size := fun b hb => by
    obtain ⟨x, hx, hb⟩ := (Kl.fps_mem l b).1 hb
    exact (hlo x hx).ok.lt x b hb
  obtain ⟨W, hWd⟩ : ∃ W, w.alloc (.cells #[.int .i64 op, .int .i64 id, .int .i64 st] 61) = W := ⟨_, rfl⟩
  have HBW : Hid (Below w.heap.size w W) := by rw [← hWd]; exact (Below.refl _ _).alloc (Nat.le_refl _) _
  have HZ : Hid (W.heap.size = w.heap.size + 1) := by show W.heap.size = _; rw [← hWd]; simp
  have HJ : Hid (W.cell? ⟨w.heap.size, 0, none⟩ = some (.int .i64 op)) := by show W.cell? _ = _; rw [← hWd]; simp
  rw [hWd]
  have HLO : Hid (∀ x ∈ l, Kl.Lo W x) := fun x hx => (hlo x hx).keep (Kl.Chs.of_below (L := []) HBW.out) fun _ _ => by simp
  obtain ⟨n, hn⟩ : ∃ n, l.length = n := ⟨_, rfl⟩
  have HN := hide' hn
  have HR := hide' hrow
  have HD := hide' dj
  have HG := hide' hgp
  have HS := hide' hs
  have HLT := hide' hlt
  have HO := hide' ho
  clear ho
  rw [hn] at l1 ⊢
  have HWd := hide' hWd
  clear hn hrow dj hgp hs hlt hlo hWd
  go_enter Try.func70, Try.ntmps70
  go_wp2_with fail
  rw [HWd.out]
  go_loopw [5, 11] (fun a z wr => ∃ (i : Nat) (A : List Kl.Fv), z = .int .i64 i ∧ i ≤ n ∧ Hid (Kl.Sp W op l i A a wr)) (fun _ z _ => n - (RowKit.intOf z).toNat)
  case atStart => exact ⟨0, [], rfl, Nat.zero_le _, ⟨.inl ⟨rfl, rfl⟩, rfl, (fun x hx => by cases hx), (fun b hb => by rcases hb with hb | hb <;> simp [Kl.fps, Value.ownBlock] at hb), Kl.Chs.of_below (Below.refl _ _), (fun _ x hx => by cases hx), (fun x hx => by cases hx), Kl.Dj.nil⟩⟩
  case round =>
    obtain ⟨i, A, rfl, hi, HP⟩ := hrel
    by_cases hlt : i < n
    · have t1 : (i : Int) < (n : Int) := by omega
      obtain ⟨x, hx⟩ := Kl.some_of (l := l) (i := i) (by rw [HN.out]; exact hlt)
      have hgt : gp ∉ Kl.fps (l.take i) := fun hb => HG.out (by
        obtain ⟨y, hy, hb⟩ := (Kl.fps_mem _ gp).1 hb
        exact (Kl.fps_mem l gp).2 ⟨y, List.mem_of_mem_take hy, hb⟩)
      have hjt : w.heap.size ∉ Kl.fps (l.take i) := fun hb => by
        obtain ⟨y, hy, hb⟩ := (Kl.fps_mem _ _).1 hb
        have := HLT.out _ ((Kl.fps_mem l _).2 ⟨y, List.mem_of_mem_take hy, hb⟩)
        omega
      obtain ⟨rj, _⟩ := Kl.chs_rules HP.out.ch (B := w.heap.size) (by rw [HZ.out]; omega) hjt
      have j0 := (rj 0).trans HJ.out
      have hzw : w.heap.size < wr.heap.size := by have := HP.out.ch.size; rw [HZ.out] at this; omega
      obtain ⟨rg, _⟩ := Kl.chs_rules HP.out.ch (B := gp) (by rw [HZ.out]; omega) hgt
      have rx := HR.out.rng i (by rw [HN.out]; exact hlt)
      rw [Kl.nth_some hx] at rx
      obtain ⟨p, ca, rfl, la1, la2⟩ := HP.out.row.form
      have hlx : Kl.Lo wr x := HP.out.lo HD.out hx (HLO.out x (List.mem_of_getElem? hx))
      have hszx : Kl.sz (Kl.ct x) ≤ 1048576 := Nat.le_trans (Kl.szs_mem (List.mem_map.2 ⟨x, List.mem_of_getElem? hx, rfl⟩)) HS.out
      have HX := hide' hx
      have HLX := hide' hlx
      have HSX := hide' hszx
      obtain ⟨ka, hka⟩ : ∃ k, A.length = k := ⟨_, rfl⟩
      have HKA := hide' hka
      rw [hka] at la1
      simp only [hka]
      by_cases hop : x.op = op
      · have hlw : ∀ b ∈ Kl.fp x, b < W.heap.size := fun b hb => (HLO.out x (List.mem_of_getElem? HX.out)).ok.lt x b hb
        obtain ⟨xv, xn, gx, xc, M, hxe, hM2, hLR⟩ : ∃ xv xn gx xc M, x = .mk op xv xn (some ⟨gx, 0, none⟩) xc M ∧ 2 ≤ M.length ∧ Kl.LoR wr gx xc M := by
          have ho := HO.out
          rcases HLX.out with h | ⟨y, g, c', rfl, _⟩
          · obtain ⟨xo, xv, xn, xp, xc, xl⟩ := x
            have hop' : xo = op := hop
            rcases h with ⟨_, _, _, h⟩ | ⟨_, h2, g, rfl, h4⟩
            · omega
            · subst hop'
              exact ⟨xv, xn, g, xc, xl, rfl, Kl.len2 h2, h4⟩
          · have hop' : (4 : Int) = op := hop
            omega
        subst hxe
        obtain ⟨kx, hkx⟩ : ∃ k, M.length = k := ⟨_, rfl⟩
        obtain ⟨a0, a1, a2, a3⟩ := Kl.cells4 rx
        have q0 := (rg _).trans ((HBW.out.cell (p := ⟨gp, i * 4, none⟩) hgw).trans a0)
        have q1 := (rg _).trans ((HBW.out.cell (p := ⟨gp, i * 4 + 1, none⟩) hgw).trans a1)
        have q2 := (rg _).trans ((HBW.out.cell (p := ⟨gp, i * 4 + 2, none⟩) hgw).trans a2)
        have q3 := (rg _).trans ((HBW.out.cell (p := ⟨gp, i * 4 + 3, none⟩) hgw).trans a3)
        simp only [hkx] at q3
        have hMl : kx ≤ 1048576 := by
          have h1 := Kl.szs_len (M.map Kl.ct)
          rw [List.length_map, hkx] at h1
          have h2 := hszx
          rw [Kl.ct_mk, Kl.sz] at h2
          omega
        have hal := HP.out.len HS.out
        rw [hka] at hal
        have HKX := hide' hkx
        have HLW := hide' hlw
        have HLR := hide' (hLR.below ((Below.refl wr.heap.size wr).alloc (Nat.le_refl _) (.cells #[.int .i64 op, .int .i64 xv, .int .i64 xn, .slice (some ⟨gx, 0, none⟩) kx xc] 26)))
        have HM2 := hide' hM2
        have HCA : Hid (Kl.Chs (Kl.fp (.mk op xv xn (some ⟨gx, 0, none⟩) xc M)) wr (wr.alloc (.cells #[.int .i64 op, .int .i64 xv, .int .i64 xn, .slice (some ⟨gx, 0, none⟩) kx xc] 26))) := Kl.Chs.of_below ((Below.refl _ _).alloc (Nat.le_refl _) _)
        have HRA := hide' (HP.out.row' HD.out HX.out hlw HCA.out).1
        have HRM : Hid (Kl.OR (wr.alloc (.cells #[.int .i64 op, .int .i64 xv, .int .i64 xn, .slice (some ⟨gx, 0, none⟩) kx xc] 26)) (.slice (some ⟨gx, 0, none⟩) kx xc) M) := .inr ⟨gx, xc, by rw [hkx], HLR.out.1⟩
        rw [hka] at HRA
        clear a0 a1 a2 a3 rx rg rj hx hlx hszx hka hkx hgt hjt hop hlw hLR hM2
        by_cases hm : ka < kx
        · have tm : (ka : Int) < (kx : Int) := by omega
          go_wp2_with (first | (at_builtin; refine Kl.wpList_app rfl (.tmp 34) (.tmp 35) rfl (.slice (some ⟨gx, 0, none⟩) kx xc) (.slice p ka ca) M A rfl rfl ?d1 ?d2 ?d3 ?_))
          case d1 => exact HRM.out
          case d2 => exact HRA.out.src
          case d3 => rw [HKA.out, HKX.out]; omega
          intro v' w2 ap gb hat
          have HSP : Hid (Kl.Sp W op l (i + 1) (M ++ A) v' w2) := (HP.out.more HD.out HX.out HLW.out (by have := HM2.out; omega) HCA.out HLR.out).2 (by rw [HKA.out, HKX.out]; exact hm) ap gb (by simpa [Value.ownBlock] using hat)
          clear ap gb hat q0 q1 q2 q3
          go_wp2_with fail
          go_roundw
          case rel => exact ⟨i + 1, M ++ A, by go_num, by omega, HSP⟩
          case measure => simp [RowKit.intOf]; omega
        · have tm : ¬ (ka : Int) < (kx : Int) := by omega
          go_wp2_with (first | (at_builtin; refine Kl.wpList_app rfl (.tmp 34) (.tmp 35) rfl (.slice p ka ca) (.slice (some ⟨gx, 0, none⟩) kx xc) A M rfl rfl ?e1 ?e2 ?e3 ?_))
          case e1 => exact HRA.out
          case e2 => exact HRM.out.src
          case e3 => rw [HKA.out, HKX.out]; omega
          intro v' w2 ap gb hat
          have HSP : Hid (Kl.Sp W op l (i + 1) (A ++ M) v' w2) := (HP.out.more HD.out HX.out HLW.out (by have := HM2.out; omega) HCA.out HLR.out).1 (by rw [HKA.out, HKX.out]; omega) ap (by rw [HKA.out]; exact gb) (by rw [HKA.out]; simpa using hat)
          clear ap gb hat q0 q1 q2 q3
          go_wp2_with fail
          go_roundw
          case rel => exact ⟨i + 1, A ++ M, by go_num, by omega, HSP⟩
          case measure => simp [RowKit.intOf]; omega
      · have hlw : ∀ b ∈ Kl.fp x, b < W.heap.size := fun b hb => (HLO.out x (List.mem_of_getElem? HX.out)).ok.lt x b hb
        have cO : ∀ W', Below wr.heap.size wr W' → Calls Try.prog 17 #[.agg x.enc.toArray] W' fun r w' => ∃ (y : Kl.Fv) (yo yv yn : Int) (yp : Option Addr) (ky yc : Nat), r = .returned (.agg #[.int .i64 yo, .int .i64 yv, .int .i64 yn, .slice yp ky yc]) ∧ Hid (y.enc = [.int .i64 yo, .int .i64 yv, .int .i64 yn, .slice yp ky yc]) ∧ Hid (Kl.Lo w' y ∧ Kl.ct y = Kl.ord (Kl.ct x) ∧ (∀ b ∈ Kl.fp y, b ∈ Kl.fp x) ∧ Kl.Chs (Kl.fp x) wr w') := fun W' hb => (klOrdered x W' (HLX.out.keep (Kl.Chs.of_below (L := []) hb) (fun _ _ => by simp)) HSX.out).mono fun r w' h => by
          obtain ⟨y, h1, h2, h3, h4, h5⟩ := h
          obtain ⟨yo, yv, yn, yp, yc, yl⟩ := y
          exact ⟨.mk yo yv yn yp yc yl, yo, yv, yn, yp, yl.length, yc, h1, rfl, h2, h3, h4, (Kl.Chs.of_below hb).trans h5⟩
        have hopb : (x.op != op) = true := by simpa using hop
        have HOP := hide' hop
        have HLW := hide' hlw
        have HXF := hide' hx
        obtain ⟨xo, xv, xn, xp, xc, xl⟩ := x
        obtain ⟨kx, hkx⟩ : ∃ k, xl.length = k := ⟨_, rfl⟩
        obtain ⟨a0, a1, a2, a3⟩ := Kl.cells4 rx
        have q0 := (rg _).trans ((HBW.out.cell (p := ⟨gp, i * 4, none⟩) hgw).trans a0)
        have q1 := (rg _).trans ((HBW.out.cell (p := ⟨gp, i * 4 + 1, none⟩) hgw).trans a1)
        have q2 := (rg _).trans ((HBW.out.cell (p := ⟨gp, i * 4 + 2, none⟩) hgw).trans a2)
        have q3 := (rg _).trans ((HBW.out.cell (p := ⟨gp, i * 4 + 3, none⟩) hgw).trans a3)
        simp only [hkx] at q3
        have ex : (Kl.Fv.mk xo xv xn xp xc xl).enc.toArray = #[.int .i64 xo, .int .i64 xv, .int .i64 xn, .slice xp kx xc] := by simp only [Kl.Fv.enc, hkx]
        simp only [ex] at cO
        have hopb2 : (xo != op) = true := hopb
        have CO := hide' cO
        clear a0 a1 a2 a3 rx rg rj hx hlx hszx cO hopb hka hkx hgt hjt hop hlw ex
        go_wp2_with (first | (go_at_call 17; refine (CO.out _ ((Below.refl _ _).alloc (Nat.le_refl _) _)).mono ?_; rintro r w1 ⟨y, yo, yv, yn, yp, ky, yc, rfl, HYE, HY⟩) | (at_builtin; refine Kl.wpList_app rfl (.tmp 20) (.tmp 23) rfl (.slice p ka ca) (.slice (some ⟨w1.heap.size, 0, none⟩) 1 1) A [y] rfl rfl ?c1 ?c2 ?c3 ?_))
        case c1 => exact (HP.out.row' HD.out HX.out HLW.out (HY.out.2.2.2.trans (Kl.Chs.of_below ((Below.refl _ _).alloc (Nat.le_refl _) _)))).1 |> fun h => by rw [HKA.out] at h; exact h
        case c2 => exact .inr ⟨_, 0, 1, rfl, fun j z hz => by
          match j, hz with
          | 0, hz =>
            simp at hz
            subst hz
            rw [HYE.out]
            intro t u hu
            match t, hu with
            | 0, hu => simp at hu; subst hu; simp
            | 1, hu => simp at hu; subst hu; simp
            | 2, hu => simp at hu; subst hu; simp
            | 3, hu => simp at hu; subst hu; simp
            | t + 4, hu => simp at hu⟩
        case c3 => have := HP.out.len HS.out; simp; omega
        intro v' w2 ap gb hat
        have HSP : Hid (Kl.Sp W op l (i + 1) (A ++ [y]) v' w2) := HP.out.ordr HD.out HX.out HLW.out HOP.out (HY.out.2.2.2.trans (Kl.Chs.of_below ((Below.refl _ _).alloc (Nat.le_refl _) _))) (HY.out.1.keep (Kl.Chs.of_below (L := []) ((Below.refl _ _).alloc (Nat.le_refl _) _)) (fun _ _ => by simp)) HY.out.2.1 HY.out.2.2.1 ap (by rw [HKA.out]; exact gb) (by rw [HKA.out]; simpa using hat)
        clear ap gb hat CO q0 q1 q2 q3 HY HYE
        go_wp2_with fail
        go_roundw
        case rel => exact ⟨i + 1, A ++ [y], by go_num, by omega, HSP⟩
        case measure => simp [RowKit.intOf]; omega
    · have t1 : ¬ (i : Int) < (n : Int) := by omega
      obtain rfl : i = n := by omega
      go_wp2_with fail
      go_ret
      exact ⟨_, A, rfl, by rw [HN.out]; exact HP.out⟩
end Go.Proofs.Ytmpmlccomgepjaa
